/- package disk: New, Twin, Image. -/
import Derived.Test.YtpafgoaeokgfcaaGreatDoorDskCh
import Derived.Laws.OwnMore
namespace Go.Proofs.YtpafgoaeokgfcaaGreatDoor
open Go Go.RowKit
set_option maxRecDepth 100000

/-- A slice of sectors in new memory. -/
def BlkNew (l : List Int) (n : Nat) (w : World) (e : Ending) (w' : World) : Prop := ∃ D cap rest, e = .returned (.slice (some ⟨D, 0, none⟩) n cap) ∧ w.heap.size ≤ D ∧ Blk w' D 79 (ints .u8 l ++ rest) ∧ Below w.heap.size w w'
theorem bclone_walk (pb n c : Nat) (l : List Int) (r : List Value) (w : World) (hb : Blk w pb 79 (ints .u8 l ++ r)) (hl : l.length = 64 * n) (h0 : 1 ≤ n) (hn : n ≤ 4096) : Calls Tryz.prog 48 #[.slice (some ⟨pb, 0, none⟩) n c] w (BlkNew l n w) := by
  obtain ⟨i0, hi, hz0, hz1, hz2⟩ := info_parts infoBlock3
  have HR : Hid ((w.alloc (.cells #[] 79)).rangeAt pb 0 (ints .u8 l)) := fun j v hv => by
    refine (hb.alloc _).cell ?_
    rw [Nat.zero_add, List.getElem?_append_left (List.getElem?_eq_some_iff.1 hv).1]
    exact hv
  have HFL : Hid ((ints .u8 l).length = n * 64) := by unfold Hid; rw [ints_length, hl]; omega
  have HI := Lib.hid hi
  have HZ0 := Lib.hid hz0
  have HZ1 := Lib.hid hz1
  have HZ2 := Lib.hid hz2
  have HOE : Hid ((w.alloc (.cells #[] 79)).ownsRow w.heap.size 79 64 (.slice (some ⟨w.heap.size, 0, none⟩) 0 0) 0 []) :=
    ⟨rfl, Or.inr ⟨w.heap.size, 0, #[], rfl, Nat.le_refl _, heap_alloc_last w _, Nat.le_refl _, by unfold maxLen; omega, rfl, rfl⟩⟩
  clear hi hz0 hz1 hz2 hb hl
  have hnil : ∀ w, (binOp BinOp.eql 61 (.slice (some ⟨pb, 0, none⟩) n c) (.slice none 0 0)).run Tryz.prog w = .ok (.bool false) w := fun w => by kernel_rfl
  go_enter Tryz.func48, Tryz.ntmps48
  go_wp2_with (with_reducible refine wpList_append_own _ (o := ⟨some 7, _, _, _, _, _⟩) ?a1 (.tmp 5) (.tmp 6) 61 ?a2 w.heap.size 79 i0 _ 64 64 Tryz.underlying61 HI.out HZ0.out HZ1.out HZ2.out ?a3 ?a4 (.slice (some ⟨w.heap.size, 0, none⟩) 0 0) 0 [] ?a5 HOE.out ⟨pb, 0, none⟩ n c (ints .u8 l) ?a6 HFL.out ?a7 (ints_one _ _) ?a8 ?a9 ?a10 ?_)
  case a1 => rfl
  case a2 => rfl
  case a3 => rfl
  case a4 => decide
  all_goals try (case a5 => rfl)
  all_goals try (case a6 => rfl)
  case a7 => intro j v hv; rw [Addr.add_mid]; exact HR.out j v hv
  case a8 => unfold maxLen; omega
  case a9 => omega
  case a10 => simp
  intro v' w' h1 h2 h3
  have HB : Hid (Below w.heap.size w w') := ((Below.refl w.heap.size w).alloc (Nat.le_refl _) _).grown h2 (by simp) (fun k hk => by simp [Value.ownBlock] at hk; omega)
  obtain ⟨hle, hw⟩ := h1
  rcases hw with ⟨rfl, h0'⟩ | ⟨g, cap, cur, rfl, hb, hg, hc, hcm, hcs, ht⟩
  · exfalso; omega
  · have HD : Hid (Blk w' g 79 (ints .u8 l ++ cur.toList.drop ((0 + n) * 64))) := by
      unfold Hid Blk
      rw [hg]
      have e : (ints .u8 l ++ cur.toList.drop ((0 + n) * 64)).toArray = cur := by
        have h4 : ints .u8 l = cur.toList.take ((0 + n) * 64) := by simpa using ht.symm
        rw [h4, List.take_append_drop]
      rw [e]
    have HG := Lib.hid hb
    clear h2 h3 hle hb hg hc hcm hcs ht
    go_wp2
    go_ret
    exact ⟨g, cap, _, by simp, HG.out, HD.out, HB.out⟩
/-- A new disk. -/
def DkNew (sz : Nat) (l : List Int) (w : World) (e : Ending) (w' : World) : Prop := ∃ d F, e = .returned (.pointer (some ⟨d, 0, none⟩)) ∧ Dk w' F d sz l l [] (-1) ∧ Step [] w F w'
theorem holding_walk (pb n c : Nat) (l : List Int) (r : List Value) (w : World) (hb : Blk w pb 79 (ints .u8 l ++ r)) (hl : l.length = 64 * n) (h0 : 1 ≤ n) (hn : n ≤ 4096) : Calls Tryz.prog 28 #[.slice (some ⟨pb, 0, none⟩) n c] w (DkNew n l w) := by
  have HB := Lib.hid hb
  have HL := Lib.hid hl
  clear hb hl
  go_enter Tryz.func28, Tryz.ntmps28
  go_wp2_with fail
  refine (bclone_walk pb n c l r _ HB.out HL.out h0 hn).mono ?_
  rintro e w1 ⟨D1, cap1, rest1, rfl, hD1, hb1, hbe1⟩
  have B1 := Lib.hid hb1
  have BE1 := Lib.hid hbe1
  have HB1 := Lib.hid (HB.out.below hbe1 HB.out.lt)
  clear hb1 hbe1
  go_wp2_with fail
  refine (bclone_walk pb n c l r _ HB1.out HL.out h0 hn).mono ?_
  rintro e w2 ⟨D2, cap2, rest2, rfl, hD2, hb2, hbe2⟩
  have B2 := Lib.hid hb2
  have BE2 := Lib.hid (BE1.out.trans (hbe2.mono BE1.out.size))
  have B12 := Lib.hid (B1.out.below hbe2 B1.out.lt)
  have h12 : D1 < w1.heap.size := B1.out.lt
  have h22 : D2 < w2.heap.size := B2.out.lt
  have hsz := hbe2.size
  clear hb2 hbe2 B1 BE1 HB1
  go_wp2
  go_ret
  have NB : Blk (w2.alloc (.cells #[.slice (some ⟨D1, 0, none⟩) n cap1, .slice (some ⟨D2, 0, none⟩) n cap2, .slice none 0 0, .int .i64 (-1)] 77)) w2.heap.size 77 (dcells n D1 D2 cap1 cap2 (.slice none 0 0) (-1)) := Blk.new2 _ _ _ _ _ rfl rfl
  have BEF := BE2.out.alloc BE2.out.size (.cells #[.slice (some ⟨D1, 0, none⟩) n cap1, .slice (some ⟨D2, 0, none⟩) n cap2, .slice none 0 0, .int .i64 (-1)] 77)
  have hw2 := BE2.out.size
  refine ⟨w2.heap.size, foot w2.heap.size D1 D2 (.slice none 0 0), rfl, ⟨D1, D2, cap1, cap2, rest1, rest2, _, rfl, ⟨NB, B12.out.alloc _, B2.out.alloc _, ⟨rfl, .inl ⟨rfl, rfl⟩⟩, by omega, by omega, by omega, (fun g hg => by cases hg), HL.out, HL.out, (fun x hx => by simp at hx), h0, hn⟩⟩, ⟨BEF.os, BEF.tape, BEF.output, BEF.size, fun k hk _ => BEF.block k hk, fun k hk => ?_⟩⟩
  simp only [foot, Value.ownBlock, Option.toList_none, List.mem_cons, List.not_mem_nil, or_false] at hk
  rcases hk with rfl | rfl | rfl
  · exact .inr (by omega)
  · exact .inr hD1
  · exact .inr (by omega)
theorem new_no (n : Int) (hn : n < 1 ∨ 4096 < n) (w : World) : Calls Tryz.prog 7 #[.int .i64 n] w fun e w' => e = .returned (.tuple #[.pointer none, .int .i64 11]) ∧ w = w' := by
  by_cases h : n < 1
  · go_enter Tryz.func7, Tryz.ntmps7
    go_wp2
    go_ret2
    exact ⟨rfl, rfl⟩
  · have h2 : 4096 < n := by omega
    go_enter Tryz.func7, Tryz.ntmps7
    go_wp2
    go_ret2
    exact ⟨rfl, rfl⟩
set_option maxHeartbeats 1000000 in
theorem new_yes (n : Nat) (h0 : 1 ≤ n) (hn : n ≤ 4096) (w : World) : Calls Tryz.prog 7 #[.int .i64 (n : Int)] w fun e w' => ∃ d F, e = .returned (.tuple #[.pointer (some ⟨d, 0, none⟩), .int .i64 0]) ∧ Dk w' F d n (zeros (64 * n)) (zeros (64 * n)) [] (-1) ∧ Step [] w F w' := by
  obtain ⟨i0, hi, hz0, hz1, hz2⟩ := info_parts infoBlock3
  have HI := Lib.hid hi
  have HZ0 := Lib.hid hz0
  have HZ1 := Lib.hid hz1
  have hB6 : Hid (i0.bytes * n ≤ 281474976710656) := by unfold Hid; rw [hz2]; omega
  have hB7 : Hid (n ≤ maxLen) := by unfold Hid maxLen; omega
  have q1 : ¬ ((n : Int) < 1) := by omega
  have q2 : ¬ ((4096 : Int) < (n : Int)) := by omega
  clear hi hz0 hz1 hz2
  go_enter Tryz.func7, Tryz.ntmps7
  go_wp2_with (refine wpList_make_full _ rfl _ _ 61 rfl w.heap.size 79 i0 (.agg (ints .u8 zB).toArray) 64 Tryz.underlying61 HI.out HZ0.out HZ1.out _ _ _ _ n rfl rfl rfl rfl hB6.out hB7.out (Nat.le_refl _) ?_)
  intro w1 ho1 hg1
  rw [made_zeros] at ho1
  have BE1 : Hid (Below w.heap.size w w1) := (Below.refl w.heap.size w).grown hg1 (Nat.le_refl _) (fun k hk => by cases hk)
  have B1 : Hid (Blk w1 w.heap.size 79 (ints .u8 (zeros (64 * n)) ++ [])) := by
    obtain ⟨h1, h2⟩ := ho1
    rcases h2 with ⟨e, _⟩ | ⟨g, cap, cur, e, _, hg, _, _, hs, ht⟩
    · cases e
    · obtain ⟨e1, -, e3⟩ := Value.slice.inj e
      obtain rfl : w.heap.size = g := by simpa using e1
      subst e3
      unfold Hid Blk
      rw [hg, List.append_nil, ← ht]
      rw [List.take_of_length_le (by simp; omega)]
  clear ho1 hg1
  go_wp2_with fail
  refine (holding_walk w.heap.size n n (zeros (64 * n)) [] _ B1.out (zeros_length _) h0 hn).mono ?_
  rintro e w2 ⟨d, F, rfl, hd, hs⟩
  have HD := Lib.hid hd
  have HS : Hid (Step [] w F w2) := (Step.of_below BE1.out (Nat.le_refl _)).trans hs
  clear hd hs BE1 B1
  go_wp2
  go_ret2
  exact ⟨d, F, rfl, HD.out, HS.out⟩
end Go.Proofs.YtpafgoaeokgfcaaGreatDoor
