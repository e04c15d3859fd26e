/- package disk: New, Twin, Image. -/
import Derived.Test.YtpbilngjjlabiaaDskCh
import Derived.Laws.OwnMore
namespace Go.Proofs.Ytpbilngjjlabiaa
open Go Go.RowKit
set_option maxRecDepth 100000

/-- A slice of sectors in new memory. -/
def BlkNew (l : List Int) (n : Nat) (w : World) (e : Ending) (w' : World) : Prop := ∃ D cap rest, e = .returned (.slice (some ⟨D, 0, none⟩) n cap) ∧ w.heap.size ≤ D ∧ Blk w' D 33 (ints .u8 l ++ rest) ∧ Below w.heap.size w w'
theorem bclone_walk (pb n c : Nat) (l : List Int) (r : List Value) (w : World) (hb : Blk w pb 33 (ints .u8 l ++ r)) (hl : l.length = 64 * n) (h0 : 1 ≤ n) (hn : n ≤ 4096) : Calls Try.prog 31 #[.slice (some ⟨pb, 0, none⟩) n c] w (BlkNew l n w) := by
  obtain ⟨i0, hi, hz0, hz1, hz2⟩ := info_parts infoBlock3
  have HR : Hid ((w.alloc (.cells #[] 33)).rangeAt pb 0 (ints .u8 l)) := fun j v hv => by
    refine (hb.alloc _).cell ?_
    rw [Nat.zero_add, List.getElem?_append_left (List.getElem?_eq_some_iff.1 hv).1]
    exact hv
  have HFL : Hid ((ints .u8 l).length = n * 64) := by unfold Hid; rw [ints_length, hl]; omega
  have HI := Lib.hid hi
  have HZ0 := Lib.hid hz0
  have HZ1 := Lib.hid hz1
  have HZ2 := Lib.hid hz2
  have HOE : Hid ((w.alloc (.cells #[] 33)).ownsRow w.heap.size 33 64 (.slice (some ⟨w.heap.size, 0, none⟩) 0 0) 0 []) :=
    ⟨rfl, Or.inr ⟨w.heap.size, 0, #[], rfl, Nat.le_refl _, heap_alloc_last w _, Nat.le_refl _, by unfold maxLen; omega, rfl, rfl⟩⟩
  clear hi hz0 hz1 hz2 hb hl
  have hnil : ∀ w, (binOp BinOp.eql 52 (.slice (some ⟨pb, 0, none⟩) n c) (.slice none 0 0)).run Try.prog w = .ok (.bool false) w := fun w => by kernel_rfl
  go_enter Try.func31, Try.ntmps31
  go_wp2_with (with_reducible refine wpList_append_own _ (o := ⟨some 7, _, _, _, _, _⟩) ?a1 (.tmp 5) (.tmp 6) 52 ?a2 w.heap.size 33 i0 _ 64 64 Try.underlying52 HI.out HZ0.out HZ1.out HZ2.out ?a3 ?a4 (.slice (some ⟨w.heap.size, 0, none⟩) 0 0) 0 [] ?a5 HOE.out ⟨pb, 0, none⟩ n c (ints .u8 l) ?a6 HFL.out ?a7 (ints_one _ _) ?a8 ?a9 ?a10 ?_)
  case a1 => rfl
  case a2 => rfl
  case a3 => rfl
  case a4 => decide
  all_goals try (case a5 => rfl)
  all_goals try (case a6 => rfl)
  case a7 => intro j v hv; rw [Addr.add_mid]; exact HR.out j v hv
  case a8 => unfold maxLen; omega
  case a9 => omega
  case a10 => simp
  intro v' w' h1 h2 h3
  have HB : Hid (Below w.heap.size w w') := ((Below.refl w.heap.size w).alloc (Nat.le_refl _) _).grown h2 (by simp) (fun k hk => by simp [Value.ownBlock] at hk; omega)
  obtain ⟨hle, hw⟩ := h1
  rcases hw with ⟨rfl, h0'⟩ | ⟨g, cap, cur, rfl, hb, hg, hc, hcm, hcs, ht⟩
  · exfalso; omega
  · have HD : Hid (Blk w' g 33 (ints .u8 l ++ cur.toList.drop ((0 + n) * 64))) := by
      unfold Hid Blk
      rw [hg]
      have e : (ints .u8 l ++ cur.toList.drop ((0 + n) * 64)).toArray = cur := by
        have h4 : ints .u8 l = cur.toList.take ((0 + n) * 64) := by simpa using ht.symm
        rw [h4, List.take_append_drop]
      rw [e]
    have HG := Lib.hid hb
    clear h2 h3 hle hb hg hc hcm hcs ht
    go_wp2
    go_ret
    exact ⟨g, cap, _, by simp, HG.out, HD.out, HB.out⟩
/-- A new disk. -/
def DkNew (sz : Nat) (l : List Int) (w : World) (e : Ending) (w' : World) : Prop := ∃ d F, e = .returned (.pointer (some ⟨d, 0, none⟩)) ∧ Dk w' F d sz l l [] (-1) ∧ Step [] w F w'
theorem holding_walk (pb n c : Nat) (l : List Int) (r : List Value) (w : World) (hb : Blk w pb 33 (ints .u8 l ++ r)) (hl : l.length = 64 * n) (h0 : 1 ≤ n) (hn : n ≤ 4096) : Calls Try.prog 25 #[.slice (some ⟨pb, 0, none⟩) n c] w (DkNew n l w) := by
  have HB := Lib.hid hb
  have HL := Lib.hid hl
  clear hb hl
  go_enter Try.func25, Try.ntmps25
  go_wp2_with fail
  refine (bclone_walk pb n c l r _ HB.out HL.out h0 hn).mono ?_
  rintro e w1 ⟨D1, cap1, rest1, rfl, hD1, hb1, hbe1⟩
  have B1 := Lib.hid hb1
  have BE1 := Lib.hid hbe1
  have HB1 := Lib.hid (HB.out.below hbe1 HB.out.lt)
  clear hb1 hbe1
  go_wp2_with fail
  refine (bclone_walk pb n c l r _ HB1.out HL.out h0 hn).mono ?_
  rintro e w2 ⟨D2, cap2, rest2, rfl, hD2, hb2, hbe2⟩
  have B2 := Lib.hid hb2
  have BE2 := Lib.hid (BE1.out.trans (hbe2.mono BE1.out.size))
  have B12 := Lib.hid (B1.out.below hbe2 B1.out.lt)
  have h12 : D1 < w1.heap.size := B1.out.lt
  have h22 : D2 < w2.heap.size := B2.out.lt
  have hsz := hbe2.size
  clear hb2 hbe2 B1 BE1 HB1
  go_wp2
  go_ret
  have NB : Blk (w2.alloc (.cells #[.slice (some ⟨D1, 0, none⟩) n cap1, .slice (some ⟨D2, 0, none⟩) n cap2, .slice none 0 0, .int .i64 (-1)] 56)) w2.heap.size 56 (dcells n D1 D2 cap1 cap2 (.slice none 0 0) (-1)) := Blk.new2 _ _ _ _ _ rfl rfl
  have BEF := BE2.out.alloc BE2.out.size (.cells #[.slice (some ⟨D1, 0, none⟩) n cap1, .slice (some ⟨D2, 0, none⟩) n cap2, .slice none 0 0, .int .i64 (-1)] 56)
  have hw2 := BE2.out.size
  refine ⟨w2.heap.size, foot w2.heap.size D1 D2 (.slice none 0 0), rfl, ⟨D1, D2, cap1, cap2, rest1, rest2, _, rfl, ⟨NB, B12.out.alloc _, B2.out.alloc _, ⟨rfl, .inl ⟨rfl, rfl⟩⟩, by omega, by omega, by omega, (fun g hg => by cases hg), HL.out, HL.out, (fun x hx => by simp at hx), h0, hn⟩⟩, ⟨BEF.os, BEF.tape, BEF.output, BEF.size, fun k hk _ => BEF.block k hk, fun k hk => ?_⟩⟩
  simp only [foot, Value.ownBlock, Option.toList_none, List.mem_cons, List.not_mem_nil, or_false] at hk
  rcases hk with rfl | rfl | rfl
  · exact .inr (by omega)
  · exact .inr hD1
  · exact .inr (by omega)
theorem twin_walk (d sz : Nat) (F : List Nat) (seen dur : List Int) (pend : List Wr) (left : Int) (w : World) (h : Dk w F d sz seen dur pend left) : Calls Try.prog 24 #[.pointer (some ⟨d, 0, none⟩)] w (DkNew sz seen w) := by
  obtain ⟨sB, dB, sc, dc, rs, rd, pv, -, hx⟩ := h
  have c0 := hx.c0
  have HX := Lib.hid hx
  clear hx
  go_enter Try.func24, Try.ntmps24
  go_wp2_with fail
  refine (holding_walk sB sz sc seen rs _ HX.out.hs HX.out.ls HX.out.one HX.out.big).mono ?_
  rintro e w1 ⟨t, G, rfl, hd, hs⟩
  have HD := Lib.hid hd
  have HS := Lib.hid hs
  clear hd hs
  go_wp2
  go_ret
  exact ⟨t, G, rfl, HD.out, HS.out⟩
theorem new_no (n : Int) (hn : n < 1 ∨ 4096 < n) (w : World) : Calls Try.prog 6 #[.int .i64 n] w fun e w' => e = .returned (.tuple #[.pointer none, .int .i64 11]) ∧ w = w' := by
  by_cases h : n < 1
  · go_enter Try.func6, Try.ntmps6
    go_wp2
    go_ret2
    exact ⟨rfl, rfl⟩
  · have h2 : 4096 < n := by omega
    go_enter Try.func6, Try.ntmps6
    go_wp2
    go_ret2
    exact ⟨rfl, rfl⟩
def zeros (n : Nat) : List Int := List.replicate n 0
theorem zeros_length (n : Nat) : (zeros n).length = n := by simp [zeros]
theorem zB_get (j : Nat) (h : j < 64) : (ints .u8 zB)[j]? = some (.int .u8 0) := by
  rw [ints, List.getElem?_map, zB, List.getElem?_replicate, if_pos h]; rfl
theorem made_zeros (n : Nat) : (madeCells (ints .u8 zB).toArray (n * 64)).toList = ints .u8 (zeros (64 * n)) := by
  apply List.ext_getElem?
  intro j
  by_cases hj : j < n * 64
  · have h1 : (ints .u8 (zeros (64 * n)))[j]? = some (.int .u8 0) := by
      rw [ints, List.getElem?_map, zeros, List.getElem?_replicate, if_pos (by omega)]; rfl
    have h2 : (ints .u8 zB)[j % 64]? = some (.int .u8 0) := zB_get _ (Nat.mod_lt _ (by decide))
    rw [h1]
    have hs : (ints .u8 zB).length = 64 := by rw [ints_length, zB_length]
    have h3 : (ints .u8 zB)[j % 64]! = .int .u8 0 := by
      rw [List.getElem!_eq_getElem?_getD, h2]; rfl
    simp [madeCells, hj, hs]
    simpa using h3
  · rw [List.getElem?_eq_none (by simp [madeCells]; omega), List.getElem?_eq_none (by rw [ints_length, zeros_length]; omega)]
set_option maxHeartbeats 1000000 in
theorem new_yes (n : Nat) (h0 : 1 ≤ n) (hn : n ≤ 4096) (w : World) : Calls Try.prog 6 #[.int .i64 (n : Int)] w fun e w' => ∃ d F, e = .returned (.tuple #[.pointer (some ⟨d, 0, none⟩), .int .i64 0]) ∧ Dk w' F d n (zeros (64 * n)) (zeros (64 * n)) [] (-1) ∧ Step [] w F w' := by
  obtain ⟨i0, hi, hz0, hz1, hz2⟩ := info_parts infoBlock3
  have HI := Lib.hid hi
  have HZ0 := Lib.hid hz0
  have HZ1 := Lib.hid hz1
  have hB6 : Hid (i0.bytes * n ≤ 281474976710656) := by unfold Hid; rw [hz2]; omega
  have hB7 : Hid (n ≤ maxLen) := by unfold Hid maxLen; omega
  have q1 : ¬ ((n : Int) < 1) := by omega
  have q2 : ¬ ((4096 : Int) < (n : Int)) := by omega
  clear hi hz0 hz1 hz2
  go_enter Try.func6, Try.ntmps6
  go_wp2_with (refine wpList_make_full _ rfl _ _ 52 rfl w.heap.size 33 i0 (.agg (ints .u8 zB).toArray) 64 Try.underlying52 HI.out HZ0.out HZ1.out _ _ _ _ n rfl rfl rfl rfl hB6.out hB7.out (Nat.le_refl _) ?_)
  intro w1 ho1 hg1
  rw [made_zeros] at ho1
  have BE1 : Hid (Below w.heap.size w w1) := (Below.refl w.heap.size w).grown hg1 (Nat.le_refl _) (fun k hk => by cases hk)
  have B1 : Hid (Blk w1 w.heap.size 33 (ints .u8 (zeros (64 * n)) ++ [])) := by
    obtain ⟨h1, h2⟩ := ho1
    rcases h2 with ⟨e, _⟩ | ⟨g, cap, cur, e, _, hg, _, _, hs, ht⟩
    · cases e
    · obtain ⟨e1, -, e3⟩ := Value.slice.inj e
      obtain rfl : w.heap.size = g := by simpa using e1
      subst e3
      unfold Hid Blk
      rw [hg, List.append_nil, ← ht]
      rw [List.take_of_length_le (by simp; omega)]
  clear ho1 hg1
  go_wp2_with fail
  refine (holding_walk w.heap.size n n (zeros (64 * n)) [] _ B1.out (zeros_length _) h0 hn).mono ?_
  rintro e w2 ⟨d, F, rfl, hd, hs⟩
  have HD := Lib.hid hd
  have HS : Hid (Step [] w F w2) := (Step.of_below BE1.out (Nat.le_refl _)).trans hs
  clear hd hs BE1 B1
  go_wp2
  go_ret2
  exact ⟨d, F, rfl, HD.out, HS.out⟩
theorem run_arr_all (q : Nat) (w : World) : (Instr.sliceAt 33 (.pointer (some ⟨q, 0, none⟩)) none none none).run Try.prog w = .ok (.slice (some ⟨q, 0, none⟩) 64 64) w := by kernel_rfl
theorem take_next (l : List Int) (k : Nat) : l.take (64 * k) ++ getB l k = l.take (64 * (k + 1)) := by
  unfold getB
  rw [show 64 * (k + 1) = 64 * k + 64 by omega, List.take_add]
set_option maxHeartbeats 2000000 in
theorem image_walk (d sz : Nat) (F : List Nat) (seen dur : List Int) (pend : List Wr) (left : Int) (w : World) (h : Dk w F d sz seen dur pend left) : Calls Try.prog 22 #[.pointer (some ⟨d, 0, none⟩)] w (CopyPost seen w) := by
  obtain ⟨sB, dB, sc, dc, rs, rd, pv, -, hx⟩ := h
  have c0 := hx.c0
  have HS := Lib.hid hx.hs
  have HD := Lib.hid hx.hd
  have HLS := Lib.hid hx.ls
  have hone : 1 ≤ sz := hx.one
  have hbig : sz ≤ 4096 := hx.big
  clear hx
  obtain ⟨i0, hi, hz0, hz1, hz2⟩ := info_parts infoByte5
  have HI := Lib.hid hi
  have HZ0 := Lib.hid hz0
  have HZ1 := Lib.hid hz1
  have HZ2 := Lib.hid hz2
  clear hi hz0 hz1 hz2
  have hB6 : Hid (i0.bytes * (sz * 64) ≤ 281474976710656) := by unfold Hid; rw [HZ2.out]; omega
  have hB7 : Hid (sz * 64 ≤ maxLen) := by unfold Hid maxLen; omega
  have hmul : Hid ((sz : Int) * 64 = ((sz * 64 : Nat) : Int)) := by unfold Hid; omega
  go_enter Try.func22, Try.ntmps22
  go_wp2_with (refine wpList_make_own _ rfl _ _ 34 rfl w.heap.size 5 i0 (.int .u8 0) 1 Try.underlying34 HI.out HZ0.out HZ1.out _ _ _ (sz * 64) rfl rfl hmul.out hB6.out hB7.out (Nat.le_refl _) ?_)
  intro w1 ho1 hg1
  have HB1 : Hid (Below w.heap.size w w1) := (Below.refl w.heap.size w).grown hg1 (Nat.le_refl _) (fun k hk => by cases hk)
  have HO1 : Hid (w1.ownsRow w.heap.size 5 1 (.slice (some ⟨w.heap.size, 0, none⟩) 0 (sz * 64)) (seen.take (64 * 0)).length (ints .u8 (seen.take (64 * 0)))) := ho1
  have c01 : w1.cell? ⟨d, 0, none⟩ = some (.slice (some ⟨sB, 0, none⟩) sz sc) := (HB1.out.cell (p := ⟨d, 0, none⟩) HD.out.lt).trans c0
  clear ho1 hg1
  go_wp2
  go_loopw [3, 18] (fun v i wr => ∃ k : Nat, k ≤ sz ∧ i = .int .i64 (k : Int) ∧ wr.ownsRow w.heap.size 5 1 v (seen.take (64 * k)).length (ints .u8 (seen.take (64 * k))) ∧ Below w.heap.size w wr) (fun _ i _ => sz - (intOf i).toNat)
  case atStart => exact ⟨0, by omega, rfl, HO1.out, HB1.out⟩
  case round =>
    obtain ⟨k, hk, rfl, hown, hbel⟩ := hrel
    have HO := Lib.hid hown
    have HB := Lib.hid hbel
    clear hown hbel HO1 HB1 c01
    by_cases hlt : k < sz
    · have q1 : (k : Int) < (sz : Int) := by omega
      have HSK := Lib.hid (HS.out.below HB.out HS.out.lt)
      obtain ⟨bl, hbl⟩ : ∃ b, Hid (getB seen k = b) := ⟨_, rfl⟩
      have HBL : Hid (bl.length = 64) := by unfold Hid; rw [← hbl.out]; exact getB_length HLS.out hlt
      have HGR : Hid (wr.rangeAt sB (0 + 64 * k) (ints .u8 bl)) := by unfold Hid; rw [← hbl.out]; exact getB_range HSK.out HLS.out hlt
      have IG : Hid ((Try.prog.info? 33).map (·.size) = some (ints .u8 bl).length) := infoBlk bl HBL.out
      have HNX : Hid (seen.take (64 * (k + 1)) = seen.take (64 * k) ++ bl) := by unfold Hid; rw [← hbl.out, take_next]
      have HTL : Hid ((seen.take (64 * k)).length ≤ 262144) := by unfold Hid; rw [List.length_take, HLS.out]; omega
      have BX := Lib.hid (boxed wr 33 (ints .u8 zB) (ints .u8 bl) (by rw [ints_length, ints_length, HBL.out, zB_length]))
      have TH : Hid (World.there (wr.alloc (.cells (ints .u8 zB).toArray 33)) wr.heap.size 0 (ints .u8 bl).length) := (Blk.new wr 33 (ints .u8 zB)).there 0 _ (by rw [ints_length, ints_length, HBL.out, zB_length]; omega)
      generalize seen.take (64 * k) = xs at *
      go_upto_region 4 with (fail)
      refine lin_begin (opsOf Try.f22 4) (by kernel_rfl) ?_
      refine lin_now 0 (.pointer (some ⟨sB, 0 + 64 * k, none⟩)) (some 20) (by kernel_rfl) (by kernel_rfl) (exec_indexAt 52 (.tmp 16) (.tmp 18) (by kernel_rfl) _ _ _ (by kernel_rfl) (by kernel_rfl) (run_at_block sB 0 sz sc k hlt _)) ?_
      refine lin_now 1 (.agg (ints .u8 bl).toArray) (some 21) (by kernel_rfl) (by kernel_rfl) (exec_load_mid 33 (.tmp 20) (by kernel_rfl) sB (0 + 64 * k) (by kernel_rfl) (ints .u8 bl) _ HGR.out Try.underlying33 rfl IG.out) ?_
      refine lin_value 2 (.pointer (some ⟨wr.heap.size, 0, none⟩)) (some 5) (wr.alloc (.cells (ints .u8 zB).toArray 33)) (by kernel_rfl) (by kernel_rfl) (exec_alloc 33 (by kernel_rfl) (.agg (ints .u8 zB).toArray) zeroBlk) ?_
      refine lin_store 3 ((wr.alloc (.cells (ints .u8 zB).toArray 33)).setCells wr.heap.size 0 (ints .u8 bl)) (by kernel_rfl) (by kernel_rfl) (exec_store_mid 33 (.tmp 5) (.tmp 21) (by kernel_rfl) wr.heap.size 0 (ints .u8 bl) (by kernel_rfl) (by kernel_rfl) TH.out IG.out (ints_oneCell _ _)) ?_
      refine lin_done 4 (by kernel_rfl) ?_
      have HB2 := Lib.hid (HB.out.trans (BX.out.2.1.mono HB.out.size))
      have HO2 := Lib.hid (own_step HO.out (Step.of_below (F := []) BX.out.2.1 (Nat.le_refl _)) (fun g _ => by simp))
      have BB := Lib.hid BX.out.1
      clear TH BX HO HB HGR HSK
      generalize (wr.alloc (.cells (ints .u8 zB).toArray 33)).setCells wr.heap.size 0 (ints .u8 bl) = W2 at *
      generalize wr.heap.size = B at *
      generalize hact : Act.put _ none undef = act
      simp only [Act.put, List.setIfInBounds_toArray, List.set_cons_succ, List.set_cons_zero] at hact
      subst hact
      have HBI : Hid (BytesIn W2 (.slice (some ⟨B, 0, none⟩) 64 64) bl) := ⟨some ⟨B, 0, none⟩, 64, by rw [HBL.out], by rw [HBL.out]; exact Nat.le_refl _, fun _ => ⟨B, 0, rfl, BB.out.lt, BB.out.whole⟩⟩
      have HNI : Hid (NilOk (.slice (some ⟨B, 0, none⟩) 64 64)) := trivial
      have HL2 : Hid (xs.length + bl.length ≤ 70368744177664) := by have := HTL.out; have := HBL.out; unfold Hid; omega
      have HSZ := Lib.hid HB2.out.size
      go_wp2_with (with_reducible refine wpList_append_bytes (o := ⟨some 24, _, _, _, _, _⟩) ?d1 (.tmp 22) (.tmp 23) ?d2 w.heap.size _ xs ?d3 HO2.out (.slice (some ⟨B, 0, none⟩) 64 64) bl ?d5 HBI.out HNI.out HL2.out HSZ.out ?_)
      case d1 => rfl
      case d2 => rfl
      all_goals try (case d3 => rfl)
      all_goals try (case d5 => rfl)
      intro v5 w5 ho5 hg5
      have HB5 : Hid (Below w.heap.size w w5) := HB2.out.grown hg5 HB2.out.size (owns_row HO2.out)
      have HO5 : Hid (w5.ownsRow w.heap.size 5 1 v5 (seen.take (64 * (k + 1))).length (ints .u8 (seen.take (64 * (k + 1))))) := by unfold Hid; rw [HNX.out, List.length_append]; exact ho5
      clear ho5 hg5 HO2 HB2 HBI
      go_wp2
      exact ⟨⟨k + 1, by omega, by go_num, HO5.out, HB5.out⟩, by simp [intOf]; omega⟩
    · have q1 : ¬ (k : Int) < (sz : Int) := by omega
      have e : seen.take (64 * k) = seen := List.take_of_length_le (by rw [HLS.out]; omega)
      rw [e] at HO
      have HF := Lib.hid HO.out
      clear HO e
      go_wp2
      go_ret
      exact ⟨_, rfl, HF.out, HB.out⟩
end Go.Proofs.Ytpbilngjjlabiaa
