/- The reference's disk: put. -/
import Derived.Test.YtpbilngjjlabiaaDskLm
namespace Go.Proofs.Ytpbilngjjlabiaa
open Go Go.RowKit
set_option maxRecDepth 100000

/-- Some bytes of a sector overwritten. -/
def putP (l : List Int) (x : Wr) (fr n : Nat) : List Int := l.take (64 * x.1 + fr) ++ ((x.2.drop fr).take n ++ l.drop (64 * x.1 + fr + n))
theorem putP_zero (l : List Int) (x : Wr) (fr : Nat) : putP l x fr 0 = l := by
  unfold putP
  rw [List.take_zero, List.nil_append, Nat.add_zero, List.take_append_drop]
theorem putP_length {l : List Int} {x : Wr} {fr n : Nat} (hx : x.2.length = 64) (hl : 64 * x.1 + 64 ≤ l.length) (hf : fr + n ≤ 64) : (putP l x fr n).length = l.length := by
  unfold putP
  rw [List.length_append, List.length_append, List.length_take, List.length_take, List.length_drop, List.length_drop]
  omega
theorem putP_next {l : List Int} {x : Wr} {fr n : Nat} (hx : x.2.length = 64) (hl : 64 * x.1 + 64 ≤ l.length) (hf : fr + n < 64) : (putP l x fr n).set (64 * x.1 + (fr + n)) (x.2.getD (fr + n) 0) = putP l x fr (n + 1) := by
  unfold putP
  have e1 : l.drop (64 * x.1 + fr + n) = l.getD (64 * x.1 + fr + n) 0 :: l.drop (64 * x.1 + fr + (n + 1)) := by
    rw [List.drop_eq_getElem_cons (by omega), List.getD_eq_getElem?_getD, List.getElem?_eq_getElem (by omega)]
    rfl
  have e2 : (x.2.drop fr).take (n + 1) = (x.2.drop fr).take n ++ [x.2.getD (fr + n) 0] := by
    rw [List.take_add_one, List.getElem?_drop, List.getElem?_eq_getElem (by omega), List.getD_eq_getElem?_getD, List.getElem?_eq_getElem (by omega)]
    rfl
  rw [e1, e2, List.set_append_right _ _ (by rw [List.length_take]; omega), List.length_take, List.set_append_right _ _ (by rw [List.length_take, List.length_drop]; omega), List.length_take, List.length_drop]
  rw [show 64 * x.1 + (fr + n) - min (64 * x.1 + fr) l.length - min n (x.2.length - fr) = 0 by omega]
  simp
theorem putP_all {l : List Int} {x : Wr} (hx : x.2.length = 64) : putP l x 0 64 = putB l x.1 x.2 := by
  unfold putP putB
  rw [Nat.add_zero, List.drop_zero, List.take_of_length_le (l := x.2) (by omega)]
theorem elemBytes' : Try.prog.underlying 34 = some (.slice (Try.prog.elem 34)) := by kernel_rfl
theorem run_at_byte (B off n cap m : Nat) (hm : m < n) (w : World) : (Instr.indexAt 34 (.slice (some ⟨B, off, none⟩) n cap) (.int .i64 (m : Int))).run Try.prog w = .ok (.pointer (some ⟨B, off + m, none⟩)) w := by
  rw [run_indexAt_slice w 34 _ _ _ _ _ elemBytes']
  have hz : (sizeOf (Try.prog.elem 34)).run Try.prog w = .ok 1 w := by kernel_rfl
  rw [if_pos (by omega), hz, Result.andThen_ok, Addr.add_mid, Int.toNat_natCast, Nat.mul_one]
theorem run_at_arr (B off m : Nat) (hm : m < 64) (w : World) : (Instr.indexAt 33 (.pointer (some ⟨B, off, none⟩)) (.int .i64 (m : Int))).run Try.prog w = .ok (.pointer (some ⟨B, off + m, none⟩)) w := by
  have ht : Try.prog.underlying 33 = some (.array (Try.prog.arrayLen 33) (Try.prog.elem 33)) := by kernel_rfl
  have hz : (sizeOf (Try.prog.elem 33)).run Try.prog w = .ok 1 w := by kernel_rfl
  have hl : Try.prog.arrayLen 33 = 64 := by kernel_rfl
  rw [run_indexAt_array w 33 _ _ _ ht, if_pos (by rw [hl]; omega), hz, Result.andThen_ok, Addr.add_mid, Int.toNat_natCast, Nat.mul_one]
structure Psx (q : Nat) (x : Wr) (w : World) : Prop where
  q : Blk w q 60 (wcells x)
theorem byte_cell {w : World} {q k : Nat} {t : TypeId} {x : Wr} (h : Blk w q t (wcells x)) (hk : k < x.2.length) : w.cell? ⟨q, 1 + k, none⟩ = some (.int .u8 (x.2.getD k 0)) := by
  refine h.cell ?_
  rw [wcells, Nat.add_comm, List.getElem?_cons_succ]
  exact ints_getD hk
theorem sizeByte2 : (Try.prog.info? 5).map (·.size) = some 1 := by kernel_rfl
set_option maxHeartbeats 2000000 in
theorem rput_walk (g len cap fr n : Nat) (l : List Int) (r : List Value) (x : Wr) (w : World) (hg : Blk w g 5 (ints .u8 l ++ r)) (hl : l.length = len) (hx : x.2.length = 64) (hN : 64 * x.1 + 64 ≤ len) (hfn : fr + n ≤ 64) (hbig : len ≤ 1000000000) :
    Calls Try.prog 30 #[.slice (some ⟨g, 0, none⟩) len cap, .agg (wcells x).toArray, .int .i64 (fr : Int), .int .i64 (n : Int)] w fun e w' => e = .returned (.tuple #[]) ∧ Blk w' g 5 (ints .u8 (putP l x fr n) ++ r) ∧ Upd g w w' := by
  have BE0 : Hid (Upd g w (w.alloc (.cells (wcells x).toArray 60))) := (Upd.refl g w).alloc _
  have G0 : Hid (Blk (w.alloc (.cells (wcells x).toArray 60)) g 5 (ints .u8 (putP l x fr 0) ++ r)) := by unfold Hid; rw [putP_zero]; exact hg.alloc _
  have Q0 : Hid (Blk (w.alloc (.cells (wcells x).toArray 60)) w.heap.size 60 (wcells x)) := Blk.new _ _ _
  have hgq : g < w.heap.size := hg.lt
  have HL := Lib.hid hl
  have HX := Lib.hid hx
  clear hg hl hx
  obtain ⟨q, hq⟩ : ∃ q, Hid (q = w.heap.size) := ⟨_, rfl⟩
  rw [← hq.out] at Q0 hgq
  go_enter Try.func30, Try.ntmps30
  go_wp2
  rw [← hq.out]
  generalize w.alloc (.cells (wcells x).toArray 60) = W0 at *
  go_loopw [8] (fun i wr => ∃ j : Nat, j ≤ n ∧ i = .int .i64 ((fr + j : Nat) : Int) ∧ Blk wr g 5 (ints .u8 (putP l x fr j) ++ r) ∧ Blk wr q 60 (wcells x) ∧ Upd g w wr) (fun i _ => fr + n - (intOf i).toNat)
  case atStart => exact ⟨0, by omega, rfl, G0.out, Q0.out, BE0.out⟩
  case round =>
    obtain ⟨j, hj, rfl, hgj, hqj, huj⟩ := hrel
    have GJ := Lib.hid hgj
    have QJ := Lib.hid hqj
    have UJ := Lib.hid huj
    clear hgj hqj huj G0 Q0 BE0
    by_cases hlt : j < n
    · have q1 : ((fr + j : Nat) : Int) < (fr : Int) + (n : Int) := by omega
      have HNX := Lib.hid (putP_next (l := l) (x := x) (fr := fr) (n := j) HX.out (by rw [HL.out]; exact hN) (by omega))
      have HPL := Lib.hid (putP_length (l := l) (x := x) (fr := fr) (n := j) HX.out (by rw [HL.out]; exact hN) (by omega))
      obtain ⟨v, hv⟩ : ∃ v, Hid (x.2.getD (fr + j) 0 = v) := ⟨_, rfl⟩
      obtain ⟨k, hk⟩ : ∃ k, Hid (k = fr + j) := ⟨_, rfl⟩
      rw [← hk.out] at q1 HNX hv ⊢
      rw [hv.out] at HNX
      have hk64 : k < 64 := by have := hk.out; omega
      go_upto_region 4 with (fail)
      refine region_begin (opsOf Try.f30 4) (Psx q x) (by kernel_rfl) (by kernel_rfl) 12 (by kernel_rfl) ?_
      intro Q' hQN hN'
      have hS : Psx q x wr.drew := ⟨QJ.out⟩
      refine reg_now 0 (.slice (some ⟨g, 0, none⟩) len cap) (some 17) hQN hS (by kernel_rfl) (by kernel_rfl) (fun w => by kernel_rfl) ?_
      refine reg_now 1 (.pointer (some ⟨q, 0, none⟩)) (some 18) hQN hS (by kernel_rfl) (by kernel_rfl) (fun w => by kernel_rfl) ?_
      refine reg_nowIf 2 (.int .i64 (x.1 : Int)) (some 19) hQN hS (by kernel_rfl) (by kernel_rfl) (fun w' hw => exec_load_cell 3 (.tmp 18) (by kernel_rfl) q 0 (by kernel_rfl) _ (hw.q.cell rfl) _ Try.underlying3 rfl) ?_
      refine reg_now 3 (.int .i64 (IntKind.i64.wrap (64 * (x.1 : Int)))) (some 20) hQN hS (by kernel_rfl) (by kernel_rfl) (fun w => by kernel_rfl) ?_
      rw [show IntKind.i64.wrap (64 * (x.1 : Int)) = 64 * (x.1 : Int) from IntWalk.i64_in _ (by omega)]
      refine reg_now 4 (.int .i64 (k : Int)) (some 21) hQN hS (by kernel_rfl) (by kernel_rfl) (fun w => by kernel_rfl) ?_
      refine reg_now 5 (.int .i64 (IntKind.i64.wrap (64 * (x.1 : Int) + (k : Int)))) (some 22) hQN hS (by kernel_rfl) (by kernel_rfl) (fun w => by kernel_rfl) ?_
      rw [show IntKind.i64.wrap (64 * (x.1 : Int) + (k : Int)) = ((64 * x.1 + k : Nat) : Int) from by rw [IntWalk.i64_in _ (by omega)]; omega]
      refine reg_now 6 (.int .i64 (k : Int)) (some 23) hQN hS (by kernel_rfl) (by kernel_rfl) (fun w => by kernel_rfl) ?_
      refine reg_now 7 (.pointer (some ⟨q, 1, none⟩)) (some 24) hQN hS (by kernel_rfl) (by kernel_rfl) (fun w => by kernel_rfl) ?_
      refine reg_now 8 (.pointer (some ⟨q, 1 + k, none⟩)) (some 25) hQN hS (by kernel_rfl) (by kernel_rfl) (fun w' => exec_indexAt 33 (.tmp 24) (.tmp 23) (by kernel_rfl) _ _ _ (by kernel_rfl) (by kernel_rfl) (run_at_arr q 1 k hk64 w')) ?_
      refine reg_nowIf 9 (.int .u8 v) (some 26) hQN hS (by kernel_rfl) (by kernel_rfl) (fun w' hw => exec_load_cell 5 (.tmp 25) (by kernel_rfl) q (1 + k) (by kernel_rfl) _ (hv.out ▸ byte_cell hw.q (by rw [HX.out]; exact hk64)) _ Try.underlying5 rfl) ?_
      refine reg_now 10 (.pointer (some ⟨g, 0 + (64 * x.1 + k), none⟩)) (some 27) hQN hS (by kernel_rfl) (by kernel_rfl) (fun w' => exec_indexAt 34 (.tmp 17) (.tmp 22) (by kernel_rfl) _ _ _ (by kernel_rfl) (by kernel_rfl) (run_at_byte g 0 len cap (64 * x.1 + k) (by omega) w')) ?_
      have UJ2 : Hid (Upd g w (wr.drew.setCell ⟨g, 0 + (64 * x.1 + k), none⟩ (.int .u8 v))) := UJ.out.drew.setCell _ _
      have GJ2 : Hid (Blk (wr.drew.setCell ⟨g, 0 + (64 * x.1 + k), none⟩ (.int .u8 v)) g 5 (ints .u8 (putP l x fr (j + 1)) ++ r)) := by
        have h1 := (GJ.out.drew).set (0 + (64 * x.1 + k)) (.int .u8 v)
        rw [List.set_append_left _ _ (by rw [ints_length, HPL.out, HL.out]; omega), ints_set, Nat.zero_add, HNX.out] at h1
        unfold Hid
        rw [Nat.zero_add]
        exact h1
      have QJ2 : Hid (Blk (wr.drew.setCell ⟨g, 0 + (64 * x.1 + k), none⟩ (.int .u8 v)) q 60 (wcells x)) := (QJ.out.drew).other (by simp; omega) _
      refine reg_store 11 (wr.drew.setCell ⟨g, 0 + (64 * x.1 + k), none⟩ (.int .u8 v)) (by kernel_rfl) (by kernel_rfl) (exec_store_cell 5 (.tmp 27) (.tmp 26) (by kernel_rfl) g (0 + (64 * x.1 + k)) _ (by kernel_rfl) (by kernel_rfl) _ _ GJ.out.drew (by rw [List.length_append, ints_length, HPL.out, HL.out]; omega) sizeByte2 rfl rfl) ⟨QJ2.out⟩ ?_
      refine reg_done (by kernel_rfl) (hN' _ _ ?_)
      clear hQN hN' hS GJ QJ UJ
      generalize wr.drew.setCell ⟨g, 0 + (64 * x.1 + k), none⟩ (.int .u8 v) = W2 at *
      generalize hact : Act.put _ none undef = act
      simp only [Act.put, List.setIfInBounds_toArray, List.set_cons_succ, List.set_cons_zero] at hact
      subst hact
      go_wp2
      exact ⟨⟨j + 1, by omega, by rw [hk.out]; go_num, GJ2.out, QJ2.out, UJ2.out⟩, by have := hk.out; simp [intOf]; omega⟩
    · have q1 : ¬ (((fr + j : Nat) : Int) < (fr : Int) + (n : Int)) := by omega
      obtain rfl : j = n := by omega
      go_wp2
      go_end0
      exact ⟨rfl, GJ.out, UJ.out⟩
end Go.Proofs.Ytpbilngjjlabiaa
