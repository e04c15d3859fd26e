/- package disk: pickOf, joined, crashed. -/
import Derived.Test.YtpafgoaeokgfcaaGreatDoorDskFh
namespace Go.Proofs.YtpafgoaeokgfcaaGreatDoor
open Go Go.RowKit
set_option maxRecDepth 100000

theorem wp_at {P : Program} {c : Code} {Q : Exit → Act → World → Prop} {a : Act} {w w' : World} (h : w = w') (hc : c.wp P Q a w') : c.wp P Q a w := by rw [h]; exact hc
theorem pick_walk (u : Value) (picks : List Int) (i : Nat) (w : World) (hu : BytesIn w u picks) (hl : picks.length ≤ 1000000000) (hi : i ≤ 1000000000) :
    Calls Tryz.prog 41 #[u, .int .i64 (i : Int)] w fun e w' => e = .returned (.int .u8 (pickL picks i)) ∧ w = w' := by
  obtain ⟨a, c, rfl, hc, hp⟩ := hu
  obtain ⟨m, hm⟩ : ∃ m, Hid (picks.length = m) := ⟨_, rfl⟩
  obtain ⟨z, hz⟩ : ∃ z, Hid (pickL picks i = z) := ⟨_, rfl⟩
  rw [hz.out]
  rw [hm.out] at hl hp ⊢
  by_cases h0 : m = 0
  · have HZ : Hid (z = 0) := by unfold Hid; rw [← hz.out, pickL, if_pos (hm.out.trans h0)]
    have q0 : ((m : Int) == 0) = true := by simpa using h0
    clear hp hc h0
    go_enter Tryz.func41, Tryz.ntmps41
    go_wp2
    go_ret
    refine ⟨?_, rfl⟩
    rw [HZ.out]
    rfl
  · have q0 : ((m : Int) == 0) = false := by simpa using h0
    obtain ⟨pb, po, rfl, _, hr⟩ := hp (by omega)
    have hlt : i % m < m := Nat.mod_lt _ (by omega)
    have HZ : Hid (picks.getD (i % m) 0 = z) := by
      have h1 := hz.out
      rw [pickL, if_neg (by rw [hm.out]; exact h0), hm.out] at h1
      exact h1
    have cz : w.cell? ⟨pb, po + i % m, none⟩ = some (.int .u8 z) := by
      rw [← HZ.out]
      exact hr (i % m) _ (ints_getD (by rw [hm.out]; exact hlt))
    have e1 : ((i : Int) % (m : Int)) = ((i % m : Nat) : Int) := rfl
    have m0 : (0 : Int) < (m : Int) := by omega
    have EI : Hid (((i : Int) % (m : Int)) = ((i % m : Nat) : Int)) := rfl
    clear hr hp e1
    go_enter Tryz.func41, Tryz.ntmps41
    go_wp2
    go_ret
    exact ⟨rfl, rfl⟩
def joinL (f l : List Int) (n : Nat) : List Int := f.take n ++ l.drop n
theorem joinL_length {f l : List Int} (hf : f.length = 64) (hl : l.length = 64) (n : Nat) (hn : n ≤ 64) : (joinL f l n).length = 64 := by
  unfold joinL
  rw [List.length_append, List.length_take, List.length_drop]; omega
set_option maxHeartbeats 1000000 in
theorem joined_walk (f l : List Int) (cut : Int) (hf : f.length = 64) (hl : l.length = 64) (h0 : 0 ≤ cut) (h1 : cut ≤ 64) (w : World) :
    Calls Tryz.prog 57 #[.agg (ints .u8 f).toArray, .agg (ints .u8 l).toArray, .int .i64 cut] w fun e w' => e = .returned (.agg (ints .u8 (joinL f l cut.toNat)).toArray) ∧ Below w.heap.size w w' := by
  obtain ⟨n, rfl⟩ := Int.eq_ofNat_of_zero_le h0
  rw [Int.toNat_natCast]
  have hn : n ≤ 64 := by omega
  have HF := Lib.hid hf
  have HL := Lib.hid hl
  obtain ⟨r, hr⟩ : ∃ r, Hid (joinL f l n = r) := ⟨_, rfl⟩
  have HRL : Hid (r.length = 64) := by unfold Hid; rw [← hr.out]; exact joinL_length hf hl n hn
  clear hf hl h0 h1
  obtain ⟨W0, hW0⟩ : ∃ W0, Hid (W0 = ((w.alloc (.cells (ints .u8 f).toArray 79)).alloc (.cells (ints .u8 l).toArray 79)).alloc (.cells (ints .u8 zB).toArray 79)) := ⟨_, rfl⟩
  have B1 : Hid (Blk W0 w.heap.size 79 (ints .u8 f)) := by unfold Hid; rw [hW0.out]; exact ((Blk.new _ _ _).alloc _).alloc _
  have B2 : Hid (Blk W0 (w.heap.size + 1) 79 (ints .u8 l)) := by unfold Hid; rw [hW0.out]; exact (Blk.new2 _ _ _ _ _ (by simp) rfl).alloc _
  have B3 : Hid (Blk W0 (w.heap.size + 1 + 1) 79 (ints .u8 zB)) := by unfold Hid; rw [hW0.out]; exact Blk.new2 _ _ _ _ _ (by simp) rfl
  have BE0 : Hid (Below w.heap.size w W0) := by unfold Hid; rw [hW0.out]; exact (((Below.refl _ _).alloc (Nat.le_refl _) _).alloc (by simp) _).alloc (by simp; omega) _
  rw [hr.out]
  go_enter Tryz.func57, Tryz.ntmps57
  go_upto_region 1 with (fail)
  refine wp_at (w' := W0) (by rw [hW0.out]; kernel_rfl) ?_
  refine region_begin (opsOf Tryz.f57 1) (fun _ => True) (by kernel_rfl) (by kernel_rfl) 5 (by kernel_rfl) ?_
  intro Q' hQN hN
  refine reg_now 0 (.int .i64 (n : Int)) (some 7) hQN trivial (by kernel_rfl) (by kernel_rfl) (fun w => by kernel_rfl) ?_
  refine reg_now 1 (.slice (some ⟨w.heap.size + 1, 0, none⟩) n 64) (some 8) hQN trivial (by kernel_rfl) (by kernel_rfl) (fun w' => exec_of (Instr.sliceAt 79 (.pointer (some ⟨w.heap.size + 1, 0, none⟩)) none (some (.int .i64 (n : Int))) none) _ (by kernel_rfl) (run_arr_head (w.heap.size + 1) n hn w')) ?_
  refine reg_now 2 (.int .i64 (n : Int)) (some 9) hQN trivial (by kernel_rfl) (by kernel_rfl) (fun w => by kernel_rfl) ?_
  refine reg_now 3 (.slice (some ⟨w.heap.size, 0, none⟩) n 64) (some 10) hQN trivial (by kernel_rfl) (by kernel_rfl) (fun w' => exec_of (Instr.sliceAt 79 (.pointer (some ⟨w.heap.size, 0, none⟩)) none (some (.int .i64 (n : Int))) none) _ (by kernel_rfl) (run_arr_head w.heap.size n hn w')) ?_
  have hcp := run_copy_row (P := Tryz.prog) W0.drew 36 36 3 5 (w.heap.size + 1) 0 n 64 ⟨w.heap.size, 0, none⟩ n 64 (ints .u8 l).toArray 79 (ints .u8 (f.take n)) Tryz.underlying36 (by kernel_rfl) B2.out (by rw [ints_length, List.length_take, HF.out]; simp; omega)
    (fun j v hv => by
      rw [Addr.add_mid, Nat.zero_add]
      refine B1.out.cell ?_
      rw [ints, List.getElem?_map, List.getElem?_take] at hv
      rw [ints, List.getElem?_map]
      split at hv
      · exact hv
      · cases hv) (by rw [ints_length, List.length_take, HF.out, List.size_toArray, ints_length, HL.out]; omega) (ints_one _ _)
  have hcell : ((ints .u8 l).toArray.toList.take 0 ++ ints .u8 (f.take n) ++ (ints .u8 l).toArray.toList.drop (0 + (ints .u8 (f.take n)).length)) = ints .u8 r := by
    rw [← hr.out, joinL]
    simp only [List.take_zero, List.nil_append, Nat.zero_add]
    rw [ints_length, List.length_take, HF.out, Nat.min_eq_left hn]
    simp [ints]
  rw [hcell] at hcp
  refine reg_value 4 (goInt (ints .u8 (f.take n)).length) (some 11) (W0.drew.setRow (w.heap.size + 1) (ints .u8 r).toArray) (by kernel_rfl) (by kernel_rfl) (exec_of (Builtin.copy_ #[36, 36] 3 #[.slice (some ⟨w.heap.size + 1, 0, none⟩) n 64, .slice (some ⟨w.heap.size, 0, none⟩) n 64]) _ (by kernel_rfl) hcp) trivial ?_
  refine reg_done (by kernel_rfl) (hN _ _ ?_)
  have U1 : Hid (Upd (w.heap.size + 1) W0 (W0.drew.setRow (w.heap.size + 1) (ints .u8 r).toArray)) := ((Upd.refl _ W0).drew).setRow _
  have C2 : Hid (Blk (W0.drew.setRow (w.heap.size + 1) (ints .u8 r).toArray) (w.heap.size + 1) 79 (ints .u8 r)) := Blk.setRow (w := W0.drew) B2.out _
  have C3 := Lib.hid (U1.out.blk B3.out (by omega))
  have BE1 := Lib.hid (U1.out.below BE0.out (by omega) BE0.out.size)
  clear hQN hN hcp hcell B1 B2 B3 BE0 U1 hW0
  generalize W0.drew.setRow (w.heap.size + 1) (ints .u8 r).toArray = W1 at *
  generalize hact : Act.put _ (some 11) _ = act
  simp only [Act.put, List.setIfInBounds_toArray, List.set_cons_succ, List.set_cons_zero] at hact
  subst hact
  have IR : Hid ((Tryz.prog.info? 79).map (·.size) = some (ints .u8 r).length) := infoBlk r HRL.out
  have BW : Hid (Blk (W1.setCells (w.heap.size + 1 + 1) 0 (ints .u8 r)) (w.heap.size + 1 + 1) 79 (ints .u8 r)) := C3.out.setWhole _ (by rw [ints_length, ints_length, HRL.out, zB_length])
  have BE2 := Lib.hid (below_setCells (ints .u8 r) BE1.out (b := w.heap.size + 1 + 1) 0 (by omega))
  have TH : Hid (W1.there (w.heap.size + 1 + 1) 0 (ints .u8 r).length) := C3.out.there 0 _ (by rw [ints_length, ints_length, HRL.out, zB_length]; omega)
  go_upto_region 2 with (fail)
  refine lin_begin (opsOf Tryz.f57 2) (by kernel_rfl) ?_
  refine lin_now 0 (.agg (ints .u8 r).toArray) (some 12) (by kernel_rfl) (by kernel_rfl) (exec_load_mid 79 (.tmp 4) (by kernel_rfl) (w.heap.size + 1) 0 (by kernel_rfl) (ints .u8 r) _ C2.out.whole Tryz.underlying79 rfl IR.out) ?_
  refine lin_store 1 (W1.setCells (w.heap.size + 1 + 1) 0 (ints .u8 r)) (by kernel_rfl) (by kernel_rfl) (exec_store_mid 79 (.tmp 6) (.tmp 12) (by kernel_rfl) (w.heap.size + 1 + 1) 0 (ints .u8 r) (by kernel_rfl) (by kernel_rfl) TH.out IR.out (ints_oneCell _ _)) ?_
  refine lin_done 2 (by kernel_rfl) ?_
  clear TH C2 C3 BE1
  generalize W1.setCells (w.heap.size + 1 + 1) 0 (ints .u8 r) = W2 at *
  generalize hact : Act.put _ none undef = act
  have h6 : act.tmps.getD 6 undef = .pointer (some ⟨w.heap.size + 1 + 1, 0, none⟩) := by rw [← hact]; kernel_rfl
  have hd : act.defers = [] := by rw [← hact]; kernel_rfl
  clear hact
  go_wp2
  refine bodyPost_ret (v := .agg (ints .u8 r).toArray) ?_ hd ⟨rfl, BE2.out⟩
  exact results_cell_row Tryz.results57 _ _ (w.heap.size + 1 + 1) 79 (ints .u8 r).toArray (0, 0) _ h6 BW.out Tryz.underlying79 rfl (by rw [List.size_toArray]; exact IR.out)
end Go.Proofs.YtpafgoaeokgfcaaGreatDoor
