/- Package seal: markOf, firstMark, lastMark, gen, num, sector. -/
import Derived.Test.YtaeghgnhpgkcdaaDoorSealA
import Derived.Test.YtaeghgnhpgkcdaaDoorGenS
namespace Go.Proofs.YtaeghgnhpgkcdaaDoor
open Go Go.RowKit
set_option maxRecDepth 100000

def z8 : List Int := List.replicate 8 0
theorem z8_length : z8.length = 8 := rfl
theorem zeroMark : (Tryd.prog.info? 50).map (·.zero) = some (some (.agg (ints .u8 z8).toArray)) := by kernel_rfl
theorem sizeMark : (Tryd.prog.info? 50).map (·.size) = some 8 := by kernel_rfl
theorem infoMark (l : List Int) (h : l.length = 8) : (Tryd.prog.info? 50).map (·.size) = some (ints .u8 l).length := by rw [ints_length, h]; exact sizeMark
theorem size1Byte : (Tryd.prog.info? 5).map (·.size) = some 1 := by kernel_rfl
theorem splice_ints (cur vs : List Int) (o : Nat) : splice (ints .u8 cur) o (ints .u8 vs) = ints .u8 (cur.take o ++ (vs ++ cur.drop (o + vs.length))) := by
  unfold splice
  rw [ints_length]
  simp [ints]
theorem mark_cells (g n : Nat) : splice (splice (ints .u8 z8) 0 (ints .u8 (beB 4 g))) 4 (ints .u8 (beB 4 n)) = ints .u8 (markP g n) := by
  rw [splice_ints, splice_ints]
  congr 1
theorem range_part {w : World} {g : Nat} {t : TypeId} {l : List Int} (h : Blk w g t (ints .u8 l)) (o n : Nat) : w.rangeAt g o (ints .u8 ((l.drop o).take n)) := by
  have := h.range o n
  rwa [ints_drop, ints_take] at this
set_option maxHeartbeats 1000000 in
theorem markof_walk (gen num : Nat) (hg : gen ≤ 9223372036854775807) (hn : num ≤ 9223372036854775807) (w : World) :
    Calls Tryd.prog 28 #[.int .i64 (gen : Int), .int .i64 (num : Int)] w fun e w' => e = .returned (.agg (ints .u8 (markP gen num)).toArray) ∧ Below w.heap.size w w' := by
  obtain ⟨B, hB⟩ : ∃ B, Hid (w.heap.size = B) := ⟨_, rfl⟩
  rw [hB.out]
  go_enter Tryd.func28, Tryd.ntmps28
  go_upto_region 0 with (fail)
  refine lin_begin (opsOf Tryd.f28 0) (by kernel_rfl) ?_
  refine lin_alloc 0 50 (ints .u8 z8) (B) (some 4) (by kernel_rfl) (by kernel_rfl) (by kernel_rfl) zeroMark hB ?_
  intro w1 b1 be1 hs1
  refine lin_done 1 (by kernel_rfl) ?_
  have A1 := Lib.hid b1
  have BE1 := Lib.hid be1
  clear b1 be1
  generalize hact : Act.put _ (some 4) _ = act
  simp only [Act.put, List.setIfInBounds_toArray, List.set_cons_succ, List.set_cons_zero] at hact
  subst hact
  go_upto_region 1 with (fail)
  refine lin_begin (opsOf Tryd.f28 1) (by kernel_rfl) ?_
  refine lin_alloc 0 50 (ints .u8 z8) (B + 1) (some 5) (by kernel_rfl) (by kernel_rfl) (by kernel_rfl) zeroMark hs1 ?_
  intro w2 b2 be2 hs2
  refine lin_done 1 (by kernel_rfl) ?_
  have A2 := Lib.hid (A1.out.below be2 (Nat.lt_succ_self _))
  have M2 := Lib.hid b2
  have BE2 := Lib.hid (BE1.out.trans (be2.mono (Nat.le_succ _)))
  clear b2 be2 A1 BE1 hs1
  generalize hact : Act.put _ (some 5) _ = act
  simp only [Act.put, List.setIfInBounds_toArray, List.set_cons_succ, List.set_cons_zero] at hact
  subst hact
  go_upto_region 2 with (fail)
  refine lin_begin (opsOf Tryd.f28 2) (by kernel_rfl) ?_
  refine lin_now 0 (.slice (some ⟨B + 1, 0, none⟩) 4 8) (some 6) (by kernel_rfl) (by kernel_rfl) (by kernel_rfl) ?_
  refine lin_now 1 (.int .i64 (gen : Int)) (some 7) (by kernel_rfl) (by kernel_rfl) (by kernel_rfl) ?_
  refine lin_call 2 39 #[.slice (some ⟨B + 1, 0, none⟩) 4 8, .int .i64 (gen : Int)] (some 8) _ (by kernel_rfl) (by kernel_rfl) (by kernel_rfl) (put_walk (B + 1) 0 4 8 gen _ _ _ M2.out (by rw [ints_length, z8_length]; omega) (by omega) hg) ?_
  rintro e w3 ⟨rfl, b3, u3⟩
  refine ⟨_, rfl, ?_⟩
  refine lin_done 3 (by kernel_rfl) ?_
  have A3 := Lib.hid (u3.blk A2.out (by omega))
  have M3 := Lib.hid b3
  have BE3 := Lib.hid (u3.below BE2.out (Nat.le_succ _) (by rw [hs2.out]; omega))
  have hs3 : Hid (B + 1 ≤ w3.heap.size) := by unfold Hid; have := u3.size; have := hs2.out; omega
  clear b3 u3 A2 M2 BE2 hs2
  generalize hact : Act.put _ (some 8) _ = act
  simp only [Act.put, List.setIfInBounds_toArray, List.set_cons_succ, List.set_cons_zero] at hact
  subst hact
  go_upto_region 3 with (fail)
  refine lin_begin (opsOf Tryd.f28 3) (by kernel_rfl) ?_
  refine lin_now 0 (.slice (some ⟨B + 1, 4, none⟩) 4 4) (some 9) (by kernel_rfl) (by kernel_rfl) (by kernel_rfl) ?_
  refine lin_now 1 (.int .i64 (num : Int)) (some 10) (by kernel_rfl) (by kernel_rfl) (by kernel_rfl) ?_
  refine lin_call 2 39 #[.slice (some ⟨B + 1, 4, none⟩) 4 4, .int .i64 (num : Int)] (some 11) _ (by kernel_rfl) (by kernel_rfl) (by kernel_rfl) (put_walk (B + 1) 4 4 4 num _ _ _ M3.out (by rw [splice_length (by rw [ints_length, ints_length, beB_length, z8_length]; omega), ints_length, z8_length]; omega) (by omega) hn) ?_
  rintro e w4 ⟨rfl, b4, u4⟩
  rw [mark_cells] at b4
  refine ⟨_, rfl, ?_⟩
  refine lin_done 3 (by kernel_rfl) ?_
  have A4 := Lib.hid (u4.blk A3.out (by omega))
  have M4 := Lib.hid b4
  have BE4 := Lib.hid (u4.below BE3.out (Nat.le_succ _) (by have := hs3.out; omega))
  have hs4 : Hid (B + 1 ≤ w4.heap.size) := by unfold Hid; have := u4.size; have := hs3.out; omega
  clear b4 u4 A3 M3 BE3 hs3
  generalize hact : Act.put _ (some 11) _ = act
  simp only [Act.put, List.setIfInBounds_toArray, List.set_cons_succ, List.set_cons_zero] at hact
  subst hact
  go_upto_region 4 with (fail)
  refine lin_begin (opsOf Tryd.f28 4) (by kernel_rfl) ?_
  refine lin_load 0 50 (.tmp 5) (B + 1) _ (ints .u8 (markP gen num)) (some 12) (by kernel_rfl) (by kernel_rfl) (by kernel_rfl) (by kernel_rfl) M4.out _ Tryd.underlying50 rfl (infoMark _ (markP_length _ _)) ?_
  refine lin_put 1 50 (.tmp 4) (.tmp 12) (B) _ (ints .u8 z8) (ints .u8 (markP gen num)) (by kernel_rfl) (by kernel_rfl) (by kernel_rfl) (by kernel_rfl) (by kernel_rfl) A4.out (by rw [ints_length, ints_length, markP_length, z8_length]) (infoMark _ (markP_length _ _)) (ints_oneCell _ _) ?_
  intro w5 b5 u5
  refine lin_done 2 (by kernel_rfl) ?_
  have A5 := Lib.hid b5
  have BE5 := Lib.hid (u5.below BE4.out (Nat.le_refl _) (by have := hs4.out; omega))
  clear b5 u5 A4 M4 BE4 hs4
  generalize hact : Act.put _ none _ = act
  simp only [Act.put, List.setIfInBounds_toArray, List.set_cons_succ, List.set_cons_zero] at hact
  subst hact
  go_wp2
  refine bodyPost_ret (v := .agg (ints .u8 (markP gen num)).toArray) ?_ rfl ⟨rfl, BE5.out⟩
  exact results_cell_row (g := B) (t := 50) (cs := (ints .u8 (markP gen num)).toArray) (fr := (0, 0)) Tryd.results28 _ _ _ rfl A5.out Tryd.underlying50 rfl (by rw [List.size_toArray]; exact (infoMark _ (markP_length _ _)))
set_option maxHeartbeats 1000000 in
theorem firstmark_walk (b : List Int) (hb : b.length = 64) (w : World) :
    Calls Tryd.prog 33 #[.agg (ints .u8 b).toArray] w fun e w' => e = .returned (.agg (ints .u8 (b.take 8)).toArray) ∧ Below w.heap.size w w' := by
  obtain ⟨m, hm⟩ : ∃ m, Hid (b.take 8 = m) := ⟨_, rfl⟩
  have HM : Hid (m.length = 8) := by unfold Hid; rw [← hm.out]; simp [hb]
  rw [hm.out]
  obtain ⟨B, hB⟩ : ∃ B, Hid (w.heap.size = B) := ⟨_, rfl⟩
  rw [hB.out]
  clear hb
  go_enter Tryd.func33, Tryd.ntmps33
  go_upto_region 0 with (fail)
  refine lin_begin (opsOf Tryd.f33 0) (by kernel_rfl) ?_
  refine lin_box 0 37 (.tmp 0) (ints .u8 b) (B) (some 1) (by kernel_rfl) (by kernel_rfl) (by kernel_rfl) (by kernel_rfl) hB ?_
  intro w1 b1 be1 hs1
  refine lin_alloc 1 50 (ints .u8 z8) (B + 1) (some 2) (by kernel_rfl) (by kernel_rfl) (by kernel_rfl) zeroMark hs1 ?_
  intro w2 b2 be2 hs2
  refine lin_done 2 (by kernel_rfl) ?_
  have X2 := Lib.hid (b1.below be2 (Nat.lt_succ_self _))
  have A2 := Lib.hid b2
  have BE2 := Lib.hid (be1.trans (be2.mono (Nat.le_succ _)))
  clear b1 be1 b2 be2 hs1
  generalize hact : Act.put _ (some 2) _ = act
  simp only [Act.put, List.setIfInBounds_toArray, List.set_cons_succ, List.set_cons_zero] at hact
  subst hact
  go_upto_region 1 with (fail)
  refine lin_begin (opsOf Tryd.f33 1) (by kernel_rfl) ?_
  refine lin_alloc 0 50 (ints .u8 z8) (B + 1 + 1) (some 3) (by kernel_rfl) (by kernel_rfl) (by kernel_rfl) zeroMark hs2 ?_
  intro w3 b3 be3 hs3
  refine lin_done 1 (by kernel_rfl) ?_
  have X3 := Lib.hid (X2.out.below be3 (by omega))
  have A3 := Lib.hid (A2.out.below be3 (by omega))
  have M3 := Lib.hid b3
  have BE3 := Lib.hid (BE2.out.trans (be3.mono (by omega)))
  clear b3 be3 X2 A2 BE2 hs2
  generalize hact : Act.put _ (some 3) _ = act
  simp only [Act.put, List.setIfInBounds_toArray, List.set_cons_succ, List.set_cons_zero] at hact
  subst hact
  go_upto_region 2 with (fail)
  refine region_begin (opsOf Tryd.f33 2) (fun _ => True) (by kernel_rfl) (by kernel_rfl) 3 (by kernel_rfl) ?_
  intro Q' hQN hN
  refine reg_now 0 (.slice (some ⟨B + 1 + 1, 0, none⟩) 8 8) (some 4) hQN trivial (by kernel_rfl) (by kernel_rfl) (fun w => by kernel_rfl) ?_
  refine reg_now 1 (.slice (some ⟨B, 0, none⟩) 64 64) (some 5) hQN trivial (by kernel_rfl) (by kernel_rfl) (fun w => by kernel_rfl) ?_
  have hsrc : w3.drew.rangeAt B 0 (ints .u8 m) := by
    have h := range_part X3.out 0 8
    have e : (b.drop 0).take 8 = m := by rw [← hm.out]; rfl
    rw [e] at h
    exact h
  refine reg_copy 2 (some 6) (by kernel_rfl) (by kernel_rfl) 22 22 3 5 (B + 1 + 1) 0 8 8 B 0 64 64 (by kernel_rfl) Tryd.underlying22 size1Byte (ints .u8 z8) 50 M3.out (ints .u8 m) (by rw [ints_length, HM.out]; rfl) hsrc (by rw [ints_length, ints_length, HM.out, z8_length]; omega) (ints_one _ _) ?_
  intro w4 b4 u4
  refine ⟨trivial, ?_⟩
  refine reg_done (by kernel_rfl) (hN _ _ ?_)
  have e4 : splice (ints .u8 z8) 0 (ints .u8 m) = ints .u8 m := by
    rw [splice_ints, List.take_zero, List.nil_append, Nat.zero_add, HM.out, List.drop_eq_nil_of_le (by rw [z8_length]; omega), List.append_nil]
  rw [e4] at b4
  have hd3 : Below w3.heap.size w3 w3.drew := (Below.refl _ _).drew
  have A4 := Lib.hid (u4.blk (A3.out.below hd3 A3.out.lt) (by omega))
  have M4 := Lib.hid b4
  have BE4 := Lib.hid (u4.below (BE3.out.trans (hd3.mono (by rw [hs3.out]; omega))) (by omega) (by have : w3.drew.heap.size = B + 1 + 1 + 1 := hs3.out; omega))
  have hs4 : Hid (B + 1 ≤ w4.heap.size) := by unfold Hid; have h4 : w3.heap.size ≤ w4.heap.size := u4.size; have := hs3.out; omega
  clear b4 u4 A3 M3 BE3 hs3 X3 hQN hN hsrc e4 hd3
  generalize hact : Act.put _ (some 6) _ = act
  simp only [Act.put, List.setIfInBounds_toArray, List.set_cons_succ, List.set_cons_zero] at hact
  subst hact
  go_upto_region 3 with (fail)
  refine lin_begin (opsOf Tryd.f33 3) (by kernel_rfl) ?_
  refine lin_load 0 50 (.tmp 3) (B + 1 + 1) _ (ints .u8 m) (some 7) (by kernel_rfl) (by kernel_rfl) (by kernel_rfl) (by kernel_rfl) M4.out _ Tryd.underlying50 rfl (infoMark _ HM.out) ?_
  refine lin_put 1 50 (.tmp 2) (.tmp 7) (B + 1) _ (ints .u8 z8) (ints .u8 m) (by kernel_rfl) (by kernel_rfl) (by kernel_rfl) (by kernel_rfl) (by kernel_rfl) A4.out (by rw [ints_length, ints_length, HM.out, z8_length]) (infoMark _ HM.out) (ints_oneCell _ _) ?_
  intro w5 b5 u5
  refine lin_done 2 (by kernel_rfl) ?_
  have A5 := Lib.hid b5
  have BE5 := Lib.hid (u5.below BE4.out (by omega) (by have := hs4.out; omega))
  clear b5 u5 A4 M4 BE4 hs4
  generalize hact : Act.put _ none _ = act
  simp only [Act.put, List.setIfInBounds_toArray, List.set_cons_succ, List.set_cons_zero] at hact
  subst hact
  go_wp2
  refine bodyPost_ret (v := .agg (ints .u8 (m)).toArray) ?_ rfl ⟨rfl, BE5.out⟩
  exact results_cell_row (g := B + 1) (t := 50) (cs := (ints .u8 (m)).toArray) (fr := (0, 0)) Tryd.results33 _ _ _ rfl A5.out Tryd.underlying50 rfl (by rw [List.size_toArray]; exact (infoMark _ HM.out))
set_option maxHeartbeats 1000000 in
theorem lastmark_walk (b : List Int) (hb : b.length = 64) (w : World) :
    Calls Tryd.prog 38 #[.agg (ints .u8 b).toArray] w fun e w' => e = .returned (.agg (ints .u8 (b.drop 56)).toArray) ∧ Below w.heap.size w w' := by
  have HB := Lib.hid hb
  obtain ⟨m, hm⟩ : ∃ m, Hid (b.drop 56 = m) := ⟨_, rfl⟩
  have HM : Hid (m.length = 8) := by unfold Hid; rw [← hm.out]; simp [hb]
  rw [hm.out]
  obtain ⟨B, hB⟩ : ∃ B, Hid (w.heap.size = B) := ⟨_, rfl⟩
  rw [hB.out]
  clear hb
  go_enter Tryd.func38, Tryd.ntmps38
  go_upto_region 0 with (fail)
  refine lin_begin (opsOf Tryd.f38 0) (by kernel_rfl) ?_
  refine lin_box 0 37 (.tmp 0) (ints .u8 b) (B) (some 1) (by kernel_rfl) (by kernel_rfl) (by kernel_rfl) (by kernel_rfl) hB ?_
  intro w1 b1 be1 hs1
  refine lin_alloc 1 50 (ints .u8 z8) (B + 1) (some 2) (by kernel_rfl) (by kernel_rfl) (by kernel_rfl) zeroMark hs1 ?_
  intro w2 b2 be2 hs2
  refine lin_done 2 (by kernel_rfl) ?_
  have X2 := Lib.hid (b1.below be2 (Nat.lt_succ_self _))
  have A2 := Lib.hid b2
  have BE2 := Lib.hid (be1.trans (be2.mono (Nat.le_succ _)))
  clear b1 be1 b2 be2 hs1
  generalize hact : Act.put _ (some 2) _ = act
  simp only [Act.put, List.setIfInBounds_toArray, List.set_cons_succ, List.set_cons_zero] at hact
  subst hact
  go_upto_region 1 with (fail)
  refine lin_begin (opsOf Tryd.f38 1) (by kernel_rfl) ?_
  refine lin_alloc 0 50 (ints .u8 z8) (B + 1 + 1) (some 3) (by kernel_rfl) (by kernel_rfl) (by kernel_rfl) zeroMark hs2 ?_
  intro w3 b3 be3 hs3
  refine lin_done 1 (by kernel_rfl) ?_
  have X3 := Lib.hid (X2.out.below be3 (by omega))
  have A3 := Lib.hid (A2.out.below be3 (by omega))
  have M3 := Lib.hid b3
  have BE3 := Lib.hid (BE2.out.trans (be3.mono (by omega)))
  clear b3 be3 X2 A2 BE2 hs2
  generalize hact : Act.put _ (some 3) _ = act
  simp only [Act.put, List.setIfInBounds_toArray, List.set_cons_succ, List.set_cons_zero] at hact
  subst hact
  go_upto_region 2 with (fail)
  refine region_begin (opsOf Tryd.f38 2) (fun _ => True) (by kernel_rfl) (by kernel_rfl) 3 (by kernel_rfl) ?_
  intro Q' hQN hN
  refine reg_now 0 (.slice (some ⟨B + 1 + 1, 0, none⟩) 8 8) (some 4) hQN trivial (by kernel_rfl) (by kernel_rfl) (fun w => by kernel_rfl) ?_
  refine reg_now 1 (.slice (some ⟨B, 56, none⟩) 8 8) (some 5) hQN trivial (by kernel_rfl) (by kernel_rfl) (fun w => by kernel_rfl) ?_
  have hsrc : w3.drew.rangeAt B 56 (ints .u8 m) := by
    have h := range_part X3.out 56 8
    have e : (b.drop 56).take 8 = m := by rw [← hm.out]; exact List.take_of_length_le (by rw [List.length_drop, HB.out]; omega)
    rw [e] at h
    exact h
  refine reg_copy 2 (some 6) (by kernel_rfl) (by kernel_rfl) 22 22 3 5 (B + 1 + 1) 0 8 8 B 56 8 8 (by kernel_rfl) Tryd.underlying22 size1Byte (ints .u8 z8) 50 M3.out (ints .u8 m) (by rw [ints_length, HM.out]; rfl) hsrc (by rw [ints_length, ints_length, HM.out, z8_length]; omega) (ints_one _ _) ?_
  intro w4 b4 u4
  refine ⟨trivial, ?_⟩
  refine reg_done (by kernel_rfl) (hN _ _ ?_)
  have e4 : splice (ints .u8 z8) 0 (ints .u8 m) = ints .u8 m := by
    rw [splice_ints, List.take_zero, List.nil_append, Nat.zero_add, HM.out, List.drop_eq_nil_of_le (by rw [z8_length]; omega), List.append_nil]
  rw [e4] at b4
  have hd3 : Below w3.heap.size w3 w3.drew := (Below.refl _ _).drew
  have A4 := Lib.hid (u4.blk (A3.out.below hd3 A3.out.lt) (by omega))
  have M4 := Lib.hid b4
  have BE4 := Lib.hid (u4.below (BE3.out.trans (hd3.mono (by rw [hs3.out]; omega))) (by omega) (by have : w3.drew.heap.size = B + 1 + 1 + 1 := hs3.out; omega))
  have hs4 : Hid (B + 1 ≤ w4.heap.size) := by unfold Hid; have h4 : w3.heap.size ≤ w4.heap.size := u4.size; have := hs3.out; omega
  clear b4 u4 A3 M3 BE3 hs3 X3 hQN hN hsrc e4 hd3
  generalize hact : Act.put _ (some 6) _ = act
  simp only [Act.put, List.setIfInBounds_toArray, List.set_cons_succ, List.set_cons_zero] at hact
  subst hact
  go_upto_region 3 with (fail)
  refine lin_begin (opsOf Tryd.f38 3) (by kernel_rfl) ?_
  refine lin_load 0 50 (.tmp 3) (B + 1 + 1) _ (ints .u8 m) (some 7) (by kernel_rfl) (by kernel_rfl) (by kernel_rfl) (by kernel_rfl) M4.out _ Tryd.underlying50 rfl (infoMark _ HM.out) ?_
  refine lin_put 1 50 (.tmp 2) (.tmp 7) (B + 1) _ (ints .u8 z8) (ints .u8 m) (by kernel_rfl) (by kernel_rfl) (by kernel_rfl) (by kernel_rfl) (by kernel_rfl) A4.out (by rw [ints_length, ints_length, HM.out, z8_length]) (infoMark _ HM.out) (ints_oneCell _ _) ?_
  intro w5 b5 u5
  refine lin_done 2 (by kernel_rfl) ?_
  have A5 := Lib.hid b5
  have BE5 := Lib.hid (u5.below BE4.out (by omega) (by have := hs4.out; omega))
  clear b5 u5 A4 M4 BE4 hs4
  generalize hact : Act.put _ none _ = act
  simp only [Act.put, List.setIfInBounds_toArray, List.set_cons_succ, List.set_cons_zero] at hact
  subst hact
  go_wp2
  refine bodyPost_ret (v := .agg (ints .u8 (m)).toArray) ?_ rfl ⟨rfl, BE5.out⟩
  exact results_cell_row (g := B + 1) (t := 50) (cs := (ints .u8 (m)).toArray) (fr := (0, 0)) Tryd.results38 _ _ _ rfl A5.out Tryd.underlying50 rfl (by rw [List.size_toArray]; exact (infoMark _ HM.out))
set_option maxHeartbeats 1000000 in
theorem mgen_walk (m : List Int) (hl : m.length = 8) (hb : isBytes m) (w : World) :
    Calls Tryd.prog 34 #[.agg (ints .u8 m).toArray] w fun e w' => e = .returned (.int .i64 (numB (m.take 4))) ∧ Below w.heap.size w w' := by
  have HL := Lib.hid hl
  have HB := Lib.hid hb
  obtain ⟨B, hB⟩ : ∃ B, Hid (w.heap.size = B) := ⟨_, rfl⟩
  rw [hB.out]
  clear hl hb
  go_enter Tryd.func34, Tryd.ntmps34
  go_upto_region 0 with (fail)
  refine lin_begin (opsOf Tryd.f34 0) (by kernel_rfl) ?_
  refine lin_box 0 50 (.tmp 0) (ints .u8 m) (B) (some 1) (by kernel_rfl) (by kernel_rfl) (by kernel_rfl) (by kernel_rfl) hB ?_
  intro w1 b1 be1 hs1
  refine lin_now 1 (.int .i64 0) (some 2) (by kernel_rfl) (by kernel_rfl) (by kernel_rfl) ?_
  refine lin_done 2 (by kernel_rfl) ?_
  have X1 := Lib.hid b1
  have BE1 := Lib.hid be1
  clear b1 be1
  generalize hact : Act.put _ (some 2) _ = act
  simp only [Act.put, List.setIfInBounds_toArray, List.set_cons_succ, List.set_cons_zero] at hact
  subst hact
  have hr : Hid (w1.rangeAt B 0 (ints .u8 (m.take 4))) := by
    have h := range_part X1.out 0 4
    have e : (m.drop 0).take 4 = m.take 4 := rfl
    rw [e] at h
    exact h
  go_upto_region 1 with (fail)
  refine lin_begin (opsOf Tryd.f34 1) (by kernel_rfl) ?_
  refine lin_now 0 (.slice (some ⟨B, 0, none⟩) 4 8) (some 3) (by kernel_rfl) (by kernel_rfl) (by kernel_rfl) ?_
  refine lin_call 1 37 #[.slice (some ⟨B, 0, none⟩) 4 8] (some 4) _ (by kernel_rfl) (by kernel_rfl) (by kernel_rfl) (number_walk B 0 4 8 (m.take 4) _ hr.out (by simp [HL.out]) (bytes_take HB.out 4) (by omega)) ?_
  rintro e w2 ⟨rfl, rfl⟩
  refine ⟨_, rfl, ?_⟩
  refine lin_now 2 (.int .i64 (numB (m.take 4))) (some 2) (by kernel_rfl) (by kernel_rfl) (by kernel_rfl) ?_
  refine lin_done 3 (by kernel_rfl) ?_
  generalize hact : Act.put _ (some 2) _ = act
  simp only [Act.put, List.setIfInBounds_toArray, List.set_cons_succ, List.set_cons_zero] at hact
  subst hact
  go_wp2
  go_ret
  exact ⟨rfl, BE1.out⟩
set_option maxHeartbeats 1000000 in
theorem mnum_walk (m : List Int) (hl : m.length = 8) (hb : isBytes m) (w : World) :
    Calls Tryd.prog 35 #[.agg (ints .u8 m).toArray] w fun e w' => e = .returned (.int .i64 (numB (m.drop 4))) ∧ Below w.heap.size w w' := by
  have HL := Lib.hid hl
  have HB := Lib.hid hb
  obtain ⟨B, hB⟩ : ∃ B, Hid (w.heap.size = B) := ⟨_, rfl⟩
  rw [hB.out]
  clear hl hb
  go_enter Tryd.func35, Tryd.ntmps35
  go_upto_region 0 with (fail)
  refine lin_begin (opsOf Tryd.f35 0) (by kernel_rfl) ?_
  refine lin_box 0 50 (.tmp 0) (ints .u8 m) (B) (some 1) (by kernel_rfl) (by kernel_rfl) (by kernel_rfl) (by kernel_rfl) hB ?_
  intro w1 b1 be1 hs1
  refine lin_now 1 (.int .i64 0) (some 2) (by kernel_rfl) (by kernel_rfl) (by kernel_rfl) ?_
  refine lin_done 2 (by kernel_rfl) ?_
  have X1 := Lib.hid b1
  have BE1 := Lib.hid be1
  clear b1 be1
  generalize hact : Act.put _ (some 2) _ = act
  simp only [Act.put, List.setIfInBounds_toArray, List.set_cons_succ, List.set_cons_zero] at hact
  subst hact
  have hr : Hid (w1.rangeAt B 4 (ints .u8 (m.drop 4))) := by
    have h := range_part X1.out 4 4
    have e : (m.drop 4).take 4 = m.drop 4 := List.take_of_length_le (by rw [List.length_drop, HL.out]; omega)
    rw [e] at h
    exact h
  go_upto_region 1 with (fail)
  refine lin_begin (opsOf Tryd.f35 1) (by kernel_rfl) ?_
  refine lin_now 0 (.slice (some ⟨B, 4, none⟩) 4 4) (some 3) (by kernel_rfl) (by kernel_rfl) (by kernel_rfl) ?_
  refine lin_call 1 37 #[.slice (some ⟨B, 4, none⟩) 4 4] (some 4) _ (by kernel_rfl) (by kernel_rfl) (by kernel_rfl) (number_walk B 4 4 4 (m.drop 4) _ hr.out (by simp [HL.out]) (bytes_drop HB.out 4) (by omega)) ?_
  rintro e w2 ⟨rfl, rfl⟩
  refine ⟨_, rfl, ?_⟩
  refine lin_now 2 (.int .i64 (numB (m.drop 4))) (some 2) (by kernel_rfl) (by kernel_rfl) (by kernel_rfl) ?_
  refine lin_done 3 (by kernel_rfl) ?_
  generalize hact : Act.put _ (some 2) _ = act
  simp only [Act.put, List.setIfInBounds_toArray, List.set_cons_succ, List.set_cons_zero] at hact
  subst hact
  go_wp2
  go_ret
  exact ⟨rfl, BE1.out⟩
end Go.Proofs.YtaeghgnhpgkcdaaDoor
