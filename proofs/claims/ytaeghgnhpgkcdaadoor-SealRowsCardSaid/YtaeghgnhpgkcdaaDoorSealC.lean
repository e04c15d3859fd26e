/- Package seal: sector, Whole, Mark, Data. -/
import Derived.Test.YtaeghgnhpgkcdaaDoorSealB
namespace Go.Proofs.YtaeghgnhpgkcdaaDoor
open Go Go.RowKit
set_option maxRecDepth 100000

theorem splice_at (A C V : List Int) (o : Nat) (ho : A.length = o) : splice (ints .u8 (A ++ C)) o (ints .u8 V) = ints .u8 (A ++ (V ++ C.drop V.length)) := by
  subst ho
  rw [splice_ints, List.take_left, ← List.drop_drop, List.drop_left]
theorem zeros_drop (a b : Nat) : (zeros a).drop b = zeros (a - b) := by simp [zeros]
theorem zeros_add (a b : Nat) : zeros (a + b) = zeros a ++ zeros b := by unfold zeros; rw [List.replicate_append_replicate]
theorem zB_zeros : zB = zeros 64 := rfl
def sec1 (m : List Int) : List Int := m ++ zeros 56
def sec2 (m : List Int) (n : Nat) : List Int := m ++ (beB 2 n ++ zeros 54)
def sec3 (m data : List Int) : List Int := m ++ (beB 2 data.length ++ (data ++ zeros (54 - data.length)))
theorem cells1 {m : List Int} (hm : m.length = 8) : splice (ints .u8 zB) 0 (ints .u8 m) = ints .u8 (sec1 m) := by
  have h := splice_at [] zB m 0 rfl
  rw [List.nil_append, List.nil_append, zB_zeros, zeros_drop, hm] at h
  exact h
theorem cells2 {m : List Int} (hm : m.length = 8) (n : Nat) : splice (ints .u8 (sec1 m)) 8 (ints .u8 (beB 2 n)) = ints .u8 (sec2 m n) := by
  have h := splice_at m (zeros 56) (beB 2 n) 8 hm
  rw [zeros_drop, beB_length] at h
  exact h
theorem cells3 {m data : List Int} (hm : m.length = 8) : splice (ints .u8 (sec2 m data.length)) 10 (ints .u8 data) = ints .u8 (sec3 m data) := by
  have h := splice_at (m ++ beB 2 data.length) (zeros 54) data 10 (by rw [List.length_append, hm, beB_length])
  rw [zeros_drop, List.append_assoc, List.append_assoc] at h
  exact h
theorem cells4 {m data : List Int} (hm : m.length = 8) (hd : data.length ≤ 46) : splice (ints .u8 (sec3 m data)) 56 (ints .u8 m) = ints .u8 (sectorP m data) := by
  have h := splice_at (m ++ (beB 2 data.length ++ (data ++ zeros (46 - data.length)))) (zeros 8) m 56 (by simp only [List.length_append, hm, beB_length, zeros_length]; omega)
  rw [zeros_drop, hm, show zeros (8 - 8) = [] from rfl, List.append_nil] at h
  have e : (m ++ (beB 2 data.length ++ (data ++ zeros (46 - data.length)))) ++ zeros 8 = sec3 m data := by
    unfold sec3
    rw [show 54 - data.length = (46 - data.length) + 8 by omega, zeros_add]
    simp only [List.append_assoc]
  rw [e] at h
  rw [h]
  unfold sectorP
  simp only [List.append_assoc]
theorem sec1_length {m : List Int} (hm : m.length = 8) : (sec1 m).length = 64 := by simp only [sec1, List.length_append, hm, zeros_length]
theorem sec2_length {m : List Int} (hm : m.length = 8) (n : Nat) : (sec2 m n).length = 64 := by simp only [sec2, List.length_append, hm, zeros_length, beB_length]
theorem sec3_length {m data : List Int} (hm : m.length = 8) (hd : data.length ≤ 46) : (sec3 m data).length = 64 := by simp only [sec3, List.length_append, hm, zeros_length, beB_length]; omega
set_option maxHeartbeats 2000000 in
theorem sector_walk (m data : List Int) (pb po n c : Nat) (hm : m.length = 8) (hd : data.length = n) (hn : n ≤ 46) (w : World) (hr : w.rangeAt pb po (ints .u8 data)) (hp : pb < w.heap.size) :
    Calls Tryd.prog 27 #[.agg (ints .u8 m).toArray, .slice (some ⟨pb, po, none⟩) n c] w fun e w' => e = .returned (.agg (ints .u8 (sectorP m data)).toArray) ∧ Below w.heap.size w w' := by
  have HM := Lib.hid hm
  have HD := Lib.hid hd
  have HR := Lib.hid hr
  have HP := Lib.hid hp
  obtain ⟨s, hs⟩ : ∃ s, Hid (sectorP m data = s) := ⟨_, rfl⟩
  have HS : Hid (s.length = 64) := by unfold Hid; rw [← hs.out]; exact sectorP_length hm (by omega)
  have IS : Hid ((Tryd.prog.info? 37).map (·.size) = some (ints .u8 s).length) := infoBlk s HS.out
  rw [hs.out]
  obtain ⟨B, hB⟩ : ∃ B, Hid (w.heap.size = B) := ⟨_, rfl⟩
  rw [hB.out]
  clear hm hd hr hp
  go_enter Tryd.func27, Tryd.ntmps27
  go_upto_region 0 with (fail)
  refine lin_begin (opsOf Tryd.f27 0) (by kernel_rfl) ?_
  refine lin_box 0 50 (.tmp 0) (ints .u8 m) (B) (some 2) (by kernel_rfl) (by kernel_rfl) (by kernel_rfl) (by kernel_rfl) hB ?_
  intro w1 b1 be1 hs1
  refine lin_alloc 1 37 (ints .u8 zB) (B + 1) (some 4) (by kernel_rfl) (by kernel_rfl) (by kernel_rfl) zeroBlk hs1 ?_
  intro w2 b2 be2 hs2
  refine lin_done 2 (by kernel_rfl) ?_
  have X2 := Lib.hid (b1.below be2 (Nat.lt_succ_self _))
  have A2 := Lib.hid b2
  have BE2 := Lib.hid (be1.trans (be2.mono (Nat.le_succ _)))
  clear b1 be1 b2 be2 hs1
  generalize hact : Act.put _ (some 4) _ = act
  simp only [Act.put, List.setIfInBounds_toArray, List.set_cons_succ, List.set_cons_zero] at hact
  subst hact
  go_upto_region 1 with (fail)
  refine lin_begin (opsOf Tryd.f27 1) (by kernel_rfl) ?_
  refine lin_alloc 0 37 (ints .u8 zB) (B + 1 + 1) (some 5) (by kernel_rfl) (by kernel_rfl) (by kernel_rfl) zeroBlk hs2 ?_
  intro w3 b3 be3 hs3
  refine lin_done 1 (by kernel_rfl) ?_
  have X3 := Lib.hid (X2.out.below be3 (by omega))
  have A3 := Lib.hid (A2.out.below be3 (by omega))
  have M3 := Lib.hid b3
  have BE3 := Lib.hid (BE2.out.trans (be3.mono (by omega)))
  have S3 : Hid (B + 3 = w3.heap.size) := hs3.out.symm
  have R3 : Hid (w3.rangeAt pb po (ints .u8 data)) := fun j v hv => by rw [BE3.out.cell (p := ⟨pb, po + j, none⟩) (by have := HP.out; have := hB.out; simp; omega)]; exact HR.out j v hv
  have HPB : Hid (pb < B) := by unfold Hid; have := HP.out; have := hB.out; omega
  clear b3 be3 X2 A2 BE2 hs2 hs3 HR HP
  generalize hact : Act.put _ (some 5) _ = act
  simp only [Act.put, List.setIfInBounds_toArray, List.set_cons_succ, List.set_cons_zero] at hact
  subst hact
  have LE3 : Hid (B + 3 ≤ w3.heap.size) := Nat.le_of_eq S3.out
  clear S3
  go_upto_region 2 with (fail)
  refine region_begin (opsOf Tryd.f27 2) (fun _ => True) (by kernel_rfl) (by kernel_rfl) 3 (by kernel_rfl) ?_
  intro Q' hQN hN
  refine reg_now 0 (.slice (some ⟨B + 1 + 1, 0, none⟩) 64 64) (some 6) hQN trivial (by kernel_rfl) (by kernel_rfl) (fun w => by kernel_rfl) ?_
  refine reg_now 1 (.slice (some ⟨B, 0, none⟩) 8 8) (some 7) hQN trivial (by kernel_rfl) (by kernel_rfl) (fun w => by kernel_rfl) ?_
  refine reg_copy 2 (some 8) (by kernel_rfl) (by kernel_rfl) 22 22 3 5 (B + 1 + 1) 0 64 64 B 0 8 8 (by kernel_rfl) Tryd.underlying22 size1Byte (ints .u8 zB) 37 M3.out (ints .u8 m) (by rw [ints_length, HM.out]; rfl) X3.out.whole (by rw [ints_length, ints_length, HM.out, zB_length]; omega) (ints_one _ _) ?_
  intro w4 b4 u4
  refine ⟨trivial, ?_⟩
  refine reg_done (by kernel_rfl) (hN _ _ ?_)
  rw [cells1 HM.out] at b4
  have M4 := Lib.hid b4
  have Yx : Blk w3.drew B 50 (ints .u8 m) := X3.out
  have Za : Blk w3.drew (B + 1) 37 (ints .u8 zB) := A3.out
  have Br : Below B w w3.drew := BE3.out.drew
  have Rr : w3.drew.rangeAt pb po (ints .u8 data) := R3.out
  have Ss : B + 3 ≤ w3.drew.heap.size := LE3.out
  have X4 := Lib.hid (u4.blk Yx (by omega))
  have A4 := Lib.hid (u4.blk Za (by omega))
  have BE4 := Lib.hid (u4.below Br (by omega) (by omega))
  have R4 : Hid (w4.rangeAt pb po (ints .u8 data)) := fun j v hv => by rw [u4.cell (p := ⟨pb, po + j, none⟩) (by have := HPB.out; simp only; omega) (by have := HPB.out; simp only; omega)]; exact Rr j v hv
  have LE4 : Hid (B + 3 ≤ w4.heap.size) := Nat.le_trans Ss u4.size
  clear Yx Za Br Rr Ss u4 X3 A3 BE3 R3 LE3
  clear b4 M3 hQN hN
  generalize hact : Act.put _ (some 8) _ = act
  simp only [Act.put, List.setIfInBounds_toArray, List.set_cons_succ, List.set_cons_zero] at hact
  subst hact
  go_upto_region 3 with (fail)
  refine lin_begin (opsOf Tryd.f27 3) (by kernel_rfl) ?_
  refine lin_now 0 (.slice (some ⟨B + 1 + 1, 8, none⟩) 2 56) (some 9) (by kernel_rfl) (by kernel_rfl) (by kernel_rfl) ?_
  refine lin_now 1 (.slice (some ⟨pb, po, none⟩) n c) (some 10) (by kernel_rfl) (by kernel_rfl) (by kernel_rfl) ?_
  refine lin_now 2 (.int .i64 (n : Int)) (some 11) (by kernel_rfl) (by kernel_rfl) (by kernel_rfl) ?_
  refine lin_call 3 39 #[.slice (some ⟨B + 1 + 1, 8, none⟩) 2 56, .int .i64 (n : Int)] (some 12) _ (by kernel_rfl) (by kernel_rfl) (by kernel_rfl) (put_walk (B + 1 + 1) 8 2 56 n _ _ _ M4.out (by rw [ints_length, sec1_length HM.out]; omega) (by omega) (by omega)) ?_
  rintro e w5 ⟨rfl, b5, u5⟩
  rw [cells2 HM.out] at b5
  refine ⟨_, rfl, ?_⟩
  refine lin_done 4 (by kernel_rfl) ?_
  have M5 := Lib.hid b5
  have Yx : Blk w4 B 50 (ints .u8 m) := X4.out
  have Za : Blk w4 (B + 1) 37 (ints .u8 zB) := A4.out
  have Br : Below B w w4 := BE4.out
  have Rr : w4.rangeAt pb po (ints .u8 data) := R4.out
  have Ss : B + 3 ≤ w4.heap.size := LE4.out
  have X5 := Lib.hid (u5.blk Yx (by omega))
  have A5 := Lib.hid (u5.blk Za (by omega))
  have BE5 := Lib.hid (u5.below Br (by omega) (by omega))
  have R5 : Hid (w5.rangeAt pb po (ints .u8 data)) := fun j v hv => by rw [u5.cell (p := ⟨pb, po + j, none⟩) (by have := HPB.out; simp only; omega) (by have := HPB.out; simp only; omega)]; exact Rr j v hv
  have LE5 : Hid (B + 3 ≤ w5.heap.size) := Nat.le_trans Ss u5.size
  clear Yx Za Br Rr Ss u5 X4 A4 BE4 R4 LE4
  clear b5 M4
  generalize hact : Act.put _ (some 12) _ = act
  simp only [Act.put, List.setIfInBounds_toArray, List.set_cons_succ, List.set_cons_zero] at hact
  subst hact
  have HDL : Hid (data.length = n) := HD
  go_upto_region 4 with (fail)
  refine lin_begin (opsOf Tryd.f27 4) (by kernel_rfl) ?_
  refine lin_now 0 (.slice (some ⟨B + 1 + 1, 10, none⟩) 46 54) (some 13) (by kernel_rfl) (by kernel_rfl) (by kernel_rfl) ?_
  refine lin_now 1 (.slice (some ⟨pb, po, none⟩) n c) (some 14) (by kernel_rfl) (by kernel_rfl) (by kernel_rfl) ?_
  refine lin_copy 2 (some 15) (by kernel_rfl) (by kernel_rfl) 22 22 3 5 (B + 1 + 1) 10 46 54 pb po n c (by kernel_rfl) Tryd.underlying22 size1Byte _ 37 M5.out (ints .u8 data) (by rw [ints_length, HD.out]; exact (Nat.min_eq_left hn).symm) R5.out (by rw [ints_length, ints_length, sec2_length HM.out, HD.out]; omega) (ints_one _ _) ?_
  intro w6 b6 u6
  refine lin_done 3 (by kernel_rfl) ?_
  rw [← HD.out, cells3 HM.out] at b6
  have M6 := Lib.hid b6
  have Yx : Blk w5 B 50 (ints .u8 m) := X5.out
  have Za : Blk w5 (B + 1) 37 (ints .u8 zB) := A5.out
  have Br : Below B w w5 := BE5.out
  have Rr : w5.rangeAt pb po (ints .u8 data) := R5.out
  have Ss : B + 3 ≤ w5.heap.size := LE5.out
  have X6 := Lib.hid (u6.blk Yx (by omega))
  have A6 := Lib.hid (u6.blk Za (by omega))
  have BE6 := Lib.hid (u6.below Br (by omega) (by omega))
  have R6 : Hid (w6.rangeAt pb po (ints .u8 data)) := fun j v hv => by rw [u6.cell (p := ⟨pb, po + j, none⟩) (by have := HPB.out; simp only; omega) (by have := HPB.out; simp only; omega)]; exact Rr j v hv
  have LE6 : Hid (B + 3 ≤ w6.heap.size) := Nat.le_trans Ss u6.size
  clear Yx Za Br Rr Ss u6 X5 A5 BE5 R5 LE5
  clear b6 M5
  generalize hact : Act.put _ (some 15) _ = act
  simp only [Act.put, List.setIfInBounds_toArray, List.set_cons_succ, List.set_cons_zero] at hact
  subst hact
  go_upto_region 5 with (fail)
  refine region_begin (opsOf Tryd.f27 5) (fun _ => True) (by kernel_rfl) (by kernel_rfl) 3 (by kernel_rfl) ?_
  intro Q' hQN hN
  refine reg_now 0 (.slice (some ⟨B + 1 + 1, 56, none⟩) 8 8) (some 16) hQN trivial (by kernel_rfl) (by kernel_rfl) (fun w => by kernel_rfl) ?_
  refine reg_now 1 (.slice (some ⟨B, 0, none⟩) 8 8) (some 17) hQN trivial (by kernel_rfl) (by kernel_rfl) (fun w => by kernel_rfl) ?_
  refine reg_copy 2 (some 18) (by kernel_rfl) (by kernel_rfl) 22 22 3 5 (B + 1 + 1) 56 8 8 B 0 8 8 (by kernel_rfl) Tryd.underlying22 size1Byte _ 37 M6.out (ints .u8 m) (by rw [ints_length, HM.out]; rfl) X6.out.whole (by rw [ints_length, ints_length, HM.out, sec3_length HM.out (by rw [HD.out]; omega)]; omega) (ints_one _ _) ?_
  intro w7 b7 u7
  refine ⟨trivial, ?_⟩
  refine reg_done (by kernel_rfl) (hN _ _ ?_)
  rw [cells4 HM.out (by rw [HD.out]; omega), hs.out] at b7
  have M7 := Lib.hid b7
  have Yx : Blk w6.drew B 50 (ints .u8 m) := X6.out
  have Za : Blk w6.drew (B + 1) 37 (ints .u8 zB) := A6.out
  have Br : Below B w w6.drew := BE6.out.drew
  have Rr : w6.drew.rangeAt pb po (ints .u8 data) := R6.out
  have Ss : B + 3 ≤ w6.drew.heap.size := LE6.out
  have X7 := Lib.hid (u7.blk Yx (by omega))
  have A7 := Lib.hid (u7.blk Za (by omega))
  have BE7 := Lib.hid (u7.below Br (by omega) (by omega))
  have R7 : Hid (w7.rangeAt pb po (ints .u8 data)) := fun j v hv => by rw [u7.cell (p := ⟨pb, po + j, none⟩) (by have := HPB.out; simp only; omega) (by have := HPB.out; simp only; omega)]; exact Rr j v hv
  have LE7 : Hid (B + 3 ≤ w7.heap.size) := Nat.le_trans Ss u7.size
  clear Yx Za Br Rr Ss u7 X6 A6 BE6 R6 LE6
  clear b7 M6 hQN hN
  generalize hact : Act.put _ (some 18) _ = act
  simp only [Act.put, List.setIfInBounds_toArray, List.set_cons_succ, List.set_cons_zero] at hact
  subst hact
  go_upto_region 6 with (fail)
  refine lin_begin (opsOf Tryd.f27 6) (by kernel_rfl) ?_
  refine lin_load 0 37 (.tmp 5) (B + 1 + 1) _ (ints .u8 s) (some 19) (by kernel_rfl) (by kernel_rfl) (by kernel_rfl) (by kernel_rfl) M7.out _ Tryd.underlying37 rfl IS.out ?_
  refine lin_put 1 37 (.tmp 4) (.tmp 19) (B + 1) _ (ints .u8 zB) (ints .u8 s) (by kernel_rfl) (by kernel_rfl) (by kernel_rfl) (by kernel_rfl) (by kernel_rfl) A7.out (by rw [ints_length, ints_length, HS.out, zB_length]) IS.out (ints_oneCell _ _) ?_
  intro w8 b8 u8
  refine lin_done 2 (by kernel_rfl) ?_
  have A8 := Lib.hid b8
  have BE8 := Lib.hid (u8.below BE7.out (by omega) (by have := LE7.out; omega))
  clear b8 u8 X7 A7 M7 BE7 R7 LE7
  generalize hact : Act.put _ none _ = act
  simp only [Act.put, List.setIfInBounds_toArray, List.set_cons_succ, List.set_cons_zero] at hact
  subst hact
  go_wp2
  refine bodyPost_ret (v := .agg (ints .u8 (s)).toArray) ?_ rfl ⟨rfl, BE8.out⟩
  exact results_cell_row (g := B + 1) (t := 37) (cs := (ints .u8 (s)).toArray) (fr := (0, 0)) Tryd.results27 _ _ _ rfl A8.out Tryd.underlying37 rfl (by rw [List.size_toArray]; exact IS.out)
end Go.Proofs.YtaeghgnhpgkcdaaDoor
