/- The document's own Word. -/
import Derived.Test.YteohjbggicchgaaKTrmQ
import Derived.Test.YteohjbggicchgaaKTrmR
import Derived.Test.YteohjbggicchgaaKGenT
namespace Go.Proofs.Yteohjbggicchgaa
open Go Go.RowKit
set_option maxRecDepth 100000
theorem run_build_words (w : World) : (Instr.buildSlice 99 16 #[(0, strT [80, 114, 111, 112]), (1, strT [84, 121, 112, 101]), (2, strT [102, 117, 110]), (3, strT [97, 108, 108]), (4, strT [108, 101, 116]), (5, strT [105, 110]), (6, strT [111, 102]), (7, strT [119, 105, 116, 104]), (8, strT [97, 120, 105, 111, 109]), (9, strT [100, 101, 102]), (10, strT [116, 104, 101, 111, 114, 101, 109]), (11, strT [102, 97, 109, 105, 108, 121]), (12, strT [117, 48]), (13, strT [117, 49]), (14, strT [117, 50]), (15, strT [117, 51])]).run Try.prog w = .ok (.slice (some ⟨w.heap.size, 0, none⟩) 16 16) (w.alloc (.cells [strT [80, 114, 111, 112], strT [84, 121, 112, 101], strT [102, 117, 110], strT [97, 108, 108], strT [108, 101, 116], strT [105, 110], strT [111, 102], strT [119, 105, 116, 104], strT [97, 120, 105, 111, 109], strT [100, 101, 102], strT [116, 104, 101, 111, 114, 101, 109], strT [102, 97, 109, 105, 108, 121], strT [117, 48], strT [117, 49], strT [117, 50], strT [117, 51]].toArray 9)) := by kernel_rfl
set_option maxHeartbeats 8000000 in
theorem rword_walk (s : List UInt8) (hl : s.length ≤ 140737488351232) (w : World) : Calls Try.prog 46 #[strT s] w fun e w' => e = .returned (.bool (wordB s)) ∧ Below w.heap.size w w' := by
 obtain ⟨n, hn⟩ : ∃ n, Hid (s.length = n) := ⟨_, rfl⟩
 rw [hn.out] at hl
 have hW : wordB s = (decide (n ≤ 32) && !reservedB s && partsB true s) := by unfold wordB; rw [hn.out]
 have HW := Lib.hid hW
 clear hW
 go_enter Try.func46, Try.ntmps46
 by_cases h1 : n < 1
 ·have r0 : decide ((n : Int) < 1) = true := by simp; omega
  go_upto_region 1 with (fail)
  refine lbeg (opsOf Try.f46 1) ?_
  refine lnow 0 (strT s) (some 7) ?_
  refine lnow 1 (.int .i64 (s.length : Int)) (some 8) ?_
  rw [hn.out]
  refine lnow 2 (.bool (decide ((n : Int) < 1))) (some 9) ?_
  rw [r0]
  refine lnow 3 (.bool true) (some 10) ?_
  refine lpas 4 (some 11) ?_
  refine lpas 5 (some 12) ?_
  refine lpas 6 (some 13) ?_
  refine lnow 7 (.bool true) (some 14) ?_
  refine ldn 8 ?_
  generalize hact : Act.put _ (some 14) _ = act
  simp only [Act.put, sA, sC, sZ] at hact
  subst hact
  have hs : s = [] := List.eq_nil_of_length_eq_zero (by have := hn.out; omega)
  go_wp2
  go_ret
  exact ⟨by rw [HW.out, hs]; simp [partsB], Below.refl _ _⟩
 have r0 : decide ((n : Int) < 1) = false := by simp; omega
 by_cases h32 : 32 < n
 ·have r2 : decide ((n : Int) > 32) = true := by simp; omega
  go_upto_region 1 with (fail)
  refine lbeg (opsOf Try.f46 1) ?_
  refine lnow 0 (strT s) (some 7) ?_
  refine lnow 1 (.int .i64 (s.length : Int)) (some 8) ?_
  rw [hn.out]
  refine lnow 2 (.bool (decide ((n : Int) < 1))) (some 9) ?_
  rw [r0]
  refine lnow 3 (.bool false) (some 10) ?_
  refine lnow 4 (strT s) (some 11) ?_
  refine lnow 5 (.int .i64 (s.length : Int)) (some 12) ?_
  rw [hn.out]
  refine lnow 6 (.bool (decide ((n : Int) > 32))) (some 13) ?_
  rw [r2]
  refine lnow 7 (.bool true) (some 14) ?_
  refine ldn 8 ?_
  generalize hact : Act.put _ (some 14) _ = act
  simp only [Act.put, sA, sC, sZ] at hact
  subst hact
  go_wp2
  go_ret
  exact ⟨by rw [HW.out, decide_eq_false (show ¬ n ≤ 32 by omega)]; rfl, Below.refl _ _⟩
 have r2 : decide ((n : Int) > 32) = false := by simp; omega
 have HW2 : Hid (wordB s = (!reservedB s && partsB true s)) := by rw [Hid, HW.out, decide_eq_true (show n ≤ 32 by omega)]; rfl
 clear HW
 go_upto_region 1 with (fail)
 refine lbeg (opsOf Try.f46 1) ?_
 refine lnow 0 (strT s) (some 7) ?_
 refine lnow 1 (.int .i64 (s.length : Int)) (some 8) ?_
 rw [hn.out]
 refine lnow 2 (.bool (decide ((n : Int) < 1))) (some 9) ?_
 rw [r0]
 refine lnow 3 (.bool false) (some 10) ?_
 refine lnow 4 (strT s) (some 11) ?_
 refine lnow 5 (.int .i64 (s.length : Int)) (some 12) ?_
 rw [hn.out]
 refine lnow 6 (.bool (decide ((n : Int) > 32))) (some 13) ?_
 rw [r2]
 refine lnow 7 (.bool false) (some 14) ?_
 refine ldn 8 ?_
 generalize hact : Act.put _ (some 14) _ = act
 simp only [Act.put, sA, sC, sZ] at hact
 subst hact
 clear r0 r2 h1
 go_upto_region 3 with (fail)
 refine lbeg (opsOf Try.f46 3) ?_
 refine lnow 0 (.bool true) (some 3) ?_
 refine ldn 1 ?_
 generalize hact : Act.put _ (some 3) _ = act
 simp only [Act.put, sA, sC, sZ] at hact
 subst hact
 go_upto_region 4 with (fail)
 refine lbeg (opsOf Try.f46 4) ?_
 refine lnow 0 (.int .i64 0) (some 4) ?_
 refine ldn 1 ?_
 generalize hact : Act.put _ (some 4) _ = act
 simp only [Act.put, sA, sC, sZ] at hact
 subst hact
 go_wp2
 go_loopw [3, 4] (fun bv iv wr => ∃ (i : Nat) (b : Bool), i ≤ n ∧ bv = .bool b ∧ iv = .int .i64 (i : Int) ∧ Hid (partsB b (s.drop i) = partsB true s) ∧ w = wr) (fun _ iv _ => n - (intOf iv).toNat)
 case atStart => exact ⟨0, true, Nat.zero_le _, rfl, rfl, by rw [Hid, List.drop_zero], rfl⟩
 case round =>
  obtain ⟨i, b, hi, rfl, rfl, hP, rfl⟩ := hrel
  by_cases hlt : i < n
  ·have r1 : (i : Int) < (n : Int) := by omega
   obtain ⟨c, hc⟩ : ∃ c, s[i]? = some c := ⟨_, List.getElem?_eq_getElem (by have := hn.out; omega)⟩
   have hP2 := hP.out
   rw [drop_at hc] at hP2
   obtain ⟨x, hx⟩ : ∃ x : Int, Hid ((c.toNat : Int) = x) := ⟨_, rfl⟩
   have HC := Lib.hid hc
   have hLb : letterB c = decide ((97 ≤ x ∧ x ≤ 122) ∨ (65 ≤ x ∧ x ≤ 90)) := by rw [letterB_eq, hx.out]
   have hDb : digitB c = decide (48 ≤ x ∧ x ≤ 57) := by rw [digitB_eq, hx.out]
   have h46 : c = 46 ↔ x = 46 := (byte_eq c 46 (by omega)).trans (by have := hx.out; omega)
   have h95 : c = 95 ↔ x = 95 := (byte_eq c 95 (by omega)).trans (by have := hx.out; omega)
   clear hc hP
   have LW := rletter_walk x w
   have DW := rdigit_walk x w
   rw [← hLb] at LW
   rw [← hDb] at DW
   obtain ⟨lb, hlb⟩ : ∃ y, Hid (letterB c = y) := ⟨_, rfl⟩
   obtain ⟨db, hdb⟩ : ∃ y, Hid (digitB c = y) := ⟨_, rfl⟩
   rw [hlb.out] at LW
   rw [hdb.out] at DW
   have PT : partsB true (c :: s.drop (i + 1)) = (lb && partsB false (s.drop (i + 1))) := by rw [partsB, hlb.out]
   have PF : partsB false (c :: s.drop (i + 1)) = if x = 46 then partsB true (s.drop (i + 1)) else (lb || db || decide (x = 95)) && partsB false (s.drop (i + 1)) := by rw [partsB, hlb.out, hdb.out]; simp only [h46, h95]
   have hl46 : lb = true → x ≠ 46 := by rintro rfl; have := hLb.symm.trans hlb.out; simp at this; omega
   have HP := Lib.hid hP2
   have HPT := Lib.hid PT
   have HPF := Lib.hid PF
   have HL46 := Lib.hid hl46
   clear hP2 PT PF hLb hDb h46 h95 hlb hdb hl46
   go_upto_region 5 with (fail)
   refine lbeg (opsOf Try.f46 5) ?_
   refine lnow 0 (.int .i64 (i : Int)) (some 15) ?_
   refine lnow 1 (strT s) (some 16) ?_
   refine lnow 2 (.int .i64 (s.length : Int)) (some 17) ?_
   rw [hn.out]
   refine lnow 3 (.bool (decide ((i : Int) < (n : Int)))) (some 18) ?_
   rw [decide_eq_true r1]
   refine ldn 4 ?_
   generalize hact : Act.put _ (some 18) _ = act
   simp only [Act.put, sA, sC, sZ] at hact
   subst hact
   cases b
   rotate_left
   ·cases lb
    rotate_left
    ·have hx46 := HL46.out rfl
     have NX : Hid (partsB false (s.drop (i + 1)) = partsB true s) := by rw [Hid, ← HP.out, HPT.out]; simp
     go_upto_region 7 with (fail)
     refine lbeg (opsOf Try.f46 7) ?_
     refine lnow 0 (.bool true) (some 22) ?_
     refine lnow 1 (.bool true) (some 23) ?_
     refine lnow 2 (strT s) (some 24) ?_
     refine lnow 3 (.int .i64 (i : Int)) (some 25) ?_
     refine lnowP 4 (.int .u8 (c.toNat : Int)) (some 26) (exec_stridx (.tmp 24) (.tmp 25) (by kernel_rfl) s (by kernel_rfl) i (by kernel_rfl) c HC.out) ?_
     rw [hx.out]
     refine lcal 5 71 #[.int .u8 x] (some 27) _ (LW) ?_
     rintro e w7 ⟨rfl, hw7⟩
     obtain rfl := hw7.symm
     refine ⟨_, rfl, ?_⟩
     refine lnow 6 (.bool false) (some 28) ?_
     refine lnow 7 (.bool false) (some 29) ?_
     refine lnow 8 (.bool false) (some 21) ?_
     refine ldn 9 ?_
     generalize hact : Act.put _ (some 21) _ = act
     simp only [Act.put, sA, sC, sZ] at hact
     subst hact
     go_upto_region 9 with (fail)
     refine lbeg (opsOf Try.f46 9) ?_
     refine lnow 0 (strT s) (some 31) ?_
     refine lnow 1 (.int .i64 (i : Int)) (some 32) ?_
     refine lnowP 2 (.int .u8 (c.toNat : Int)) (some 33) (exec_stridx (.tmp 31) (.tmp 32) (by kernel_rfl) s (by kernel_rfl) i (by kernel_rfl) c HC.out) ?_
     rw [hx.out]
     refine lnowP 3 (.bool false) (some 34) (exec_eqli hx46 (by kernel_rfl)) ?_
     refine lnow 4 (.bool false) (some 30) ?_
     refine ldn 5 ?_
     generalize hact : Act.put _ (some 30) _ = act
     simp only [Act.put, sA, sC, sZ] at hact
     subst hact
     go_upto_region 11 with (fail)
     refine lbeg (opsOf Try.f46 11) ?_
     refine lnow 0 (strT s) (some 36) ?_
     refine lnow 1 (.int .i64 (i : Int)) (some 37) ?_
     refine lnowP 2 (.int .u8 (c.toNat : Int)) (some 38) (exec_stridx (.tmp 36) (.tmp 37) (by kernel_rfl) s (by kernel_rfl) i (by kernel_rfl) c HC.out) ?_
     rw [hx.out]
     refine lcal 3 71 #[.int .u8 x] (some 39) _ (LW) ?_
     rintro e w8 ⟨rfl, hw8⟩
     obtain rfl := hw8.symm
     refine ⟨_, rfl, ?_⟩
     refine lnow 4 (.bool false) (some 40) ?_
     refine lnow 5 (.bool false) (some 41) ?_
     refine lpas 6 (some 42) ?_
     refine lpas 7 (some 43) ?_
     refine lpas 8 (some 44) ?_
     refine lpas 9 (some 45) ?_
     refine lpas 10 (some 46) ?_
     refine lnow 11 (.bool false) (some 47) ?_
     refine lnow 12 (.bool false) (some 48) ?_
     refine lpas 13 (some 49) ?_
     refine lpas 14 (some 50) ?_
     refine lpas 15 (some 51) ?_
     refine lpas 16 (some 52) ?_
     refine lnow 17 (.bool false) (some 53) ?_
     refine lnow 18 (.bool false) (some 35) ?_
     refine ldn 19 ?_
     generalize hact : Act.put _ (some 35) _ = act
     simp only [Act.put, sA, sC, sZ] at hact
     subst hact
     go_wp2
     go_roundw
     case rel => exact ⟨i + 1, false, by omega, rfl, by go_num, NX, by trivial⟩
     case measure => simp [intOf]; omega
    go_upto_region 7 with (fail)
    refine lbeg (opsOf Try.f46 7) ?_
    refine lnow 0 (.bool true) (some 22) ?_
    refine lnow 1 (.bool true) (some 23) ?_
    refine lnow 2 (strT s) (some 24) ?_
    refine lnow 3 (.int .i64 (i : Int)) (some 25) ?_
    refine lnowP 4 (.int .u8 (c.toNat : Int)) (some 26) (exec_stridx (.tmp 24) (.tmp 25) (by kernel_rfl) s (by kernel_rfl) i (by kernel_rfl) c HC.out) ?_
    rw [hx.out]
    refine lcal 5 71 #[.int .u8 x] (some 27) _ (LW) ?_
    rintro e w7 ⟨rfl, hw7⟩
    obtain rfl := hw7.symm
    refine ⟨_, rfl, ?_⟩
    refine lnow 6 (.bool true) (some 28) ?_
    refine lnow 7 (.bool true) (some 29) ?_
    refine lnow 8 (.bool true) (some 21) ?_
    refine ldn 9 ?_
    generalize hact : Act.put _ (some 21) _ = act
    simp only [Act.put, sA, sC, sZ] at hact
    subst hact
    go_wp2
    go_ret
    exact ⟨by rw [HW2.out, ← HP.out, HPT.out]; simp, Below.refl _ _⟩
   by_cases hx46 : x = 46
   ·have NX : Hid (partsB true (s.drop (i + 1)) = partsB true s) := by rw [Hid, ← HP.out, HPF.out, if_pos hx46]
    go_upto_region 7 with (fail)
    refine lbeg (opsOf Try.f46 7) ?_
    refine lnow 0 (.bool false) (some 22) ?_
    refine lnow 1 (.bool false) (some 23) ?_
    refine lpas 2 (some 24) ?_
    refine lpas 3 (some 25) ?_
    refine lpas 4 (some 26) ?_
    refine lpas 5 (some 27) ?_
    refine lpas 6 (some 28) ?_
    refine lnow 7 (.bool false) (some 29) ?_
    refine lnow 8 (.bool false) (some 21) ?_
    refine ldn 9 ?_
    generalize hact : Act.put _ (some 21) _ = act
    simp only [Act.put, sA, sC, sZ] at hact
    subst hact
    go_upto_region 9 with (fail)
    refine lbeg (opsOf Try.f46 9) ?_
    refine lnow 0 (strT s) (some 31) ?_
    refine lnow 1 (.int .i64 (i : Int)) (some 32) ?_
    refine lnowP 2 (.int .u8 (c.toNat : Int)) (some 33) (exec_stridx (.tmp 31) (.tmp 32) (by kernel_rfl) s (by kernel_rfl) i (by kernel_rfl) c HC.out) ?_
    rw [hx.out]
    refine lnowP 3 (.bool true) (some 34) (exec_eqli_yes hx46 (by kernel_rfl)) ?_
    refine lnow 4 (.bool true) (some 30) ?_
    refine ldn 5 ?_
    generalize hact : Act.put _ (some 30) _ = act
    simp only [Act.put, sA, sC, sZ] at hact
    subst hact
    go_wp2
    go_roundw
    case rel => exact ⟨i + 1, true, by omega, rfl, by go_num, NX, by trivial⟩
    case measure => simp [intOf]; omega
   go_upto_region 7 with (fail)
   refine lbeg (opsOf Try.f46 7) ?_
   refine lnow 0 (.bool false) (some 22) ?_
   refine lnow 1 (.bool false) (some 23) ?_
   refine lpas 2 (some 24) ?_
   refine lpas 3 (some 25) ?_
   refine lpas 4 (some 26) ?_
   refine lpas 5 (some 27) ?_
   refine lpas 6 (some 28) ?_
   refine lnow 7 (.bool false) (some 29) ?_
   refine lnow 8 (.bool false) (some 21) ?_
   refine ldn 9 ?_
   generalize hact : Act.put _ (some 21) _ = act
   simp only [Act.put, sA, sC, sZ] at hact
   subst hact
   go_upto_region 9 with (fail)
   refine lbeg (opsOf Try.f46 9) ?_
   refine lnow 0 (strT s) (some 31) ?_
   refine lnow 1 (.int .i64 (i : Int)) (some 32) ?_
   refine lnowP 2 (.int .u8 (c.toNat : Int)) (some 33) (exec_stridx (.tmp 31) (.tmp 32) (by kernel_rfl) s (by kernel_rfl) i (by kernel_rfl) c HC.out) ?_
   rw [hx.out]
   refine lnowP 3 (.bool false) (some 34) (exec_eqli hx46 (by kernel_rfl)) ?_
   refine lnow 4 (.bool false) (some 30) ?_
   refine ldn 5 ?_
   generalize hact : Act.put _ (some 30) _ = act
   simp only [Act.put, sA, sC, sZ] at hact
   subst hact
   cases lb
   rotate_left
   ·have NX : Hid (partsB false (s.drop (i + 1)) = partsB true s) := by rw [Hid, ← HP.out, HPF.out, if_neg hx46]; simp
    go_upto_region 11 with (fail)
    refine lbeg (opsOf Try.f46 11) ?_
    refine lnow 0 (strT s) (some 36) ?_
    refine lnow 1 (.int .i64 (i : Int)) (some 37) ?_
    refine lnowP 2 (.int .u8 (c.toNat : Int)) (some 38) (exec_stridx (.tmp 36) (.tmp 37) (by kernel_rfl) s (by kernel_rfl) i (by kernel_rfl) c HC.out) ?_
    rw [hx.out]
    refine lcal 3 71 #[.int .u8 x] (some 39) _ (LW) ?_
    rintro e w8 ⟨rfl, hw8⟩
    obtain rfl := hw8.symm
    refine ⟨_, rfl, ?_⟩
    refine lnow 4 (.bool false) (some 40) ?_
    refine lnow 5 (.bool false) (some 41) ?_
    refine lpas 6 (some 42) ?_
    refine lpas 7 (some 43) ?_
    refine lpas 8 (some 44) ?_
    refine lpas 9 (some 45) ?_
    refine lpas 10 (some 46) ?_
    refine lnow 11 (.bool false) (some 47) ?_
    refine lnow 12 (.bool false) (some 48) ?_
    refine lpas 13 (some 49) ?_
    refine lpas 14 (some 50) ?_
    refine lpas 15 (some 51) ?_
    refine lpas 16 (some 52) ?_
    refine lnow 17 (.bool false) (some 53) ?_
    refine lnow 18 (.bool false) (some 35) ?_
    refine ldn 19 ?_
    generalize hact : Act.put _ (some 35) _ = act
    simp only [Act.put, sA, sC, sZ] at hact
    subst hact
    go_wp2
    go_roundw
    case rel => exact ⟨i + 1, false, by omega, rfl, by go_num, NX, by trivial⟩
    case measure => simp [intOf]; omega
   cases db
   rotate_left
   ·have NX : Hid (partsB false (s.drop (i + 1)) = partsB true s) := by rw [Hid, ← HP.out, HPF.out, if_neg hx46]; simp
    go_upto_region 11 with (fail)
    refine lbeg (opsOf Try.f46 11) ?_
    refine lnow 0 (strT s) (some 36) ?_
    refine lnow 1 (.int .i64 (i : Int)) (some 37) ?_
    refine lnowP 2 (.int .u8 (c.toNat : Int)) (some 38) (exec_stridx (.tmp 36) (.tmp 37) (by kernel_rfl) s (by kernel_rfl) i (by kernel_rfl) c HC.out) ?_
    rw [hx.out]
    refine lcal 3 71 #[.int .u8 x] (some 39) _ (LW) ?_
    rintro e w8 ⟨rfl, hw8⟩
    obtain rfl := hw8.symm
    refine ⟨_, rfl, ?_⟩
    refine lnow 4 (.bool true) (some 40) ?_
    refine lnow 5 (.bool true) (some 41) ?_
    refine lnow 6 (strT s) (some 42) ?_
    refine lnow 7 (.int .i64 (i : Int)) (some 43) ?_
    refine lnowP 8 (.int .u8 (c.toNat : Int)) (some 44) (exec_stridx (.tmp 42) (.tmp 43) (by kernel_rfl) s (by kernel_rfl) i (by kernel_rfl) c HC.out) ?_
    rw [hx.out]
    refine lcal 9 72 #[.int .u8 x] (some 45) _ (DW) ?_
    rintro e w9 ⟨rfl, hw9⟩
    obtain rfl := hw9.symm
    refine ⟨_, rfl, ?_⟩
    refine lnow 10 (.bool false) (some 46) ?_
    refine lnow 11 (.bool false) (some 47) ?_
    refine lnow 12 (.bool false) (some 48) ?_
    refine lpas 13 (some 49) ?_
    refine lpas 14 (some 50) ?_
    refine lpas 15 (some 51) ?_
    refine lpas 16 (some 52) ?_
    refine lnow 17 (.bool false) (some 53) ?_
    refine lnow 18 (.bool false) (some 35) ?_
    refine ldn 19 ?_
    generalize hact : Act.put _ (some 35) _ = act
    simp only [Act.put, sA, sC, sZ] at hact
    subst hact
    go_wp2
    go_roundw
    case rel => exact ⟨i + 1, false, by omega, rfl, by go_num, NX, by trivial⟩
    case measure => simp [intOf]; omega
   by_cases hx95 : x = 95
   ·have NX : Hid (partsB false (s.drop (i + 1)) = partsB true s) := by rw [Hid, ← HP.out, HPF.out, if_neg hx46]; simp [hx95]
    have r95 : (!decide (x = 95)) = false := by simp [hx95]
    go_upto_region 11 with (fail)
    refine lbeg (opsOf Try.f46 11) ?_
    refine lnow 0 (strT s) (some 36) ?_
    refine lnow 1 (.int .i64 (i : Int)) (some 37) ?_
    refine lnowP 2 (.int .u8 (c.toNat : Int)) (some 38) (exec_stridx (.tmp 36) (.tmp 37) (by kernel_rfl) s (by kernel_rfl) i (by kernel_rfl) c HC.out) ?_
    rw [hx.out]
    refine lcal 3 71 #[.int .u8 x] (some 39) _ (LW) ?_
    rintro e w8 ⟨rfl, hw8⟩
    obtain rfl := hw8.symm
    refine ⟨_, rfl, ?_⟩
    refine lnow 4 (.bool true) (some 40) ?_
    refine lnow 5 (.bool true) (some 41) ?_
    refine lnow 6 (strT s) (some 42) ?_
    refine lnow 7 (.int .i64 (i : Int)) (some 43) ?_
    refine lnowP 8 (.int .u8 (c.toNat : Int)) (some 44) (exec_stridx (.tmp 42) (.tmp 43) (by kernel_rfl) s (by kernel_rfl) i (by kernel_rfl) c HC.out) ?_
    rw [hx.out]
    refine lcal 9 72 #[.int .u8 x] (some 45) _ (DW) ?_
    rintro e w9 ⟨rfl, hw9⟩
    obtain rfl := hw9.symm
    refine ⟨_, rfl, ?_⟩
    refine lnow 10 (.bool true) (some 46) ?_
    refine lnow 11 (.bool true) (some 47) ?_
    refine lnow 12 (.bool true) (some 48) ?_
    refine lnow 13 (strT s) (some 49) ?_
    refine lnow 14 (.int .i64 (i : Int)) (some 50) ?_
    refine lnowP 15 (.int .u8 (c.toNat : Int)) (some 51) (exec_stridx (.tmp 49) (.tmp 50) (by kernel_rfl) s (by kernel_rfl) i (by kernel_rfl) c HC.out) ?_
    rw [hx.out]
    refine lnow 16 (.bool (!decide (x = 95))) (some 52) ?_
    rw [r95]
    refine lnow 17 (.bool false) (some 53) ?_
    refine lnow 18 (.bool false) (some 35) ?_
    refine ldn 19 ?_
    generalize hact : Act.put _ (some 35) _ = act
    simp only [Act.put, sA, sC, sZ] at hact
    subst hact
    go_wp2
    go_roundw
    case rel => exact ⟨i + 1, false, by omega, rfl, by go_num, NX, by trivial⟩
    case measure => simp [intOf]; omega
   have r95 : (!decide (x = 95)) = true := by simp [hx95]
   have NX : partsB false (c :: s.drop (i + 1)) = false := by rw [HPF.out, if_neg hx46]; simp [hx95]
   go_upto_region 11 with (fail)
   refine lbeg (opsOf Try.f46 11) ?_
   refine lnow 0 (strT s) (some 36) ?_
   refine lnow 1 (.int .i64 (i : Int)) (some 37) ?_
   refine lnowP 2 (.int .u8 (c.toNat : Int)) (some 38) (exec_stridx (.tmp 36) (.tmp 37) (by kernel_rfl) s (by kernel_rfl) i (by kernel_rfl) c HC.out) ?_
   rw [hx.out]
   refine lcal 3 71 #[.int .u8 x] (some 39) _ (LW) ?_
   rintro e w8 ⟨rfl, hw8⟩
   obtain rfl := hw8.symm
   refine ⟨_, rfl, ?_⟩
   refine lnow 4 (.bool true) (some 40) ?_
   refine lnow 5 (.bool true) (some 41) ?_
   refine lnow 6 (strT s) (some 42) ?_
   refine lnow 7 (.int .i64 (i : Int)) (some 43) ?_
   refine lnowP 8 (.int .u8 (c.toNat : Int)) (some 44) (exec_stridx (.tmp 42) (.tmp 43) (by kernel_rfl) s (by kernel_rfl) i (by kernel_rfl) c HC.out) ?_
   rw [hx.out]
   refine lcal 9 72 #[.int .u8 x] (some 45) _ (DW) ?_
   rintro e w9 ⟨rfl, hw9⟩
   obtain rfl := hw9.symm
   refine ⟨_, rfl, ?_⟩
   refine lnow 10 (.bool true) (some 46) ?_
   refine lnow 11 (.bool true) (some 47) ?_
   refine lnow 12 (.bool true) (some 48) ?_
   refine lnow 13 (strT s) (some 49) ?_
   refine lnow 14 (.int .i64 (i : Int)) (some 50) ?_
   refine lnowP 15 (.int .u8 (c.toNat : Int)) (some 51) (exec_stridx (.tmp 49) (.tmp 50) (by kernel_rfl) s (by kernel_rfl) i (by kernel_rfl) c HC.out) ?_
   rw [hx.out]
   refine lnow 16 (.bool (!decide (x = 95))) (some 52) ?_
   rw [r95]
   refine lnow 17 (.bool true) (some 53) ?_
   refine lnow 18 (.bool true) (some 35) ?_
   refine ldn 19 ?_
   generalize hact : Act.put _ (some 35) _ = act
   simp only [Act.put, sA, sC, sZ] at hact
   subst hact
   go_wp2
   go_ret
   exact ⟨by rw [HW2.out, ← HP.out, NX]; simp, Below.refl _ _⟩
  have r1 : ¬ (i : Int) < (n : Int) := by omega
  have hD : s.drop i = [] := List.drop_eq_nil_of_le (by have := hn.out; omega)
  have hP2 := hP.out
  rw [hD] at hP2
  have HP : Hid (partsB true s = !b) := hP2.symm
  clear hP hP2 hD
  go_upto_region 5 with (fail)
  refine lbeg (opsOf Try.f46 5) ?_
  refine lnow 0 (.int .i64 (i : Int)) (some 15) ?_
  refine lnow 1 (strT s) (some 16) ?_
  refine lnow 2 (.int .i64 (s.length : Int)) (some 17) ?_
  rw [hn.out]
  refine lnow 3 (.bool (decide ((i : Int) < (n : Int)))) (some 18) ?_
  rw [decide_eq_false r1]
  refine ldn 4 ?_
  generalize hact : Act.put _ (some 18) _ = act
  simp only [Act.put, sA, sC, sZ] at hact
  subst hact
  obtain ⟨g, hg⟩ : ∃ z, Hid (w.heap.size = z) := ⟨_, rfl⟩
  go_upto_region 14 with (fail)
  refine lbeg (opsOf Try.f46 14) ?_
  refine lin_row 0 9 (words16.map strT) g 16 (some 54) (by kernel_rfl) (by kernel_rfl) hg (exec_of _ _ (by kernel_rfl) (run_build_words _)) ?_
  intro w2 bw2 bew2 hsw2
  refine lnow 1 (.slice (some ⟨g, 0, none⟩) 16 16) (some 5) ?_
  refine ldn 2 ?_
  generalize hact : Act.put _ (some 5) _ = act
  simp only [Act.put, sA, sC, sZ] at hact
  subst hact
  have BW := Lib.hid bw2
  have BE : Hid (Below w.heap.size w w2) := by rw [Hid, hg.out]; exact bew2
  clear bw2 bew2 hsw2
  go_upto_region 15 with (fail)
  refine lbeg (opsOf Try.f46 15) ?_
  refine lnow 0 (.int .i64 0) (some 6) ?_
  refine ldn 1 ?_
  generalize hact : Act.put _ (some 6) _ = act
  simp only [Act.put, sA, sC, sZ] at hact
  subst hact
  go_wp2
  go_loopw [6] (fun jv wr => ∃ j : Nat, j ≤ 16 ∧ jv = .int .i64 (j : Int) ∧ Hid (∀ (m : Nat) (x : List UInt8), m < j → words16[m]? = some x → x ≠ s) ∧ w2 = wr) (fun jv _ => 16 - (intOf jv).toNat)
  case atStart => exact ⟨0, Nat.zero_le _, rfl, fun m x hm => absurd hm (Nat.not_lt_zero _), rfl⟩
  case round =>
   obtain ⟨j, hj, rfl, NE, rfl⟩ := hrel
   by_cases hjt : j < 16
   ·have r3 : (j : Int) < 16 := by omega
    obtain ⟨x, hx⟩ : ∃ x, words16[j]? = some x := ⟨_, List.getElem?_eq_getElem (by have : words16.length = 16 := rfl; omega)⟩
    have hcell : w2.cell? ⟨g, 0 + j, none⟩ = some (strT x) := BW.out.whole j _ (by rw [List.getElem?_map, hx]; rfl)
    have HXI := Lib.hid hx
    clear hx
    by_cases hxs : x = s
    ·have rx : decide (x = s) = true := decide_eq_true hxs
     have RS : Hid (reservedB s = true) := decide_eq_true (hxs ▸ List.mem_of_getElem? HXI.out)
     go_upto_region 18 with (fail)
     refine lbeg (opsOf Try.f46 18) ?_
     refine lnow 0 (.slice (some ⟨g, 0, none⟩) 16 16) (some 61) ?_
     refine lnow 1 (.int .i64 (j : Int)) (some 62) ?_
     refine lix 2 (.pointer (some ⟨g, 0 + j, none⟩)) (some 63) 99 61 62 (run_at_str g 0 16 16 j hjt _) ?_
     refine lcl 3 (strT x) (some 64) 9 63 g (0 + j) hcell Try.underlying9 ?_
     refine lnow 4 (strT s) (some 65) ?_
     refine lnowP 5 (.bool (decide (x = s))) (some 66) (exec_streqT 9 9 (.tmp 64) (.tmp 65) (by kernel_rfl) x s (by kernel_rfl) (by kernel_rfl) (fun _ => rfl)) ?_
     rw [rx]
     refine ldn 6 ?_
     generalize hact : Act.put _ (some 66) _ = act
     simp only [Act.put, sA, sC, sZ] at hact
     subst hact
     go_wp2
     go_ret
     exact ⟨by rw [HW2.out, RS.out]; rfl, BE.out⟩
    have rx : decide (x = s) = false := decide_eq_false hxs
    have NE2 : Hid (∀ (m : Nat) (y : List UInt8), m < j + 1 → words16[m]? = some y → y ≠ s) := fun m y hm hy => by
     by_cases e : m = j
     ·subst e; rw [HXI.out] at hy; cases hy; exact hxs
     ·exact NE.out m y (by omega) hy
    go_upto_region 18 with (fail)
    refine lbeg (opsOf Try.f46 18) ?_
    refine lnow 0 (.slice (some ⟨g, 0, none⟩) 16 16) (some 61) ?_
    refine lnow 1 (.int .i64 (j : Int)) (some 62) ?_
    refine lix 2 (.pointer (some ⟨g, 0 + j, none⟩)) (some 63) 99 61 62 (run_at_str g 0 16 16 j hjt _) ?_
    refine lcl 3 (strT x) (some 64) 9 63 g (0 + j) hcell Try.underlying9 ?_
    refine lnow 4 (strT s) (some 65) ?_
    refine lnowP 5 (.bool (decide (x = s))) (some 66) (exec_streqT 9 9 (.tmp 64) (.tmp 65) (by kernel_rfl) x s (by kernel_rfl) (by kernel_rfl) (fun _ => rfl)) ?_
    rw [rx]
    refine ldn 6 ?_
    generalize hact : Act.put _ (some 66) _ = act
    simp only [Act.put, sA, sC, sZ] at hact
    subst hact
    clear hxs HXI hcell NE rx
    go_wp2
    go_roundw
    case rel => exact ⟨j + 1, by omega, by go_num, NE2, by trivial⟩
    case measure => simp [intOf]; omega
   have r3 : ¬ (j : Int) < 16 := by omega
   have RS : Hid (reservedB s = false) := decide_eq_false (fun hm => by
    obtain ⟨m, hm2, e⟩ := List.getElem_of_mem hm
    exact NE.out m s (by have : words16.length = 16 := rfl; omega) (by rw [List.getElem?_eq_getElem hm2, e]) rfl)
   clear NE
   cases b
   ·skip
    go_upto_region 20 with (fail)
    refine lbeg (opsOf Try.f46 20) ?_
    refine lnow 0 (.bool false) (some 67) ?_
    refine lnow 1 (.bool true) (some 68) ?_
    refine lnow 2 (.bool true) (some 2) ?_
    refine ldn 3 ?_
    generalize hact : Act.put _ (some 2) _ = act
    simp only [Act.put, sA, sC, sZ] at hact
    subst hact
    go_wp2
    go_ret
    exact ⟨by rw [HW2.out, RS.out, HP.out]; rfl, BE.out⟩
   ·skip
    go_upto_region 20 with (fail)
    refine lbeg (opsOf Try.f46 20) ?_
    refine lnow 0 (.bool true) (some 67) ?_
    refine lnow 1 (.bool false) (some 68) ?_
    refine lnow 2 (.bool false) (some 2) ?_
    refine ldn 3 ?_
    generalize hact : Act.put _ (some 2) _ = act
    simp only [Act.put, sA, sC, sZ] at hact
    subst hact
    go_wp2
    go_ret
    exact ⟨by rw [HW2.out, RS.out, HP.out]; rfl, BE.out⟩
end Go.Proofs.Yteohjbggicchgaa
