/- Place and Number, and the document's own. -/
import Derived.Test.YtjclhlnkojbidaaLexE
namespace Go.Proofs.Ytjclhlnkojbidaa
open Go Go.RowKit
set_option maxRecDepth 100000

def colF (l : List UInt8) : Nat := l.foldl (fun n c => if c = 10 then 1 else n + 1) 1
theorem colF_snoc (l : List UInt8) (c : UInt8) : colF (l ++ [c]) = if c = 10 then 1 else colF l + 1 := by unfold colF; rw [List.foldl_append]; rfl
theorem last_col (l : List UInt8) : ∀ k, k ≤ l.length → (k : Int) - Lib.lastIdx ⟨l.toArray⟩ 10 k = (colF (l.take k) : Int)
  | 0, _ => rfl
  | k + 1, h => by
    have ih := last_col l k (by omega)
    obtain ⟨c, hc⟩ : ∃ c, l[k]? = some c := ⟨_, List.getElem?_eq_getElem (by omega)⟩
    have e : (⟨l.toArray⟩ : ByteArray).data[k]! = c := by
      have := (List.getElem?_eq_some_iff.1 hc).2
      have hk : k < l.toArray.size := by rw [List.size_toArray]; omega
      show l.toArray[k]! = c
      rw [getElem!_pos l.toArray k hk, List.getElem_toArray]
      exact this
    rw [Lib.lastIdx, e, take_snoc hc, colF_snoc]
    by_cases h10 : (c.toNat : Int) = 10
    · rw [if_pos h10, if_pos (show c = 10 from (u8_eq (n := 10) (by decide)).1 h10)]; omega
    · rw [if_neg h10, if_neg (fun e => h10 (by subst e; rfl))]; omega
theorem colF_le (l : List UInt8) : ∀ k, k ≤ l.length → 1 ≤ colF (l.take k) ∧ colF (l.take k) ≤ k + 1
  | 0, _ => ⟨Nat.le_refl _, Nat.le_refl _⟩
  | k + 1, h => by
    have ih := colF_le l k (by omega)
    obtain ⟨c, hc⟩ : ∃ c, l[k]? = some c := ⟨_, List.getElem?_eq_getElem (by omega)⟩
    rw [take_snoc hc, colF_snoc]
    split <;> omega
def lineF (l : List UInt8) : Nat := l.count 10 + 1
theorem lineF_snoc (l : List UInt8) (c : UInt8) : lineF (l ++ [c]) = if c = 10 then lineF l + 1 else lineF l := by
  unfold lineF
  rw [List.count_append, List.count_singleton]
  by_cases h : c = 10
  · subst h; simp
  · simp [h]
theorem lineF_le (l : List UInt8) : lineF l ≤ l.length + 1 := by
  unfold lineF
  have := List.count_le_length (a := (10 : UInt8)) (l := l)
  omega
/-- A place's line and column. -/
def placeR (l : List UInt8) (a : Int) : Nat × Nat := if a < 0 ∨ (l.length : Int) < a then (0, 0) else (lineF (l.take a.toNat), colF (l.take a.toNat))
theorem placeR_out {l : List UInt8} {a : Int} (h : a < 0 ∨ (l.length : Int) < a) : placeR l a = (0, 0) := if_pos h
theorem placeR_in {l : List UInt8} {k : Nat} (h : k ≤ l.length) : placeR l (k : Int) = (lineF (l.take k), colF (l.take k)) := by
  unfold placeR
  rw [if_neg (by omega), Int.toNat_natCast]
theorem scount_walk (l : List UInt8) (w : World) : Calls Try.prog 19 #[sT l, sT [10]] w fun e w' => e = .returned (.int .i64 ((l.count 10 : Nat) : Int)) ∧ w' = w := Try.strings_Count_one ⟨l.toArray⟩ 10 w
theorem slastidx_walk (l : List UInt8) (hl : l.length ≤ 1000000) (w : World) : Calls Try.prog 20 #[sT l, .int .u8 10] w fun e w' => e = .returned (.int .i64 (Lib.lastIdx ⟨l.toArray⟩ 10 l.length)) ∧ w' = w := Try.strings_LastIndexByte ⟨l.toArray⟩ 10 (by show l.length < _; omega) w

set_option maxHeartbeats 4000000 in
theorem xplace_walk (l : List UInt8) (hl : l.length ≤ 1000000) (a : Int) (w : World) : Calls Try.prog 10 #[sT l, .int .i64 a] w fun e w' => e = .returned (.tuple #[.int .i64 ((placeR l a).1 : Int), .int .i64 ((placeR l a).2 : Int)]) ∧ w' = w := by
  obtain ⟨N, hN⟩ : ∃ N, Hid (l.length = N) := ⟨_, rfl⟩
  have NB : Hid (N ≤ 1000000) := by rw [← hN.out]; exact hl
  obtain ⟨⟨rl, rc⟩, hR⟩ : ∃ R, Hid (placeR l a = R) := ⟨_, rfl⟩
  rw [hR.out]
  dsimp only
  clear hl
  go_enter Try.func10, Try.ntmps10
  go_upto_region 0 with (fail)
  refine lin_begin (opsOf Try.f10 0) (by kernel_rfl) ?_
  refine lnow 0 (.int .i64 0) (some 4) ?_
  refine lnow 1 (.int .i64 0) (some 5) ?_
  refine lin_done 2 (by kernel_rfl) ?_
  generalize hact : Act.put _ (some 5) _ = act
  simp only [Act.put, List.setIfInBounds_toArray, List.set_cons_succ, List.set_cons_zero] at hact
  subst hact
  by_cases h0 : a < 0
  · skip
    have E := hR.out.symm.trans (placeR_out (.inl h0))
    simp only [Prod.mk.injEq] at E
    obtain ⟨E1, E2⟩ := E
    have E3 := E1.symm
    have E4 := E2.symm
    clear E1 E2 hR
    subst E3
    subst E4
    go_upto_region 1 with (fail)
    refine lin_begin (opsOf Try.f10 1) (by kernel_rfl) ?_
    refine lnow 0 (.int .i64 a) (some 7) ?_
    refine lnow 1 (.bool (decide (a < 0))) (some 8) ?_
    rw [decide_eq_true (h0)]
    refine lnow 2 (.bool true) (some 9) ?_
    refine lpas 3 (some 10) ?_
    refine lpas 4 (some 11) ?_
    refine lpas 5 (some 12) ?_
    refine lpas 6 (some 13) ?_
    refine lnow 7 (.bool true) (some 14) ?_
    refine lin_done 8 (by kernel_rfl) ?_
    generalize hact : Act.put _ (some 14) _ = act
    simp only [Act.put, List.setIfInBounds_toArray, List.set_cons_succ, List.set_cons_zero] at hact
    subst hact
    go_upto_region 2 with (fail)
    refine lin_begin (opsOf Try.f10 2) (by kernel_rfl) ?_
    refine lnow 0 (.int .i64 0) (some 4) ?_
    refine lnow 1 (.int .i64 0) (some 5) ?_
    refine lin_done 2 (by kernel_rfl) ?_
    generalize hact : Act.put _ (some 5) _ = act
    simp only [Act.put, List.setIfInBounds_toArray, List.set_cons_succ, List.set_cons_zero] at hact
    subst hact
    go_wp2
    go_ret2
    exact ⟨rfl, rfl⟩
  by_cases h1 : a > (N : Int)
  · skip
    have E := hR.out.symm.trans (placeR_out (.inr (by rw [hN.out]; exact h1)))
    simp only [Prod.mk.injEq] at E
    obtain ⟨E1, E2⟩ := E
    have E3 := E1.symm
    have E4 := E2.symm
    clear E1 E2 hR
    subst E3
    subst E4
    go_upto_region 1 with (fail)
    refine lin_begin (opsOf Try.f10 1) (by kernel_rfl) ?_
    refine lnow 0 (.int .i64 a) (some 7) ?_
    refine lnow 1 (.bool (decide (a < 0))) (some 8) ?_
    rw [decide_eq_false (h0)]
    refine lnow 2 (.bool false) (some 9) ?_
    refine lnow 3 (.int .i64 a) (some 10) ?_
    refine lnow 4 (sT l) (some 11) ?_
    refine lnow 5 (.int .i64 (l.length : Int)) (some 12) ?_
    rw [hN.out]
    refine lnow 6 (.bool (decide (a > (N : Int)))) (some 13) ?_
    rw [decide_eq_true (h1)]
    refine lnow 7 (.bool true) (some 14) ?_
    refine lin_done 8 (by kernel_rfl) ?_
    generalize hact : Act.put _ (some 14) _ = act
    simp only [Act.put, List.setIfInBounds_toArray, List.set_cons_succ, List.set_cons_zero] at hact
    subst hact
    go_upto_region 2 with (fail)
    refine lin_begin (opsOf Try.f10 2) (by kernel_rfl) ?_
    refine lnow 0 (.int .i64 0) (some 4) ?_
    refine lnow 1 (.int .i64 0) (some 5) ?_
    refine lin_done 2 (by kernel_rfl) ?_
    generalize hact : Act.put _ (some 5) _ = act
    simp only [Act.put, List.setIfInBounds_toArray, List.set_cons_succ, List.set_cons_zero] at hact
    subst hact
    go_wp2
    go_ret2
    exact ⟨rfl, rfl⟩
  go_upto_region 1 with (fail)
  refine lin_begin (opsOf Try.f10 1) (by kernel_rfl) ?_
  refine lnow 0 (.int .i64 a) (some 7) ?_
  refine lnow 1 (.bool (decide (a < 0))) (some 8) ?_
  rw [decide_eq_false (h0)]
  refine lnow 2 (.bool false) (some 9) ?_
  refine lnow 3 (.int .i64 a) (some 10) ?_
  refine lnow 4 (sT l) (some 11) ?_
  refine lnow 5 (.int .i64 (l.length : Int)) (some 12) ?_
  rw [hN.out]
  refine lnow 6 (.bool (decide (a > (N : Int)))) (some 13) ?_
  rw [decide_eq_false (h1)]
  refine lnow 7 (.bool false) (some 14) ?_
  refine lin_done 8 (by kernel_rfl) ?_
  generalize hact : Act.put _ (some 14) _ = act
  simp only [Act.put, List.setIfInBounds_toArray, List.set_cons_succ, List.set_cons_zero] at hact
  subst hact
  obtain ⟨k, rfl⟩ : ∃ k : Nat, a = (k : Int) := ⟨a.toNat, by omega⟩
  have hk : k ≤ N := by omega
  have nb := NB.out
  clear h0 h1
  have E := hR.out.symm.trans (placeR_in (k := k) (by rw [hN.out]; exact hk))
  simp only [Prod.mk.injEq] at E
  obtain ⟨E1, E2⟩ := E
  have E3 := E1.symm
  have E4 := E2.symm
  clear E1 E2 hR
  subst E3
  subst E4
  go_upto_region 3 with (fail)
  refine lin_begin (opsOf Try.f10 3) (by kernel_rfl) ?_
  refine lnow 0 (sT l) (some 15) ?_
  refine lnow 1 (.int .i64 (k : Int)) (some 16) ?_
  refine lnowP 2 (sT (l.take k)) (some 17) (exec_of (Instr.sliceAt 9 (sT l) none (some (.int .i64 (k : Int))) none) _ (by kernel_rfl) (run_sTo l k (by rw [hN.out]; exact hk) _)) ?_
  refine lnow 3 (sT (l.take k)) (some 6) ?_
  refine lin_done 4 (by kernel_rfl) ?_
  generalize hact : Act.put _ (some 6) _ = act
  simp only [Act.put, List.setIfInBounds_toArray, List.set_cons_succ, List.set_cons_zero] at hact
  subst hact
  have LT : Hid ((l.take k).length = k) := List.length_take_of_le (by rw [hN.out]; exact hk)
  have LI : Hid ((k : Int) - Lib.lastIdx ⟨(l.take k).toArray⟩ 10 k = (colF (l.take k) : Int)) := by have h := last_col (l.take k) k (by rw [LT.out]; exact Nat.le_refl _); rw [List.take_take, Nat.min_self] at h; exact h
  have CL := colF_le l k (by rw [hN.out]; exact hk)
  have LN : Hid (((l.take k).count 10 : Nat) + 1 = lineF (l.take k)) := rfl
  have LB := lineF_le (l.take k)
  rw [LT.out] at LB
  go_upto_region 4 with (fail)
  refine lin_begin (opsOf Try.f10 4) (by kernel_rfl) ?_
  refine lnow 0 (sT (l.take k)) (some 18) ?_
  refine lin_call 1 19 #[sT (l.take k), sT [10]] (some 19) _ (by kernel_rfl) (by kernel_rfl) (by kernel_rfl) (scount_walk (l.take k) _) ?_
  rintro e w1 ⟨rfl, hw1⟩
  obtain rfl := hw1.symm
  refine ⟨_, rfl, ?_⟩
  obtain ⟨cn, hcn⟩ : ∃ cn : Nat, Hid ((l.take k).count 10 = cn) := ⟨_, rfl⟩
  rw [hcn.out] at LN ⊢
  have ln := LN.out
  refine lnow 2 (.int .i64 (IntKind.i64.wrap ((cn : Int) + 1))) (some 20) ?_
  rw [show IntKind.i64.wrap ((cn : Int) + 1) = (lineF (l.take k) : Int) from (IntWalk.i64_in _ (by omega)).trans (by omega)]
  refine lnow 3 (.int .i64 (k : Int)) (some 21) ?_
  refine lnow 4 (sT (l.take k)) (some 22) ?_
  refine lin_call 5 20 #[sT (l.take k), .int .u8 10] (some 23) _ (by kernel_rfl) (by kernel_rfl) (by kernel_rfl) (slastidx_walk (l.take k) (by rw [LT.out]; omega) _) ?_
  rintro e w1 ⟨rfl, hw1⟩
  obtain rfl := hw1.symm
  refine ⟨_, rfl, ?_⟩
  rw [LT.out]
  obtain ⟨li, hli⟩ : ∃ li : Int, Hid (Lib.lastIdx ⟨(l.take k).toArray⟩ 10 k = li) := ⟨_, rfl⟩
  rw [hli.out] at LI ⊢
  have lI := LI.out
  refine lnow 6 (.int .i64 (IntKind.i64.wrap ((k : Int) - li))) (some 24) ?_
  rw [show IntKind.i64.wrap ((k : Int) - li) = (colF (l.take k) : Int) from (IntWalk.i64_in _ (by omega)).trans (by omega)]
  refine lnow 7 (.int .i64 (lineF (l.take k) : Int)) (some 4) ?_
  refine lnow 8 (.int .i64 (colF (l.take k) : Int)) (some 5) ?_
  refine lin_done 9 (by kernel_rfl) ?_
  generalize hact : Act.put _ (some 5) _ = act
  simp only [Act.put, List.setIfInBounds_toArray, List.set_cons_succ, List.set_cons_zero] at hact
  subst hact
  go_wp2
  go_ret2
  exact ⟨rfl, rfl⟩

set_option maxHeartbeats 4000000 in
theorem xrplace_walk (l : List UInt8) (hl : l.length ≤ 1000000) (a : Int) (w : World) : Calls Try.prog 11 #[sT l, .int .i64 a] w fun e w' => e = .returned (.tuple #[.int .i64 ((placeR l a).1 : Int), .int .i64 ((placeR l a).2 : Int)]) ∧ w' = w := by
  obtain ⟨N, hN⟩ : ∃ N, Hid (l.length = N) := ⟨_, rfl⟩
  have NB : Hid (N ≤ 1000000) := by rw [← hN.out]; exact hl
  obtain ⟨⟨rl, rc⟩, hR⟩ : ∃ R, Hid (placeR l a = R) := ⟨_, rfl⟩
  rw [hR.out]
  dsimp only
  clear hl
  go_enter Try.func11, Try.ntmps11
  go_upto_region 0 with (fail)
  refine lin_begin (opsOf Try.f11 0) (by kernel_rfl) ?_
  refine lnow 0 (.int .i64 0) (some 4) ?_
  refine lnow 1 (.int .i64 0) (some 5) ?_
  refine lin_done 2 (by kernel_rfl) ?_
  generalize hact : Act.put _ (some 5) _ = act
  simp only [Act.put, List.setIfInBounds_toArray, List.set_cons_succ, List.set_cons_zero] at hact
  subst hact
  by_cases h0 : a < 0
  · skip
    have E := hR.out.symm.trans (placeR_out (.inl h0))
    simp only [Prod.mk.injEq] at E
    obtain ⟨E1, E2⟩ := E
    have E3 := E1.symm
    have E4 := E2.symm
    clear E1 E2 hR
    subst E3
    subst E4
    go_upto_region 1 with (fail)
    refine lin_begin (opsOf Try.f11 1) (by kernel_rfl) ?_
    refine lnow 0 (.int .i64 a) (some 9) ?_
    refine lnow 1 (.bool (decide (a < 0))) (some 10) ?_
    rw [decide_eq_true (h0)]
    refine lnow 2 (.bool true) (some 11) ?_
    refine lpas 3 (some 12) ?_
    refine lpas 4 (some 13) ?_
    refine lpas 5 (some 14) ?_
    refine lpas 6 (some 15) ?_
    refine lnow 7 (.bool true) (some 16) ?_
    refine lin_done 8 (by kernel_rfl) ?_
    generalize hact : Act.put _ (some 16) _ = act
    simp only [Act.put, List.setIfInBounds_toArray, List.set_cons_succ, List.set_cons_zero] at hact
    subst hact
    go_upto_region 2 with (fail)
    refine lin_begin (opsOf Try.f11 2) (by kernel_rfl) ?_
    refine lnow 0 (.int .i64 0) (some 4) ?_
    refine lnow 1 (.int .i64 0) (some 5) ?_
    refine lin_done 2 (by kernel_rfl) ?_
    generalize hact : Act.put _ (some 5) _ = act
    simp only [Act.put, List.setIfInBounds_toArray, List.set_cons_succ, List.set_cons_zero] at hact
    subst hact
    go_wp2
    go_ret2
    exact ⟨rfl, rfl⟩
  by_cases h1 : a > (N : Int)
  · skip
    have E := hR.out.symm.trans (placeR_out (.inr (by rw [hN.out]; exact h1)))
    simp only [Prod.mk.injEq] at E
    obtain ⟨E1, E2⟩ := E
    have E3 := E1.symm
    have E4 := E2.symm
    clear E1 E2 hR
    subst E3
    subst E4
    go_upto_region 1 with (fail)
    refine lin_begin (opsOf Try.f11 1) (by kernel_rfl) ?_
    refine lnow 0 (.int .i64 a) (some 9) ?_
    refine lnow 1 (.bool (decide (a < 0))) (some 10) ?_
    rw [decide_eq_false (h0)]
    refine lnow 2 (.bool false) (some 11) ?_
    refine lnow 3 (.int .i64 a) (some 12) ?_
    refine lnow 4 (sT l) (some 13) ?_
    refine lnow 5 (.int .i64 (l.length : Int)) (some 14) ?_
    rw [hN.out]
    refine lnow 6 (.bool (decide (a > (N : Int)))) (some 15) ?_
    rw [decide_eq_true (h1)]
    refine lnow 7 (.bool true) (some 16) ?_
    refine lin_done 8 (by kernel_rfl) ?_
    generalize hact : Act.put _ (some 16) _ = act
    simp only [Act.put, List.setIfInBounds_toArray, List.set_cons_succ, List.set_cons_zero] at hact
    subst hact
    go_upto_region 2 with (fail)
    refine lin_begin (opsOf Try.f11 2) (by kernel_rfl) ?_
    refine lnow 0 (.int .i64 0) (some 4) ?_
    refine lnow 1 (.int .i64 0) (some 5) ?_
    refine lin_done 2 (by kernel_rfl) ?_
    generalize hact : Act.put _ (some 5) _ = act
    simp only [Act.put, List.setIfInBounds_toArray, List.set_cons_succ, List.set_cons_zero] at hact
    subst hact
    go_wp2
    go_ret2
    exact ⟨rfl, rfl⟩
  go_upto_region 1 with (fail)
  refine lin_begin (opsOf Try.f11 1) (by kernel_rfl) ?_
  refine lnow 0 (.int .i64 a) (some 9) ?_
  refine lnow 1 (.bool (decide (a < 0))) (some 10) ?_
  rw [decide_eq_false (h0)]
  refine lnow 2 (.bool false) (some 11) ?_
  refine lnow 3 (.int .i64 a) (some 12) ?_
  refine lnow 4 (sT l) (some 13) ?_
  refine lnow 5 (.int .i64 (l.length : Int)) (some 14) ?_
  rw [hN.out]
  refine lnow 6 (.bool (decide (a > (N : Int)))) (some 15) ?_
  rw [decide_eq_false (h1)]
  refine lnow 7 (.bool false) (some 16) ?_
  refine lin_done 8 (by kernel_rfl) ?_
  generalize hact : Act.put _ (some 16) _ = act
  simp only [Act.put, List.setIfInBounds_toArray, List.set_cons_succ, List.set_cons_zero] at hact
  subst hact
  obtain ⟨k, rfl⟩ : ∃ k : Nat, a = (k : Int) := ⟨a.toNat, by omega⟩
  have hk : k ≤ N := by omega
  have nb := NB.out
  clear h0 h1
  have E := hR.out.symm.trans (placeR_in (k := k) (by rw [hN.out]; exact hk))
  simp only [Prod.mk.injEq] at E
  obtain ⟨E1, E2⟩ := E
  have E3 := E1.symm
  have E4 := E2.symm
  clear E1 E2 hR
  subst E3
  subst E4
  go_upto_region 3 with (fail)
  refine lin_begin (opsOf Try.f11 3) (by kernel_rfl) ?_
  refine lnow 0 (.int .i64 1) (some 6) ?_
  refine lin_done 1 (by kernel_rfl) ?_
  generalize hact : Act.put _ (some 6) _ = act
  simp only [Act.put, List.setIfInBounds_toArray, List.set_cons_succ, List.set_cons_zero] at hact
  subst hact
  go_upto_region 4 with (fail)
  refine lin_begin (opsOf Try.f11 4) (by kernel_rfl) ?_
  refine lnow 0 (.int .i64 1) (some 7) ?_
  refine lin_done 1 (by kernel_rfl) ?_
  generalize hact : Act.put _ (some 7) _ = act
  simp only [Act.put, List.setIfInBounds_toArray, List.set_cons_succ, List.set_cons_zero] at hact
  subst hact
  go_upto_region 5 with (fail)
  refine lin_begin (opsOf Try.f11 5) (by kernel_rfl) ?_
  refine lnow 0 (.int .i64 0) (some 8) ?_
  refine lin_done 1 (by kernel_rfl) ?_
  generalize hact : Act.put _ (some 8) _ = act
  simp only [Act.put, List.setIfInBounds_toArray, List.set_cons_succ, List.set_cons_zero] at hact
  subst hact
  go_wp2
  go_loop [6, 7, 8] (fun lv cv iv => ∃ i : Nat, i ≤ k ∧ iv = .int .i64 (i : Int) ∧ lv = .int .i64 (lineF (l.take i) : Int) ∧ cv = .int .i64 (colF (l.take i) : Int)) (fun _ _ iv => k - (intOf iv).toNat)
  case atStart => exact ⟨0, Nat.zero_le _, rfl, rfl, rfl⟩
  case round =>
    obtain ⟨i, hi, rfl, rfl, rfl⟩ := hrel
    by_cases hlt : (i : Int) < (k : Int)
    rotate_left
    · skip
      obtain rfl : i = k := by omega
      go_upto_region 6 with (fail)
      refine lin_begin (opsOf Try.f11 6) (by kernel_rfl) ?_
      refine lnow 0 (.int .i64 (i : Int)) (some 17) ?_
      refine lnow 1 (.int .i64 (i : Int)) (some 18) ?_
      refine lnow 2 (.bool (decide ((i : Int) < (i : Int)))) (some 19) ?_
      rw [decide_eq_false (hlt)]
      refine lin_done 3 (by kernel_rfl) ?_
      generalize hact : Act.put _ (some 19) _ = act
      simp only [Act.put, List.setIfInBounds_toArray, List.set_cons_succ, List.set_cons_zero] at hact
      subst hact
      go_upto_region 12 with (fail)
      refine lin_begin (opsOf Try.f11 12) (by kernel_rfl) ?_
      refine lnow 0 (.int .i64 (lineF (l.take i) : Int)) (some 30) ?_
      refine lnow 1 (.int .i64 (colF (l.take i) : Int)) (some 31) ?_
      refine lnow 2 (.int .i64 (lineF (l.take i) : Int)) (some 4) ?_
      refine lnow 3 (.int .i64 (colF (l.take i) : Int)) (some 5) ?_
      refine lin_done 4 (by kernel_rfl) ?_
      generalize hact : Act.put _ (some 5) _ = act
      simp only [Act.put, List.setIfInBounds_toArray, List.set_cons_succ, List.set_cons_zero] at hact
      subst hact
      go_wp2
      go_ret2
      exact ⟨rfl, rfl⟩
    obtain ⟨c, hc⟩ : ∃ c, Hid (l[i]? = some c) := ⟨_, List.getElem?_eq_getElem (by rw [hN.out]; omega)⟩
    have LS : Hid (lineF (l.take (i + 1)) = if c = 10 then lineF (l.take i) + 1 else lineF (l.take i)) := by rw [Hid, take_snoc hc.out, lineF_snoc]
    have CS : Hid (colF (l.take (i + 1)) = if c = 10 then 1 else colF (l.take i) + 1) := by rw [Hid, take_snoc hc.out, colF_snoc]
    have CL := (colF_le l i (by rw [hN.out]; omega)).2
    have LB := lineF_le (l.take i)
    rw [List.length_take_of_le (by rw [hN.out]; omega)] at LB
    generalize lineF (l.take i) = A at *
    generalize colF (l.take i) = B at *
    go_upto_region 6 with (fail)
    refine lin_begin (opsOf Try.f11 6) (by kernel_rfl) ?_
    refine lnow 0 (.int .i64 (i : Int)) (some 17) ?_
    refine lnow 1 (.int .i64 (k : Int)) (some 18) ?_
    refine lnow 2 (.bool (decide ((i : Int) < (k : Int)))) (some 19) ?_
    rw [decide_eq_true (hlt)]
    refine lin_done 3 (by kernel_rfl) ?_
    generalize hact : Act.put _ (some 19) _ = act
    simp only [Act.put, List.setIfInBounds_toArray, List.set_cons_succ, List.set_cons_zero] at hact
    subst hact
    go_upto_region 8 with (fail)
    refine lin_begin (opsOf Try.f11 8) (by kernel_rfl) ?_
    refine lnow 0 (.int .i64 (B : Int)) (some 22) ?_
    refine lnow 1 (.int .i64 (IntKind.i64.wrap ((B : Int) + 1))) (some 23) ?_
    rw [show IntKind.i64.wrap ((B : Int) + 1) = ((B + 1 : Nat) : Int) from (IntWalk.i64_in _ (by omega)).trans (by omega)]
    refine lnow 2 (.int .i64 ((B + 1 : Nat) : Int)) (some 7) ?_
    refine lin_done 3 (by kernel_rfl) ?_
    generalize hact : Act.put _ (some 7) _ = act
    simp only [Act.put, List.setIfInBounds_toArray, List.set_cons_succ, List.set_cons_zero] at hact
    subst hact
    by_cases h10 : (c.toNat : Int) = 10
    · have e10 : c = 10 := (u8_eq (n := 10) (by decide)).1 h10
      have LS2 : Hid (lineF (l.take (i + 1)) = A + 1) := LS.out.trans (if_pos e10)
      have CS2 : Hid (colF (l.take (i + 1)) = 1) := CS.out.trans (if_pos e10)
      clear e10
      go_upto_region 9 with (fail)
      refine lin_begin (opsOf Try.f11 9) (by kernel_rfl) ?_
      refine lnow 0 (sT l) (some 24) ?_
      refine lnow 1 (.int .i64 (i : Int)) (some 25) ?_
      refine lnowP 2 (.int .u8 (c.toNat : Int)) (some 26) (exec_sIdx (.tmp 24) (.tmp 25) (by kernel_rfl) l (by kernel_rfl) (i) (by kernel_rfl) c hc.out) ?_
      refine lnow 3 (.bool (decide ((c.toNat : Int) = 10))) (some 27) ?_
      rw [decide_eq_true (h10)]
      refine lin_done 4 (by kernel_rfl) ?_
      generalize hact : Act.put _ (some 27) _ = act
      simp only [Act.put, List.setIfInBounds_toArray, List.set_cons_succ, List.set_cons_zero] at hact
      subst hact
      go_upto_region 10 with (fail)
      refine lin_begin (opsOf Try.f11 10) (by kernel_rfl) ?_
      refine lnow 0 (.int .i64 (A : Int)) (some 28) ?_
      refine lnow 1 (.int .i64 (IntKind.i64.wrap ((A : Int) + 1))) (some 29) ?_
      rw [show IntKind.i64.wrap ((A : Int) + 1) = ((A + 1 : Nat) : Int) from (IntWalk.i64_in _ (by omega)).trans (by omega)]
      refine lnow 2 (.int .i64 ((A + 1 : Nat) : Int)) (some 6) ?_
      refine lin_done 3 (by kernel_rfl) ?_
      generalize hact : Act.put _ (some 6) _ = act
      simp only [Act.put, List.setIfInBounds_toArray, List.set_cons_succ, List.set_cons_zero] at hact
      subst hact
      go_upto_region 11 with (fail)
      refine lin_begin (opsOf Try.f11 11) (by kernel_rfl) ?_
      refine lnow 0 (.int .i64 1) (some 7) ?_
      refine lin_done 1 (by kernel_rfl) ?_
      generalize hact : Act.put _ (some 7) _ = act
      simp only [Act.put, List.setIfInBounds_toArray, List.set_cons_succ, List.set_cons_zero] at hact
      subst hact
      clear hc LS CS h10
      go_wp2
      go_round
      case rel => exact ⟨i + 1, by omega, by go_num, by rw [LS2.out], by rw [CS2.out]; rfl⟩
      case measure => simp [intOf]; omega
    · have e10 : ¬ c = 10 := fun e => h10 (by subst e; rfl)
      have LS2 : Hid (lineF (l.take (i + 1)) = A) := LS.out.trans (if_neg e10)
      have CS2 : Hid (colF (l.take (i + 1)) = B + 1) := CS.out.trans (if_neg e10)
      clear e10
      go_upto_region 9 with (fail)
      refine lin_begin (opsOf Try.f11 9) (by kernel_rfl) ?_
      refine lnow 0 (sT l) (some 24) ?_
      refine lnow 1 (.int .i64 (i : Int)) (some 25) ?_
      refine lnowP 2 (.int .u8 (c.toNat : Int)) (some 26) (exec_sIdx (.tmp 24) (.tmp 25) (by kernel_rfl) l (by kernel_rfl) (i) (by kernel_rfl) c hc.out) ?_
      refine lnow 3 (.bool (decide ((c.toNat : Int) = 10))) (some 27) ?_
      rw [decide_eq_false (h10)]
      refine lin_done 4 (by kernel_rfl) ?_
      generalize hact : Act.put _ (some 27) _ = act
      simp only [Act.put, List.setIfInBounds_toArray, List.set_cons_succ, List.set_cons_zero] at hact
      subst hact
      clear hc LS CS h10
      go_wp2
      go_round
      case rel => exact ⟨i + 1, by omega, by go_num, by rw [LS2.out], by rw [CS2.out]⟩
      case measure => simp [intOf]; omega

theorem numO_bad {l : List UInt8} (h : badNum l) : numO l = none := if_pos h
theorem numO_tok {c : UInt8} {r l : List UInt8} (el : l = c :: r) (h : isDig c = true) : numO l = if (tokR l).2 = l.length then some (numV l) else none := by
  have hq := tokR_num (r := r) h
  rw [← el] at hq
  have hn := numO_run (r := r) h
  rw [← el] at hn
  have hpos : 0 < runL isDig l := by rw [el, runL_cons, if_pos h]; omega
  by_cases hb : 6 < runL isDig l ∨ (1 < runL isDig l ∧ c = 48)
  · rw [hq, if_pos hb, if_neg (by rw [el]; simp)]
    refine numO_bad ?_
    have hle := runL_le isDig l
    rcases hb with hb | hb
    · exact .inr (.inl (by omega))
    · exact .inr (.inr (.inl ⟨by omega, by rw [el, hb.2]; rfl⟩))
  · rw [hq, if_neg hb]
    dsimp only
    by_cases hl : runL isDig l = l.length
    · rw [if_pos hl]
      have h2 := hn.2 hb
      rw [hl, List.take_length] at h2
      unfold numO at h2 ⊢
      by_cases hbb : badNum l
      · rw [if_pos hbb] at h2; cases h2
      · rw [if_neg hbb]
    · rw [if_neg hl]
      refine numO_bad (.inr (.inr (.inr ?_)))
      cases ha : l.all isDig with
      | false => rfl
      | true => exact absurd (runL_eq_of_all isDig l ha) hl
theorem numO_not {c : UInt8} {r l : List UInt8} (el : l = c :: r) (h : isDig c = false) : numO l = none := by
  refine numO_bad (.inr (.inr (.inr ?_)))
  rw [el, List.all_cons, h]; rfl
theorem numO_facts {l : List UInt8} {v : Nat} (h : numO l = some v) : l.length ≤ 6 ∧ l.all isDig = true := by
  unfold numO at h
  by_cases hb : badNum l
  · rw [if_pos hb] at h; cases h
  · refine ⟨?_, ?_⟩
    · have : ¬ 6 < l.length := fun hx => hb (.inr (.inl hx))
      omega
    · cases ha : l.all isDig with
      | true => rfl
      | false => exact absurd (.inr (.inr (.inr ha))) hb

set_option maxHeartbeats 4000000 in
theorem xrnumber_walk (l : List UInt8) (hl : l.length ≤ 1000000) (w : World) : Calls Try.prog 13 #[sT l] w fun e w' => e = .returned (.tuple #[.int .i64 (((numO l).getD 0 : Nat) : Int), .bool (numO l).isSome]) ∧ w' = w := by
  obtain ⟨N, hN⟩ : ∃ N, Hid (l.length = N) := ⟨_, rfl⟩
  have NB : Hid (N ≤ 1000000) := by rw [← hN.out]; exact hl
  obtain ⟨R, hR⟩ : ∃ R, Hid (numO l = R) := ⟨_, rfl⟩
  rw [hR.out]
  clear hl
  go_enter Try.func13, Try.ntmps13
  go_upto_region 0 with (fail)
  refine lin_begin (opsOf Try.f13 0) (by kernel_rfl) ?_
  refine lnow 0 (.int .i64 0) (some 2) ?_
  refine lnow 1 (.bool false) (some 3) ?_
  refine lin_done 2 (by kernel_rfl) ?_
  generalize hact : Act.put _ (some 3) _ = act
  simp only [Act.put, List.setIfInBounds_toArray, List.set_cons_succ, List.set_cons_zero] at hact
  subst hact
  by_cases he : l = []
  · have E0 : Hid (R = none) := by rw [Hid, ← hR.out]; exact numO_bad (.inl he)
    go_upto_region 1 with (fail)
    refine lin_begin (opsOf Try.f13 1) (by kernel_rfl) ?_
    refine lnow 0 (sT l) (some 8) ?_
    refine lnowP 1 (.bool (decide (l = []))) (some 9) (exec_sEq 9 9 (.tmp 8) (.const (.string ⟨#[]⟩)) (by kernel_rfl) l [] (by kernel_rfl) (by kernel_rfl) (fun _ => rfl)) ?_
    rw [decide_eq_true he]
    refine lnow 2 (.bool true) (some 10) ?_
    refine lpas 3 (some 11) ?_
    refine lpas 4 (some 12) ?_
    refine lpas 5 (some 13) ?_
    refine lpas 6 (some 14) ?_
    refine lnow 7 (.bool true) (some 15) ?_
    refine lin_done 8 (by kernel_rfl) ?_
    generalize hact : Act.put _ (some 15) _ = act
    simp only [Act.put, List.setIfInBounds_toArray, List.set_cons_succ, List.set_cons_zero] at hact
    subst hact
    clear he hR
    go_upto_region 2 with (fail)
    refine lin_begin (opsOf Try.f13 2) (by kernel_rfl) ?_
    refine lnow 0 (.int .i64 0) (some 2) ?_
    refine lnow 1 (.bool false) (some 3) ?_
    refine lin_done 2 (by kernel_rfl) ?_
    generalize hact : Act.put _ (some 3) _ = act
    simp only [Act.put, List.setIfInBounds_toArray, List.set_cons_succ, List.set_cons_zero] at hact
    subst hact
    go_wp2
    go_ret2
    exact ⟨by rw [E0.out]; rfl, rfl⟩
  obtain ⟨c, r, ec⟩ : ∃ c r, l = c :: r := by cases l with | nil => exact absurd rfl he | cons c r => exact ⟨c, r, rfl⟩
  have EC := Lib.hid ec
  have HC : Hid (l[0]? = some c) := by rw [Hid, ec]; rfl
  clear ec
  obtain ⟨b, hb⟩ : ∃ b, Hid (isDig c = b) := ⟨_, rfl⟩
  cases b with
  | false =>
    have E0 : Hid (R = none) := by rw [Hid, ← hR.out]; exact numO_not EC.out hb.out
    go_upto_region 1 with (fail)
    refine lin_begin (opsOf Try.f13 1) (by kernel_rfl) ?_
    refine lnow 0 (sT l) (some 8) ?_
    refine lnowP 1 (.bool (decide (l = []))) (some 9) (exec_sEq 9 9 (.tmp 8) (.const (.string ⟨#[]⟩)) (by kernel_rfl) l [] (by kernel_rfl) (by kernel_rfl) (fun _ => rfl)) ?_
    rw [decide_eq_false he]
    refine lnow 2 (.bool false) (some 10) ?_
    refine lnow 3 (sT l) (some 11) ?_
    refine lnowP 4 (.int .u8 (c.toNat : Int)) (some 12) (exec_sIdx (.tmp 11) (.const (.int .i64 0)) (by kernel_rfl) l (by kernel_rfl) (0) (by kernel_rfl) c HC.out) ?_
    refine lin_call 5 22 #[.int .u8 (c.toNat : Int)] (some 13) _ (by kernel_rfl) (by kernel_rfl) (by kernel_rfl) (xrdig_walk c _) ?_
    rintro e w1 ⟨rfl, hw1⟩
    obtain rfl := hw1.symm
    refine ⟨_, rfl, ?_⟩
    rw [hb.out]
    refine lnow 6 (.bool true) (some 14) ?_
    refine lnow 7 (.bool true) (some 15) ?_
    refine lin_done 8 (by kernel_rfl) ?_
    generalize hact : Act.put _ (some 15) _ = act
    simp only [Act.put, List.setIfInBounds_toArray, List.set_cons_succ, List.set_cons_zero] at hact
    subst hact
    clear he hR hb EC HC
    go_upto_region 2 with (fail)
    refine lin_begin (opsOf Try.f13 2) (by kernel_rfl) ?_
    refine lnow 0 (.int .i64 0) (some 2) ?_
    refine lnow 1 (.bool false) (some 3) ?_
    refine lin_done 2 (by kernel_rfl) ?_
    generalize hact : Act.put _ (some 3) _ = act
    simp only [Act.put, List.setIfInBounds_toArray, List.set_cons_succ, List.set_cons_zero] at hact
    subst hact
    go_wp2
    go_ret2
    exact ⟨by rw [E0.out]; rfl, rfl⟩
  | true =>
    go_upto_region 1 with (fail)
    refine lin_begin (opsOf Try.f13 1) (by kernel_rfl) ?_
    refine lnow 0 (sT l) (some 8) ?_
    refine lnowP 1 (.bool (decide (l = []))) (some 9) (exec_sEq 9 9 (.tmp 8) (.const (.string ⟨#[]⟩)) (by kernel_rfl) l [] (by kernel_rfl) (by kernel_rfl) (fun _ => rfl)) ?_
    rw [decide_eq_false he]
    refine lnow 2 (.bool false) (some 10) ?_
    refine lnow 3 (sT l) (some 11) ?_
    refine lnowP 4 (.int .u8 (c.toNat : Int)) (some 12) (exec_sIdx (.tmp 11) (.const (.int .i64 0)) (by kernel_rfl) l (by kernel_rfl) (0) (by kernel_rfl) c HC.out) ?_
    refine lin_call 5 22 #[.int .u8 (c.toNat : Int)] (some 13) _ (by kernel_rfl) (by kernel_rfl) (by kernel_rfl) (xrdig_walk c _) ?_
    rintro e w1 ⟨rfl, hw1⟩
    obtain rfl := hw1.symm
    refine ⟨_, rfl, ?_⟩
    rw [hb.out]
    refine lnow 6 (.bool false) (some 14) ?_
    refine lnow 7 (.bool false) (some 15) ?_
    refine lin_done 8 (by kernel_rfl) ?_
    generalize hact : Act.put _ (some 15) _ = act
    simp only [Act.put, List.setIfInBounds_toArray, List.set_cons_succ, List.set_cons_zero] at hact
    subst hact
    have NT := Lib.hid (numO_tok EC.out hb.out)
    clear he
    go_upto_region 3 with (fail)
    refine lin_begin (opsOf Try.f13 3) (by kernel_rfl) ?_
    refine lnow 0 (sT l) (some 17) ?_
    refine lin_call 1 18 #[sT l, .int .i64 ((0 : Nat) : Int)] (some 18) _ (by kernel_rfl) (by kernel_rfl) (by kernel_rfl) (xrtoken_walk l (by rw [hN.out]; exact NB.out) 0 c r (by rw [List.drop_zero]; exact EC.out) _) ?_
    rintro e w1 ⟨rfl, hw1⟩
    obtain rfl := hw1.symm
    rw [List.drop_zero]
    obtain ⟨⟨tk, tn⟩, hT⟩ : ∃ T, Hid (tokR l = T) := ⟨_, rfl⟩
    rw [hT.out] at NT ⊢
    dsimp only
    refine ⟨_, rfl, ?_⟩
    refine lnow 2 (.tuple #[.int .i64 (tk : Int), .int .i64 (tn : Int)]) (some 16) ?_
    refine lnow 3 (.int .i64 (tk : Int)) (some 19) ?_
    refine lnow 4 (.int .i64 (tn : Int)) (some 20) ?_
    refine lnow 5 (.int .i64 (tk : Int)) (some 4) ?_
    refine lnow 6 (.int .i64 (tn : Int)) (some 5) ?_
    refine lin_done 7 (by kernel_rfl) ?_
    generalize hact : Act.put _ (some 5) _ = act
    simp only [Act.put, List.setIfInBounds_toArray, List.set_cons_succ, List.set_cons_zero] at hact
    subst hact
    have NT2 : Hid (R = if tn = N then some (numV l) else none) := by rw [Hid, ← hR.out, NT.out, hN.out]
    clear NT
    by_cases hne : (tn : Int) = (N : Int)
    rotate_left
    · have E0 : Hid (R = none) := by rw [Hid, NT2.out]; exact if_neg (by omega)
      go_upto_region 4 with (fail)
      refine lin_begin (opsOf Try.f13 4) (by kernel_rfl) ?_
      refine lnow 0 (.int .i64 (tn : Int)) (some 21) ?_
      refine lnow 1 (sT l) (some 22) ?_
      refine lnow 2 (.int .i64 (l.length : Int)) (some 23) ?_
      rw [hN.out]
      refine lnow 3 (.bool (!decide ((tn : Int) = (N : Int)))) (some 24) ?_
      rw [decide_eq_false (hne)]
      rw [show (!false) = true from rfl]
      refine lin_done 4 (by kernel_rfl) ?_
      generalize hact : Act.put _ (some 24) _ = act
      simp only [Act.put, List.setIfInBounds_toArray, List.set_cons_succ, List.set_cons_zero] at hact
      subst hact
      clear hR NT2 hT
      go_upto_region 5 with (fail)
      refine lin_begin (opsOf Try.f13 5) (by kernel_rfl) ?_
      refine lnow 0 (.int .i64 0) (some 2) ?_
      refine lnow 1 (.bool false) (some 3) ?_
      refine lin_done 2 (by kernel_rfl) ?_
      generalize hact : Act.put _ (some 3) _ = act
      simp only [Act.put, List.setIfInBounds_toArray, List.set_cons_succ, List.set_cons_zero] at hact
      subst hact
      go_wp2
      go_ret2
      exact ⟨by rw [E0.out]; rfl, rfl⟩
    go_upto_region 4 with (fail)
    refine lin_begin (opsOf Try.f13 4) (by kernel_rfl) ?_
    refine lnow 0 (.int .i64 (tn : Int)) (some 21) ?_
    refine lnow 1 (sT l) (some 22) ?_
    refine lnow 2 (.int .i64 (l.length : Int)) (some 23) ?_
    rw [hN.out]
    refine lnow 3 (.bool (!decide ((tn : Int) = (N : Int)))) (some 24) ?_
    rw [decide_eq_true (hne)]
    rw [show (!true) = false from rfl]
    refine lin_done 4 (by kernel_rfl) ?_
    generalize hact : Act.put _ (some 24) _ = act
    simp only [Act.put, List.setIfInBounds_toArray, List.set_cons_succ, List.set_cons_zero] at hact
    subst hact
    have E0 : Hid (R = some (numV l)) := by rw [Hid, NT2.out]; exact if_pos (by omega)
    have NF : Hid (l.length ≤ 6 ∧ l.all isDig = true) := numO_facts (hR.out.trans E0.out)
    clear hR NT2 hT hb EC HC hne
    have n6 := NF.out.1
    rw [hN.out] at n6
    go_upto_region 6 with (fail)
    refine lin_begin (opsOf Try.f13 6) (by kernel_rfl) ?_
    refine lnow 0 (.int .i64 0) (some 6) ?_
    refine lin_done 1 (by kernel_rfl) ?_
    generalize hact : Act.put _ (some 6) _ = act
    simp only [Act.put, List.setIfInBounds_toArray, List.set_cons_succ, List.set_cons_zero] at hact
    subst hact
    go_upto_region 7 with (fail)
    refine lin_begin (opsOf Try.f13 7) (by kernel_rfl) ?_
    refine lnow 0 (.int .i64 0) (some 7) ?_
    refine lin_done 1 (by kernel_rfl) ?_
    generalize hact : Act.put _ (some 7) _ = act
    simp only [Act.put, List.setIfInBounds_toArray, List.set_cons_succ, List.set_cons_zero] at hact
    subst hact
    go_wp2
    go_loop [6, 7] (fun nv kv => ∃ k : Nat, k ≤ N ∧ kv = .int .i64 (k : Int) ∧ nv = .int .i64 (numV (l.take k) : Int)) (fun _ kv => N - (intOf kv).toNat)
    case atStart => exact ⟨0, Nat.zero_le _, rfl, rfl⟩
    case round =>
      obtain ⟨k, hk, rfl, rfl⟩ := hrel
      by_cases hlt : (k : Int) < (N : Int)
      rotate_left
      · skip
        obtain rfl : k = N := by omega
        have ET : Hid (l.take k = l) := List.take_of_length_le (by have := hN.out; omega)
        rw [ET.out]
        generalize numV l = V at *
        go_upto_region 8 with (fail)
        refine lin_begin (opsOf Try.f13 8) (by kernel_rfl) ?_
        refine lnow 0 (.int .i64 (k : Int)) (some 25) ?_
        refine lnow 1 (sT l) (some 26) ?_
        refine lnow 2 (.int .i64 (l.length : Int)) (some 27) ?_
        rw [hN.out]
        refine lnow 3 (.bool (decide ((k : Int) < (k : Int)))) (some 28) ?_
        rw [decide_eq_false (hlt)]
        refine lin_done 4 (by kernel_rfl) ?_
        generalize hact : Act.put _ (some 28) _ = act
        simp only [Act.put, List.setIfInBounds_toArray, List.set_cons_succ, List.set_cons_zero] at hact
        subst hact
        go_upto_region 11 with (fail)
        refine lin_begin (opsOf Try.f13 11) (by kernel_rfl) ?_
        refine lnow 0 (.int .i64 (V : Int)) (some 39) ?_
        refine lnow 1 (.int .i64 (V : Int)) (some 2) ?_
        refine lnow 2 (.bool true) (some 3) ?_
        refine lin_done 3 (by kernel_rfl) ?_
        generalize hact : Act.put _ (some 3) _ = act
        simp only [Act.put, List.setIfInBounds_toArray, List.set_cons_succ, List.set_cons_zero] at hact
        subst hact
        go_wp2
        go_ret2
        exact ⟨by rw [E0.out]; rfl, rfl⟩
      obtain ⟨c, hc⟩ : ∃ c, Hid (l[k]? = some c) := ⟨_, List.getElem?_eq_getElem (by rw [hN.out]; omega)⟩
      have cb : 48 ≤ c.toNat ∧ c.toNat ≤ 57 := by have h := List.all_eq_true.1 NF.out.2 c (List.mem_of_getElem? hc.out); unfold isDig at h; simpa using h
      obtain ⟨V, hV⟩ : ∃ V, Hid (numV (l.take k) = V) := ⟨_, rfl⟩
      rw [hV.out]
      have EV : Hid (numV (l.take (k + 1)) = V * 10 + (c.toNat - 48)) := by rw [Hid, take_snoc hc.out, numV_snoc, hV.out]
      have VB : V * 10 + (c.toNat - 48) ≤ 999999 := by rw [← EV.out]; exact numV_le (by rw [List.length_take]; omega) (List.all_eq_true.2 (fun x hx => List.all_eq_true.1 NF.out.2 x (List.mem_of_mem_take hx)))
      go_upto_region 8 with (fail)
      refine lin_begin (opsOf Try.f13 8) (by kernel_rfl) ?_
      refine lnow 0 (.int .i64 (k : Int)) (some 25) ?_
      refine lnow 1 (sT l) (some 26) ?_
      refine lnow 2 (.int .i64 (l.length : Int)) (some 27) ?_
      rw [hN.out]
      refine lnow 3 (.bool (decide ((k : Int) < (N : Int)))) (some 28) ?_
      rw [decide_eq_true (hlt)]
      refine lin_done 4 (by kernel_rfl) ?_
      generalize hact : Act.put _ (some 28) _ = act
      simp only [Act.put, List.setIfInBounds_toArray, List.set_cons_succ, List.set_cons_zero] at hact
      subst hact
      go_upto_region 10 with (fail)
      refine lin_begin (opsOf Try.f13 10) (by kernel_rfl) ?_
      refine lnow 0 (.int .i64 (V : Int)) (some 31) ?_
      refine lnow 1 (.int .i64 (IntKind.i64.wrap (10 * (V : Int)))) (some 32) ?_
      rw [show IntKind.i64.wrap (10 * (V : Int)) = ((10 * V : Nat) : Int) from (IntWalk.i64_in _ (by omega)).trans (by omega)]
      refine lnow 2 (sT l) (some 33) ?_
      refine lnow 3 (.int .i64 (k : Int)) (some 34) ?_
      refine lnowP 4 (.int .u8 (c.toNat : Int)) (some 35) (exec_sIdx (.tmp 33) (.tmp 34) (by kernel_rfl) l (by kernel_rfl) (k) (by kernel_rfl) c hc.out) ?_
      refine lnow 5 (.int .u8 (IntKind.u8.wrap ((c.toNat : Int) - 48))) (some 36) ?_
      rw [show IntKind.u8.wrap ((c.toNat : Int) - 48) = ((c.toNat - 48 : Nat) : Int) from (IntWalk.u8_in _ (by omega)).trans (by omega)]
      refine lnow 6 (.int .i64 (IntKind.i64.wrap (((c.toNat - 48 : Nat) : Int)))) (some 37) ?_
      rw [show IntKind.i64.wrap (((c.toNat - 48 : Nat) : Int)) = ((c.toNat - 48 : Nat) : Int) from IntWalk.i64_in _ (by omega)]
      refine lnow 7 (.int .i64 (IntKind.i64.wrap (((10 * V : Nat) : Int) + ((c.toNat - 48 : Nat) : Int)))) (some 38) ?_
      rw [show IntKind.i64.wrap (((10 * V : Nat) : Int) + ((c.toNat - 48 : Nat) : Int)) = ((V * 10 + (c.toNat - 48) : Nat) : Int) from (IntWalk.i64_in _ (by omega)).trans (by omega)]
      refine lnow 8 (.int .i64 ((V * 10 + (c.toNat - 48) : Nat) : Int)) (some 6) ?_
      refine lin_done 9 (by kernel_rfl) ?_
      generalize hact : Act.put _ (some 6) _ = act
      simp only [Act.put, List.setIfInBounds_toArray, List.set_cons_succ, List.set_cons_zero] at hact
      subst hact
      rw [← EV.out]
      clear hc hV
      go_wp2
      go_round
      case rel => exact ⟨k + 1, by omega, by go_num, rfl⟩
      case measure => simp [intOf]; omega
end Go.Proofs.Ytjclhlnkojbidaa
