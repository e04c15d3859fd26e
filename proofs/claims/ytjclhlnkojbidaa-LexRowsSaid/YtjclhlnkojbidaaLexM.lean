/- The law LexRows. -/
import Derived.Test.YtjclhlnkojbidaaLexL
namespace Go.Proofs.Ytjclhlnkojbidaa
open Go Go.RowKit
set_option maxRecDepth 100000

theorem rows_bad {a b : List UInt8} {p : Nat} (h : scanS a 0 = .error p) : rowsR a b = ([], p, 10) := by unfold rowsR; rw [h]
theorem rows_bad2 {a b : List UInt8} {xs : List Tk} {p : Nat} (h : scanS a 0 = .ok xs) (h2 : scanS b 0 = .error p) : rowsR a b = ([], p + (a.length + 1), 10) := by unfold rowsR; rw [h]; dsimp only; rw [h2]
theorem rows_ok {a b : List UInt8} {xs ys : List Tk} (h : scanS a 0 = .ok xs) (h2 : scanS b 0 = .ok ys) : rowsR a b = (xs ++ ys.map (shiftT (a.length + 1)), 0, 0) := by unfold rowsR; rw [h]; dsimp only; rw [h2]
theorem scan_place {s : List UInt8} {a : Nat} {ts : List Tk} (h : scanS s a = .ok ts) {k : Nat} {x : Tk} (hx : ts[k]? = some x) : x.p ≤ a + s.length := (scan_toks _ s a ts (Nat.le_refl _) h).2.2.2 x (List.mem_of_getElem? hx)
theorem bad_place : ∀ (n : Nat) (l : List UInt8) (a p : Nat), l.length ≤ n → scanS l a = .error p → p ≤ a + l.length
  | _, [], _, _, _, h => by cases h
  | 0, _ :: _, _, _, h, _ => by simp at h
  | n + 1, c :: l, a, p, h, hs => by
    have h2 : l.length ≤ n := by simpa using h
    cases ht : tokAt (c :: l) with
    | some y =>
      obtain ⟨k, m⟩ := y
      have hp := tokAt_pos ht
      rw [scanS_tok ht] at hs
      cases hr : scanS ((c :: l).drop m) (a + m) with
      | ok us => rw [hr] at hs; cases hs
      | error e =>
        rw [hr] at hs
        obtain rfl : e = p := by injection hs
        have := bad_place n _ _ e (by rw [List.length_drop, List.length_cons]; omega) hr
        rw [List.length_drop] at this
        have := hp.2.1
        omega
    | none =>
      by_cases hg : gapL (c :: l) = 0
      · rw [scanS_bad ht hg (by simp)] at hs
        obtain rfl : a = p := by injection hs
        omega
      · rw [scanS_gap ht hg] at hs
        have hle := gapL_le (c :: l)
        have := bad_place n _ _ p (by rw [List.length_drop, List.length_cons]; omega) hs
        rw [List.length_drop] at this
        omega

set_option maxHeartbeats 8000000 in
theorem rows_main (a b : List UInt8) (w : World) : Calls Try.prog 6 #[sT a, sT b] w fun e w' => e = .returned (.bool true) ∧ Below w.heap.size w w' := by
  obtain ⟨q, hq⟩ : ∃ q, Hid (w.heap.size = q) := ⟨_, rfl⟩
  rw [hq.out]
  obtain ⟨N, hNl⟩ : ∃ N, Hid (a.length = N) := ⟨_, rfl⟩
  obtain ⟨O, hOl⟩ : ∃ O, Hid (b.length = O) := ⟨_, rfl⟩
  go_enter Try.func6, Try.ntmps6
  go_upto_region 0 with (fail)
  refine lin_begin (opsOf Try.f6 0) (by kernel_rfl) ?_
  refine lnow 0 (.bool false) (some 4) ?_
  refine lin_done 1 (by kernel_rfl) ?_
  generalize hact : Act.put _ (some 4) _ = act
  simp only [Act.put, List.setIfInBounds_toArray, List.set_cons_succ, List.set_cons_zero] at hact
  subst hact
  go_upto_region 1 with (fail)
  refine lin_begin (opsOf Try.f6 1) (by kernel_rfl) ?_
  refine lin_call 0 7 #[] (some 15) _ (by kernel_rfl) (by kernel_rfl) (by kernel_rfl) (alive11_walk _) ?_
  rintro e w1 ⟨rfl, hb1⟩
  refine ⟨_, rfl, ?_⟩
  have BE1 : Hid (Below q w w1) := by rw [Hid, ← hq.out]; exact hb1
  have Q1 : Hid (q ≤ w1.heap.size) := by rw [Hid, ← hq.out]; exact hb1.size
  clear hb1
  refine lnow 1 (.bool false) (some 16) ?_
  refine lin_done 2 (by kernel_rfl) ?_
  generalize hact : Act.put _ (some 16) _ = act
  simp only [Act.put, List.setIfInBounds_toArray, List.set_cons_succ, List.set_cons_zero] at hact
  subst hact
  by_cases h1 : (N : Int) > 2000
  · skip
    go_upto_region 3 with (fail)
    refine lin_begin (opsOf Try.f6 3) (by kernel_rfl) ?_
    refine lnow 0 (sT a) (some 17) ?_
    refine lnow 1 (.int .i64 (a.length : Int)) (some 18) ?_
    rw [hNl.out]
    refine lnow 2 (.bool (decide ((N : Int) > 2000))) (some 19) ?_
    rw [decide_eq_true (h1)]
    refine lnow 3 (.bool true) (some 20) ?_
    refine lpas 4 (some 21) ?_
    refine lpas 5 (some 22) ?_
    refine lpas 6 (some 23) ?_
    refine lnow 7 (.bool true) (some 24) ?_
    refine lin_done 8 (by kernel_rfl) ?_
    generalize hact : Act.put _ (some 24) _ = act
    simp only [Act.put, List.setIfInBounds_toArray, List.set_cons_succ, List.set_cons_zero] at hact
    subst hact
    go_wp2
    go_ret
    exact ⟨rfl, BE1.out⟩
  by_cases h2 : (O : Int) > 2000
  · skip
    go_upto_region 3 with (fail)
    refine lin_begin (opsOf Try.f6 3) (by kernel_rfl) ?_
    refine lnow 0 (sT a) (some 17) ?_
    refine lnow 1 (.int .i64 (a.length : Int)) (some 18) ?_
    rw [hNl.out]
    refine lnow 2 (.bool (decide ((N : Int) > 2000))) (some 19) ?_
    rw [decide_eq_false (h1)]
    refine lnow 3 (.bool false) (some 20) ?_
    refine lnow 4 (sT b) (some 21) ?_
    refine lnow 5 (.int .i64 (b.length : Int)) (some 22) ?_
    rw [hOl.out]
    refine lnow 6 (.bool (decide ((O : Int) > 2000))) (some 23) ?_
    rw [decide_eq_true (h2)]
    refine lnow 7 (.bool true) (some 24) ?_
    refine lin_done 8 (by kernel_rfl) ?_
    generalize hact : Act.put _ (some 24) _ = act
    simp only [Act.put, List.setIfInBounds_toArray, List.set_cons_succ, List.set_cons_zero] at hact
    subst hact
    go_wp2
    go_ret
    exact ⟨rfl, BE1.out⟩
  go_upto_region 3 with (fail)
  refine lin_begin (opsOf Try.f6 3) (by kernel_rfl) ?_
  refine lnow 0 (sT a) (some 17) ?_
  refine lnow 1 (.int .i64 (a.length : Int)) (some 18) ?_
  rw [hNl.out]
  refine lnow 2 (.bool (decide ((N : Int) > 2000))) (some 19) ?_
  rw [decide_eq_false (h1)]
  refine lnow 3 (.bool false) (some 20) ?_
  refine lnow 4 (sT b) (some 21) ?_
  refine lnow 5 (.int .i64 (b.length : Int)) (some 22) ?_
  rw [hOl.out]
  refine lnow 6 (.bool (decide ((O : Int) > 2000))) (some 23) ?_
  rw [decide_eq_false (h2)]
  refine lnow 7 (.bool false) (some 24) ?_
  refine lin_done 8 (by kernel_rfl) ?_
  generalize hact : Act.put _ (some 24) _ = act
  simp only [Act.put, List.setIfInBounds_toArray, List.set_cons_succ, List.set_cons_zero] at hact
  subst hact
  have N2 : Hid (N ≤ 2000 ∧ O ≤ 2000) := ⟨by omega, by omega⟩
  clear h1 h2
  have n2 := N2.out
  have RW := Lib.hid (scanR_rows (a := a) (b := b) (by have := hNl.out; omega) (by have := hOl.out; omega))
  obtain ⟨⟨xs, p1, e1⟩, hR1⟩ : ∃ R, Hid (scanR a = R) := ⟨_, rfl⟩
  obtain ⟨⟨ys, p2, e2⟩, hR2⟩ : ∃ R, Hid (scanR b = R) := ⟨_, rfl⟩
  obtain ⟨⟨zs, p3, e3⟩, hR3⟩ : ∃ R, Hid (scanR (a ++ 10 :: b) = R) := ⟨_, rfl⟩
  obtain ⟨X, hX⟩ : ∃ X, Hid (xs.length = X) := ⟨_, rfl⟩
  obtain ⟨Y, hY⟩ : ∃ Y, Hid (ys.length = Y) := ⟨_, rfl⟩
  obtain ⟨Z, hZ⟩ : ∃ Z, Hid (zs.length = Z) := ⟨_, rfl⟩
  go_upto_region 5 with (fail)
  refine lin_begin (opsOf Try.f6 5) (by kernel_rfl) ?_
  refine lnow 0 (sT a) (some 26) ?_
  have C := xscan_walk (a) w1
  unfold ScanPost at C
  rw [hR1.out] at C
  dsimp only at C
  refine lin_call 1 8 #[sT (a)] (some 27) _ (by kernel_rfl) (by kernel_rfl) (by kernel_rfl) (C) ?_
  rintro e0 w2 ⟨v1, rfl, ho1, hb2⟩
  refine ⟨_, rfl, ?_⟩
  have Sx := Lib.hid ho1.read
  have BEx : Hid (Below q w w2) := BE1.out.trans (hb2.mono Q1.out)
  have Qx : Hid (q ≤ w2.heap.size) := Nat.le_trans Q1.out hb2.size
  obtain ⟨xa, xc, hv, -⟩ := id Sx.out
  subst hv
  rw [hX.out] at Sx ⊢
  clear ho1 hb2 C BE1 Q1
  refine lnow 2 (.tuple #[.slice xa X xc, .int .i64 (p1 : Int), .int .i64 (e1 : Int)]) (some 25) ?_
  refine lnow 3 (.slice xa X xc) (some 28) ?_
  refine lnow 4 (.int .i64 (p1 : Int)) (some 29) ?_
  refine lnow 5 (.int .i64 (e1 : Int)) (some 30) ?_
  refine lnow 6 (.slice xa X xc) (some 5) ?_
  refine lnow 7 (.int .i64 (p1 : Int)) (some 6) ?_
  refine lnow 8 (.int .i64 (e1 : Int)) (some 7) ?_
  refine lin_done 9 (by kernel_rfl) ?_
  generalize hact : Act.put _ (some 7) _ = act
  simp only [Act.put, List.setIfInBounds_toArray, List.set_cons_succ, List.set_cons_zero] at hact
  subst hact
  go_upto_region 6 with (fail)
  refine lin_begin (opsOf Try.f6 6) (by kernel_rfl) ?_
  refine lnow 0 (sT b) (some 32) ?_
  have C := xscan_walk (b) w2
  unfold ScanPost at C
  rw [hR2.out] at C
  dsimp only at C
  refine lin_call 1 8 #[sT (b)] (some 33) _ (by kernel_rfl) (by kernel_rfl) (by kernel_rfl) (C) ?_
  rintro e0 w3 ⟨v1, rfl, ho1, hb2⟩
  refine ⟨_, rfl, ?_⟩
  have Sy := Lib.hid ho1.read
  have BEy : Hid (Below q w w3) := BEx.out.trans (hb2.mono Qx.out)
  have Qy : Hid (q ≤ w3.heap.size) := Nat.le_trans Qx.out hb2.size
  have Sx' := Lib.hid (Sx.out.below hb2)
  clear Sx
  have Sx := Sx'
  clear Sx'
  obtain ⟨ya, yc, hv, -⟩ := id Sy.out
  subst hv
  rw [hY.out] at Sy ⊢
  clear ho1 hb2 C BEx Qx
  refine lnow 2 (.tuple #[.slice ya Y yc, .int .i64 (p2 : Int), .int .i64 (e2 : Int)]) (some 31) ?_
  refine lnow 3 (.slice ya Y yc) (some 34) ?_
  refine lnow 4 (.int .i64 (p2 : Int)) (some 35) ?_
  refine lnow 5 (.int .i64 (e2 : Int)) (some 36) ?_
  refine lnow 6 (.slice ya Y yc) (some 8) ?_
  refine lnow 7 (.int .i64 (p2 : Int)) (some 9) ?_
  refine lnow 8 (.int .i64 (e2 : Int)) (some 10) ?_
  refine lin_done 9 (by kernel_rfl) ?_
  generalize hact : Act.put _ (some 10) _ = act
  simp only [Act.put, List.setIfInBounds_toArray, List.set_cons_succ, List.set_cons_zero] at hact
  subst hact
  go_upto_region 7 with (fail)
  refine lin_begin (opsOf Try.f6 7) (by kernel_rfl) ?_
  refine lnow 0 (sT a) (some 38) ?_
  refine lnowP 1 (sT (a ++ [10])) (some 39) (exec_sCat (.tmp 38) (.const (.string ⟨#[10]⟩)) 9 (by kernel_rfl) a [10] (by kernel_rfl) (by kernel_rfl) (by rw [hNl.out]; omega) (by decide)) ?_
  refine lnow 2 (sT b) (some 40) ?_
  refine lnowP 3 (sT ((a ++ [10]) ++ b)) (some 41) (exec_sCat (.tmp 39) (.tmp 40) 9 (by kernel_rfl) (a ++ [10]) b (by kernel_rfl) (by kernel_rfl) (by rw [List.length_append, hNl.out]; simp; omega) (by rw [hOl.out]; omega)) ?_
  rw [show (a ++ [10]) ++ b = a ++ 10 :: b by simp]
  have C := xscan_walk (a ++ 10 :: b) w3
  unfold ScanPost at C
  rw [hR3.out] at C
  dsimp only at C
  refine lin_call 4 8 #[sT (a ++ 10 :: b)] (some 42) _ (by kernel_rfl) (by kernel_rfl) (by kernel_rfl) (C) ?_
  rintro e0 w4 ⟨v1, rfl, ho1, hb2⟩
  refine ⟨_, rfl, ?_⟩
  have Sz := Lib.hid ho1.read
  have BEz : Hid (Below q w w4) := BEy.out.trans (hb2.mono Qy.out)
  have Qz : Hid (q ≤ w4.heap.size) := Nat.le_trans Qy.out hb2.size
  have Sx' := Lib.hid (Sx.out.below hb2)
  have Sy' := Lib.hid (Sy.out.below hb2)
  clear Sx
  clear Sy
  have Sx := Sx'
  have Sy := Sy'
  clear Sx'
  clear Sy'
  obtain ⟨za, zc, hv, -⟩ := id Sz.out
  subst hv
  rw [hZ.out] at Sz ⊢
  clear ho1 hb2 C BEy Qy
  refine lnow 5 (.tuple #[.slice za Z zc, .int .i64 (p3 : Int), .int .i64 (e3 : Int)]) (some 37) ?_
  refine lnow 6 (.slice za Z zc) (some 43) ?_
  refine lnow 7 (.int .i64 (p3 : Int)) (some 44) ?_
  refine lnow 8 (.int .i64 (e3 : Int)) (some 45) ?_
  refine lnow 9 (.slice za Z zc) (some 11) ?_
  refine lnow 10 (.int .i64 (p3 : Int)) (some 12) ?_
  refine lnow 11 (.int .i64 (e3 : Int)) (some 13) ?_
  refine lin_done 12 (by kernel_rfl) ?_
  generalize hact : Act.put _ (some 13) _ = act
  simp only [Act.put, List.setIfInBounds_toArray, List.set_cons_succ, List.set_cons_zero] at hact
  subst hact
  cases hsa : scanS a 0 with
  | error pa =>
    have E := hR1.out.symm.trans (scanR_bad (by have := hNl.out; omega) hsa)
    simp only [Prod.mk.injEq] at E
    obtain ⟨E1, E2, E3⟩ := E
    have E4 := E1.symm
    have E5 := E2.symm
    have E6 := E3.symm
    clear E1 E2 E3
    subst E4
    subst E5
    subst E6
    have E := hR3.out.symm.trans (RW.out.trans (rows_bad hsa))
    simp only [Prod.mk.injEq] at E
    obtain ⟨E1, E2, E3⟩ := E
    have E4 := E1.symm
    have E5 := E2.symm
    have E6 := E3.symm
    clear E1 E2 E3
    subst E4
    subst E5
    subst E6
    obtain rfl : Z = 0 := hZ.out.symm
    clear hsa hR1 hR2 hR3 RW Sx Sy Sz hX hY hZ
    go_upto_region 8 with (fail)
    refine lin_begin (opsOf Try.f6 8) (by kernel_rfl) ?_
    refine lnow 0 (.int .i64 10) (some 46) ?_
    refine lnow 1 (.bool true) (some 47) ?_
    refine lin_done 2 (by kernel_rfl) ?_
    generalize hact : Act.put _ (some 47) _ = act
    simp only [Act.put, List.setIfInBounds_toArray, List.set_cons_succ, List.set_cons_zero] at hact
    subst hact
    go_upto_region 9 with (fail)
    refine lin_begin (opsOf Try.f6 9) (by kernel_rfl) ?_
    refine lnow 0 (.int .i64 10) (some 48) ?_
    refine lnow 1 (.int .i64 10) (some 49) ?_
    refine lnow 2 (.bool true) (some 50) ?_
    refine lnow 3 (.bool true) (some 51) ?_
    refine lnow 4 (.int .i64 (pa : Int)) (some 52) ?_
    refine lnow 5 (.int .i64 (pa : Int)) (some 53) ?_
    refine lnow 6 (.bool (decide ((pa : Int) = (pa : Int)))) (some 54) ?_
    rw [decide_eq_true (rfl)]
    refine lnow 7 (.bool true) (some 55) ?_
    refine lnow 8 (.bool true) (some 56) ?_
    refine lnow 9 (.slice za 0 zc) (some 57) ?_
    refine lnow 10 (.int .i64 (0 : Int)) (some 58) ?_
    refine lnow 11 (.bool (decide ((0 : Int) = 0))) (some 59) ?_
    rw [decide_eq_true (rfl)]
    refine lnow 12 (.bool true) (some 60) ?_
    refine lnow 13 (.bool true) (some 4) ?_
    refine lin_done 14 (by kernel_rfl) ?_
    generalize hact : Act.put _ (some 4) _ = act
    simp only [Act.put, List.setIfInBounds_toArray, List.set_cons_succ, List.set_cons_zero] at hact
    subst hact
    go_wp2
    go_ret
    exact ⟨rfl, BEz.out⟩
  | ok xs' =>
    cases hsb : scanS b 0 with
    | error pb =>
      have E := hR1.out.symm.trans (scanR_ok (by have := hNl.out; omega) hsa)
      simp only [Prod.mk.injEq] at E
      obtain ⟨E1, E2, E3⟩ := E
      have E4 := E1.symm
      have E5 := E2.symm
      have E6 := E3.symm
      clear E1 E2 E3
      subst E4
      subst E5
      subst E6
      have E := hR2.out.symm.trans (scanR_bad (by have := hOl.out; omega) hsb)
      simp only [Prod.mk.injEq] at E
      obtain ⟨E1, E2, E3⟩ := E
      have E4 := E1.symm
      have E5 := E2.symm
      have E6 := E3.symm
      clear E1 E2 E3
      subst E4
      subst E5
      subst E6
      have E := hR3.out.symm.trans (RW.out.trans (rows_bad2 hsa hsb))
      simp only [Prod.mk.injEq] at E
      obtain ⟨E1, E2, E3⟩ := E
      have E4 := E1.symm
      have E5 := E2.symm
      have E6 := E3.symm
      clear E1 E2 E3
      subst E4
      subst E5
      subst E6
      have PB := bad_place _ b 0 pb (Nat.le_refl _) hsb
      rw [hOl.out] at PB
      rw [hNl.out]
      clear hsa hsb hR1 hR2 hR3 RW Sx Sy Sz hX hY hZ
      go_upto_region 8 with (fail)
      refine lin_begin (opsOf Try.f6 8) (by kernel_rfl) ?_
      refine lnow 0 (.int .i64 0) (some 46) ?_
      refine lnow 1 (.bool false) (some 47) ?_
      refine lin_done 2 (by kernel_rfl) ?_
      generalize hact : Act.put _ (some 47) _ = act
      simp only [Act.put, List.setIfInBounds_toArray, List.set_cons_succ, List.set_cons_zero] at hact
      subst hact
      go_upto_region 10 with (fail)
      refine lin_begin (opsOf Try.f6 10) (by kernel_rfl) ?_
      refine lnow 0 (.int .i64 10) (some 61) ?_
      refine lnow 1 (.bool true) (some 62) ?_
      refine lin_done 2 (by kernel_rfl) ?_
      generalize hact : Act.put _ (some 62) _ = act
      simp only [Act.put, List.setIfInBounds_toArray, List.set_cons_succ, List.set_cons_zero] at hact
      subst hact
      go_upto_region 11 with (fail)
      refine lin_begin (opsOf Try.f6 11) (by kernel_rfl) ?_
      refine lnow 0 (.int .i64 10) (some 63) ?_
      refine lnow 1 (.int .i64 10) (some 64) ?_
      refine lnow 2 (.bool true) (some 65) ?_
      refine lnow 3 (.bool true) (some 66) ?_
      refine lnow 4 (.int .i64 ((pb + (N + 1) : Nat) : Int)) (some 67) ?_
      refine lnow 5 (.int .i64 (pb : Int)) (some 68) ?_
      refine lnow 6 (sT a) (some 69) ?_
      refine lnow 7 (.int .i64 (a.length : Int)) (some 70) ?_
      rw [hNl.out]
      refine lnow 8 (.int .i64 (IntKind.i64.wrap ((pb : Int) + (N : Int)))) (some 71) ?_
      rw [show IntKind.i64.wrap ((pb : Int) + (N : Int)) = ((pb + N : Nat) : Int) from (IntWalk.i64_in _ (by omega)).trans (by omega)]
      refine lnow 9 (.int .i64 (IntKind.i64.wrap (((pb + N : Nat) : Int) + 1))) (some 72) ?_
      rw [show IntKind.i64.wrap (((pb + N : Nat) : Int) + 1) = ((pb + (N + 1) : Nat) : Int) from (IntWalk.i64_in _ (by omega)).trans (by omega)]
      refine lnow 10 (.bool (decide (((pb + (N + 1) : Nat) : Int) = ((pb + (N + 1) : Nat) : Int)))) (some 73) ?_
      rw [decide_eq_true (rfl)]
      refine lnow 11 (.bool true) (some 74) ?_
      refine lnow 12 (.bool true) (some 4) ?_
      refine lin_done 13 (by kernel_rfl) ?_
      generalize hact : Act.put _ (some 4) _ = act
      simp only [Act.put, List.setIfInBounds_toArray, List.set_cons_succ, List.set_cons_zero] at hact
      subst hact
      go_wp2
      go_ret
      exact ⟨rfl, BEz.out⟩
    | ok ys' =>
      have E := hR1.out.symm.trans (scanR_ok (by have := hNl.out; omega) hsa)
      simp only [Prod.mk.injEq] at E
      obtain ⟨E1, E2, E3⟩ := E
      have E4 := E1.symm
      have E5 := E2.symm
      have E6 := E3.symm
      clear E1 E2 E3
      subst E4
      subst E5
      subst E6
      have E := hR2.out.symm.trans (scanR_ok (by have := hOl.out; omega) hsb)
      simp only [Prod.mk.injEq] at E
      obtain ⟨E1, E2, E3⟩ := E
      have E4 := E1.symm
      have E5 := E2.symm
      have E6 := E3.symm
      clear E1 E2 E3
      subst E4
      subst E5
      subst E6
      have E := hR3.out.symm.trans (RW.out.trans (rows_ok hsa hsb))
      simp only [Prod.mk.injEq] at E
      obtain ⟨E1, E2, E3⟩ := E
      have E5 := E2.symm
      have E6 := E3.symm
      clear E2 E3
      subst E5
      subst E6
      rw [hNl.out] at E1
      have ZS := Lib.hid E1
      have HSB := Lib.hid hsb
      have ZL : Hid (Z = X + Y) := by rw [Hid, ← hZ.out, ZS.out, List.length_append, List.length_map, hX.out, hY.out]
      have XB : Hid (X ≤ 2000 ∧ Y ≤ 2000) := by have h1 := (scan_len3 hsa).1; have h2 := (scan_len3 hsb).1; rw [hX.out, hNl.out] at h1; rw [hY.out, hOl.out] at h2; exact ⟨by omega, by omega⟩
      clear E1 hsa hsb hR1 hR2 hR3 RW
      go_upto_region 8 with (fail)
      refine lin_begin (opsOf Try.f6 8) (by kernel_rfl) ?_
      refine lnow 0 (.int .i64 0) (some 46) ?_
      refine lnow 1 (.bool false) (some 47) ?_
      refine lin_done 2 (by kernel_rfl) ?_
      generalize hact : Act.put _ (some 47) _ = act
      simp only [Act.put, List.setIfInBounds_toArray, List.set_cons_succ, List.set_cons_zero] at hact
      subst hact
      go_upto_region 10 with (fail)
      refine lin_begin (opsOf Try.f6 10) (by kernel_rfl) ?_
      refine lnow 0 (.int .i64 0) (some 61) ?_
      refine lnow 1 (.bool false) (some 62) ?_
      refine lin_done 2 (by kernel_rfl) ?_
      generalize hact : Act.put _ (some 62) _ = act
      simp only [Act.put, List.setIfInBounds_toArray, List.set_cons_succ, List.set_cons_zero] at hact
      subst hact
      have xb := XB.out
      have zl := ZL.out
      go_upto_region 12 with (fail)
      refine lin_begin (opsOf Try.f6 12) (by kernel_rfl) ?_
      refine lnow 0 (.int .i64 0) (some 75) ?_
      refine lnow 1 (.bool false) (some 76) ?_
      refine lnow 2 (.bool false) (some 77) ?_
      refine lnow 3 (.slice za Z zc) (some 78) ?_
      refine lnow 4 (.int .i64 (Z : Int)) (some 79) ?_
      refine lnow 5 (.slice xa X xc) (some 80) ?_
      refine lnow 6 (.int .i64 (X : Int)) (some 81) ?_
      refine lnow 7 (.slice ya Y yc) (some 82) ?_
      refine lnow 8 (.int .i64 (Y : Int)) (some 83) ?_
      refine lnow 9 (.int .i64 (IntKind.i64.wrap ((X : Int) + (Y : Int)))) (some 84) ?_
      rw [show IntKind.i64.wrap ((X : Int) + (Y : Int)) = (Z : Int) from (IntWalk.i64_in _ (by omega)).trans (by omega)]
      refine lnow 10 (.bool (!decide ((Z : Int) = (Z : Int)))) (some 85) ?_
      rw [decide_eq_true (rfl)]
      rw [show (!true) = false from rfl]
      refine lnow 11 (.bool false) (some 86) ?_
      refine lin_done 12 (by kernel_rfl) ?_
      generalize hact : Act.put _ (some 86) _ = act
      simp only [Act.put, List.setIfInBounds_toArray, List.set_cons_succ, List.set_cons_zero] at hact
      subst hact
      go_upto_region 14 with (fail)
      refine lin_begin (opsOf Try.f6 14) (by kernel_rfl) ?_
      refine lnow 0 (.int .i64 0) (some 14) ?_
      refine lin_done 1 (by kernel_rfl) ?_
      generalize hact : Act.put _ (some 14) _ = act
      simp only [Act.put, List.setIfInBounds_toArray, List.set_cons_succ, List.set_cons_zero] at hact
      subst hact
      go_wp2
      go_loopw [14] (fun kv wr => ∃ k : Nat, k ≤ Z ∧ kv = .int .i64 (k : Int) ∧ Hid (Below w4.heap.size w4 wr)) (fun kv _ => Z - (intOf kv).toNat)
      case atStart => exact ⟨0, Nat.zero_le _, rfl, Below.refl _ _⟩
      case round =>
        obtain ⟨k, hk, rfl, BR⟩ := hrel
        have xb := XB.out
        have zl := ZL.out
        have n2 := N2.out
        by_cases hlt : (k : Int) < (Z : Int)
        rotate_left
        · skip
          go_upto_region 15 with (fail)
          refine lin_begin (opsOf Try.f6 15) (by kernel_rfl) ?_
          refine lnow 0 (.int .i64 (k : Int)) (some 87) ?_
          refine lnow 1 (.slice za Z zc) (some 88) ?_
          refine lnow 2 (.int .i64 (Z : Int)) (some 89) ?_
          refine lnow 3 (.bool (decide ((k : Int) < (Z : Int)))) (some 90) ?_
          rw [decide_eq_false (hlt)]
          refine lin_done 4 (by kernel_rfl) ?_
          generalize hact : Act.put _ (some 90) _ = act
          simp only [Act.put, List.setIfInBounds_toArray, List.set_cons_succ, List.set_cons_zero] at hact
          subst hact
          have FIN : Hid (Below q w wr) := BEz.out.trans (BR.out.mono Qz.out)
          go_wp2
          go_ret
          exact ⟨rfl, FIN.out⟩
        go_upto_region 15 with (fail)
        refine lin_begin (opsOf Try.f6 15) (by kernel_rfl) ?_
        refine lnow 0 (.int .i64 (k : Int)) (some 87) ?_
        refine lnow 1 (.slice za Z zc) (some 88) ?_
        refine lnow 2 (.int .i64 (Z : Int)) (some 89) ?_
        refine lnow 3 (.bool (decide ((k : Int) < (Z : Int)))) (some 90) ?_
        rw [decide_eq_true (hlt)]
        refine lin_done 4 (by kernel_rfl) ?_
        generalize hact : Act.put _ (some 90) _ = act
        simp only [Act.put, List.setIfInBounds_toArray, List.set_cons_succ, List.set_cons_zero] at hact
        subst hact
        obtain ⟨z, hz⟩ : ∃ z, Hid (zs[k]? = some z) := ⟨_, List.getElem?_eq_getElem (by rw [hZ.out]; omega)⟩
        obtain ⟨g, u, c1, hv1, -, -, hr1⟩ := (Sz.out.below BR.out).cell hz.out
        rw [hZ.out] at hv1
        obtain ⟨rfl, -, rfl⟩ := Value.slice.inj hv1
        have HR1 := Lib.hid hr1
        clear hr1 hv1
        by_cases hkx : (k : Int) < (X : Int)
        · skip
          have HZX : Hid (xs'[k]? = some z) := by have h := hz.out; rw [ZS.out, List.getElem?_append_left (by rw [hX.out]; omega)] at h; exact h
          obtain ⟨g2, u2, c2, hv2, -, -, hr2⟩ := (Sx.out.below BR.out).cell HZX.out
          rw [hX.out] at hv2
          obtain ⟨rfl, -, rfl⟩ := Value.slice.inj hv2
          have HR2 := Lib.hid hr2
          clear hr2 hv2
          go_upto_region 17 with (fail)
          refine region_begin (opsOf Try.f6 17) (fun w' => ∀ p, w'.cell? p = World.cell? wr p) (by kernel_rfl) (by kernel_rfl) 15 (by kernel_rfl) ?_
          intro Q' hQN hN
          have HS : ∀ p, World.cell? (World.drew wr) p = World.cell? wr p := fun _ => rfl
          refine reg_now 0 (.int .i64 (k : Int)) (some 93) hQN HS (by kernel_rfl) (by kernel_rfl) (fun w => by kernel_rfl) ?_
          refine reg_now 1 (.slice (some ⟨g2, u2, none⟩) X xc) (some 94) hQN HS (by kernel_rfl) (by kernel_rfl) (fun w => by kernel_rfl) ?_
          refine reg_now 2 (.int .i64 (X : Int)) (some 95) hQN HS (by kernel_rfl) (by kernel_rfl) (fun w => by kernel_rfl) ?_
          refine reg_now 3 (.bool (decide ((k : Int) < (X : Int)))) (some 96) hQN HS (by kernel_rfl) (by kernel_rfl) (fun w => by kernel_rfl) ?_
          rw [decide_eq_true (hkx)]
          refine reg_now 4 (.bool true) (some 97) hQN HS (by kernel_rfl) (by kernel_rfl) (fun w => by kernel_rfl) ?_
          refine reg_now 5 (.slice (some ⟨g, u, none⟩) Z zc) (some 98) hQN HS (by kernel_rfl) (by kernel_rfl) (fun w => by kernel_rfl) ?_
          refine reg_now 6 (.int .i64 (k : Int)) (some 99) hQN HS (by kernel_rfl) (by kernel_rfl) (fun w => by kernel_rfl) ?_
          refine reg_now 7 (.pointer (some ⟨g, u + k * 3, none⟩)) (some 100) hQN HS (by kernel_rfl) (by kernel_rfl) (fun w' => exec_indexAt 23 (.tmp 98) (.tmp 99) (by kernel_rfl) _ _ _ (by kernel_rfl) (by kernel_rfl) (run_at_tok g u Z zc k (by omega) _)) ?_
          refine reg_nowIf 8 (.agg (tkC z).toArray) (some 101) hQN HS (by kernel_rfl) (by kernel_rfl) (fun w' hw => exec_load_mid 31 (.tmp 100) (by kernel_rfl) g (u + k * 3) (by kernel_rfl) (tkC z) _ (fun j y hy => (hw _).trans (HR1.out j y hy)) Try.underlying31 rfl sizeTok) ?_
          refine reg_now 9 (.slice (some ⟨g2, u2, none⟩) X xc) (some 102) hQN HS (by kernel_rfl) (by kernel_rfl) (fun w => by kernel_rfl) ?_
          refine reg_now 10 (.int .i64 (k : Int)) (some 103) hQN HS (by kernel_rfl) (by kernel_rfl) (fun w => by kernel_rfl) ?_
          refine reg_now 11 (.pointer (some ⟨g2, u2 + k * 3, none⟩)) (some 104) hQN HS (by kernel_rfl) (by kernel_rfl) (fun w' => exec_indexAt 23 (.tmp 102) (.tmp 103) (by kernel_rfl) _ _ _ (by kernel_rfl) (by kernel_rfl) (run_at_tok g2 u2 X xc k (by omega) _)) ?_
          refine reg_nowIf 12 (.agg (tkC z).toArray) (some 105) hQN HS (by kernel_rfl) (by kernel_rfl) (fun w' hw => exec_load_mid 31 (.tmp 104) (by kernel_rfl) g2 (u2 + k * 3) (by kernel_rfl) (tkC z) _ (fun j y hy => (hw _).trans (HR2.out j y hy)) Try.underlying31 rfl sizeTok) ?_
          refine reg_now 13 (.bool false) (some 106) hQN HS (by kernel_rfl) (by kernel_rfl) (fun w' => exec_tNe (.tmp 101) (.tmp 105) 31 (by kernel_rfl) z (by kernel_rfl) (by kernel_rfl)) ?_
          refine reg_now 14 (.bool false) (some 107) hQN HS (by kernel_rfl) (by kernel_rfl) (fun w => by kernel_rfl) ?_
          refine reg_done (by kernel_rfl) (hN _ _ ?_)
          generalize hact : Act.put _ (some 107) _ = act
          simp only [Act.put, List.setIfInBounds_toArray, List.set_cons_succ, List.set_cons_zero] at hact
          subst hact
          have BRd : Hid (Below w4.heap.size w4 (World.drew wr)) := BR.out.drew
          clear HS hQN hN HR1 HR2
          generalize World.drew wr = wd at BRd ⊢
          have hge : ¬ ((k : Int) ≥ (X : Int)) := by omega
          go_upto_region 19 with (fail)
          refine region_begin (opsOf Try.f6 19) (fun w' => ∀ p, w'.cell? p = World.cell? wd p) (by kernel_rfl) (by kernel_rfl) 40 (by kernel_rfl) ?_
          intro Q' hQN hN
          have HS : ∀ p, World.cell? (World.drew wd) p = World.cell? wd p := fun _ => rfl
          refine reg_now 0 (.int .i64 (k : Int)) (some 108) hQN HS (by kernel_rfl) (by kernel_rfl) (fun w => by kernel_rfl) ?_
          refine reg_now 1 (.slice (some ⟨g2, u2, none⟩) X xc) (some 109) hQN HS (by kernel_rfl) (by kernel_rfl) (fun w => by kernel_rfl) ?_
          refine reg_now 2 (.int .i64 (X : Int)) (some 110) hQN HS (by kernel_rfl) (by kernel_rfl) (fun w => by kernel_rfl) ?_
          refine reg_now 3 (.bool (decide ((k : Int) ≥ (X : Int)))) (some 111) hQN HS (by kernel_rfl) (by kernel_rfl) (fun w => by kernel_rfl) ?_
          rw [decide_eq_false (hge)]
          refine reg_now 4 (.bool false) (some 112) hQN HS (by kernel_rfl) (by kernel_rfl) (fun w => by kernel_rfl) ?_
          refine reg_pass 5 (some 113) hQN HS (by kernel_rfl) (by kernel_rfl) ?_
          refine reg_pass 6 (some 114) hQN HS (by kernel_rfl) (by kernel_rfl) ?_
          refine reg_pass 7 (some 115) hQN HS (by kernel_rfl) (by kernel_rfl) ?_
          refine reg_pass 8 (some 116) hQN HS (by kernel_rfl) (by kernel_rfl) ?_
          refine reg_pass 9 (some 117) hQN HS (by kernel_rfl) (by kernel_rfl) ?_
          refine reg_pass 10 (some 118) hQN HS (by kernel_rfl) (by kernel_rfl) ?_
          refine reg_pass 11 (some 119) hQN HS (by kernel_rfl) (by kernel_rfl) ?_
          refine reg_pass 12 (some 120) hQN HS (by kernel_rfl) (by kernel_rfl) ?_
          refine reg_pass 13 (some 121) hQN HS (by kernel_rfl) (by kernel_rfl) ?_
          refine reg_pass 14 (some 122) hQN HS (by kernel_rfl) (by kernel_rfl) ?_
          refine reg_pass 15 (some 123) hQN HS (by kernel_rfl) (by kernel_rfl) ?_
          refine reg_pass 16 (some 124) hQN HS (by kernel_rfl) (by kernel_rfl) ?_
          refine reg_pass 17 (some 125) hQN HS (by kernel_rfl) (by kernel_rfl) ?_
          refine reg_pass 18 (some 126) hQN HS (by kernel_rfl) (by kernel_rfl) ?_
          refine reg_pass 19 (some 127) hQN HS (by kernel_rfl) (by kernel_rfl) ?_
          refine reg_pass 20 (some 128) hQN HS (by kernel_rfl) (by kernel_rfl) ?_
          refine reg_pass 21 (some 129) hQN HS (by kernel_rfl) (by kernel_rfl) ?_
          refine reg_pass 22 (some 130) hQN HS (by kernel_rfl) (by kernel_rfl) ?_
          refine reg_pass 23 (some 131) hQN HS (by kernel_rfl) (by kernel_rfl) ?_
          refine reg_pass 24 (some 132) hQN HS (by kernel_rfl) (by kernel_rfl) ?_
          refine reg_pass 25 (some 133) hQN HS (by kernel_rfl) (by kernel_rfl) ?_
          refine reg_pass 26 (some 134) hQN HS (by kernel_rfl) (by kernel_rfl) ?_
          refine reg_pass 27 (some 135) hQN HS (by kernel_rfl) (by kernel_rfl) ?_
          refine reg_pass 28 (some 136) hQN HS (by kernel_rfl) (by kernel_rfl) ?_
          refine reg_pass 29 (some 137) hQN HS (by kernel_rfl) (by kernel_rfl) ?_
          refine reg_pass 30 (some 138) hQN HS (by kernel_rfl) (by kernel_rfl) ?_
          refine reg_pass 31 (some 139) hQN HS (by kernel_rfl) (by kernel_rfl) ?_
          refine reg_pass 32 (some 140) hQN HS (by kernel_rfl) (by kernel_rfl) ?_
          refine reg_pass 33 (some 141) hQN HS (by kernel_rfl) (by kernel_rfl) ?_
          refine reg_pass 34 (some 142) hQN HS (by kernel_rfl) (by kernel_rfl) ?_
          refine reg_pass 35 (some 143) hQN HS (by kernel_rfl) (by kernel_rfl) ?_
          refine reg_pass 36 (some 144) hQN HS (by kernel_rfl) (by kernel_rfl) ?_
          refine reg_pass 37 (some 145) hQN HS (by kernel_rfl) (by kernel_rfl) ?_
          refine reg_pass 38 (some 146) hQN HS (by kernel_rfl) (by kernel_rfl) ?_
          refine reg_now 39 (.bool false) (some 147) hQN HS (by kernel_rfl) (by kernel_rfl) (fun w => by kernel_rfl) ?_
          refine reg_done (by kernel_rfl) (hN _ _ ?_)
          generalize hact : Act.put _ (some 147) _ = act
          simp only [Act.put, List.setIfInBounds_toArray, List.set_cons_succ, List.set_cons_zero] at hact
          subst hact
          have BR7 : Hid (Below w4.heap.size w4 (World.drew wd)) := BRd.out.drew
          clear BRd HS
          go_wp2
          go_roundw
          case rel => exact ⟨k + 1, by omega, by go_num, BR7⟩
          case measure => simp [intOf]; omega
        go_upto_region 17 with (fail)
        refine region_begin (opsOf Try.f6 17) (fun w' => ∀ p, w'.cell? p = World.cell? wr p) (by kernel_rfl) (by kernel_rfl) 15 (by kernel_rfl) ?_
        intro Q' hQN hN
        have HS : ∀ p, World.cell? (World.drew wr) p = World.cell? wr p := fun _ => rfl
        refine reg_now 0 (.int .i64 (k : Int)) (some 93) hQN HS (by kernel_rfl) (by kernel_rfl) (fun w => by kernel_rfl) ?_
        refine reg_now 1 (.slice xa X xc) (some 94) hQN HS (by kernel_rfl) (by kernel_rfl) (fun w => by kernel_rfl) ?_
        refine reg_now 2 (.int .i64 (X : Int)) (some 95) hQN HS (by kernel_rfl) (by kernel_rfl) (fun w => by kernel_rfl) ?_
        refine reg_now 3 (.bool (decide ((k : Int) < (X : Int)))) (some 96) hQN HS (by kernel_rfl) (by kernel_rfl) (fun w => by kernel_rfl) ?_
        rw [decide_eq_false (hkx)]
        refine reg_now 4 (.bool false) (some 97) hQN HS (by kernel_rfl) (by kernel_rfl) (fun w => by kernel_rfl) ?_
        refine reg_pass 5 (some 98) hQN HS (by kernel_rfl) (by kernel_rfl) ?_
        refine reg_pass 6 (some 99) hQN HS (by kernel_rfl) (by kernel_rfl) ?_
        refine reg_pass 7 (some 100) hQN HS (by kernel_rfl) (by kernel_rfl) ?_
        refine reg_pass 8 (some 101) hQN HS (by kernel_rfl) (by kernel_rfl) ?_
        refine reg_pass 9 (some 102) hQN HS (by kernel_rfl) (by kernel_rfl) ?_
        refine reg_pass 10 (some 103) hQN HS (by kernel_rfl) (by kernel_rfl) ?_
        refine reg_pass 11 (some 104) hQN HS (by kernel_rfl) (by kernel_rfl) ?_
        refine reg_pass 12 (some 105) hQN HS (by kernel_rfl) (by kernel_rfl) ?_
        refine reg_pass 13 (some 106) hQN HS (by kernel_rfl) (by kernel_rfl) ?_
        refine reg_now 14 (.bool false) (some 107) hQN HS (by kernel_rfl) (by kernel_rfl) (fun w => by kernel_rfl) ?_
        refine reg_done (by kernel_rfl) (hN _ _ ?_)
        generalize hact : Act.put _ (some 107) _ = act
        simp only [Act.put, List.setIfInBounds_toArray, List.set_cons_succ, List.set_cons_zero] at hact
        subst hact
        have BRd : Hid (Below w4.heap.size w4 (World.drew wr)) := BR.out.drew
        have HR1d : Hid (World.rangeAt (World.drew wr) g (u + k * 3) (tkC z)) := HR1.out
        clear HS hQN hN HR1
        generalize World.drew wr = wd at BRd HR1d ⊢
        have hge : ((k : Int) ≥ (X : Int)) := by omega
        obtain ⟨j, hj⟩ : ∃ j, k = X + j := ⟨k - X, by omega⟩
        obtain ⟨y, hy⟩ : ∃ y, Hid (ys'[j]? = some y) := ⟨_, List.getElem?_eq_getElem (by rw [hY.out]; omega)⟩
        have HZY : z = shiftT (N + 1) y := by have h := hz.out; rw [ZS.out, List.getElem?_append_right (by rw [hX.out]; omega), hX.out, show k - X = j by omega, List.getElem?_map, hy.out] at h; exact (Option.some.inj h).symm
        subst HZY
        have YP := scan_place HSB.out hy.out
        rw [hOl.out] at YP
        obtain ⟨g3, u3, c3, hv3, -, -, hr3⟩ := (Sy.out.below BRd.out).cell hy.out
        rw [hY.out] at hv3
        obtain ⟨rfl, -, rfl⟩ := Value.slice.inj hv3
        have HR3 := Lib.hid hr3
        clear hr3 hv3 hz hy
        go_upto_region 19 with (fail)
        refine region_begin (opsOf Try.f6 19) (fun w' => ∀ p, w'.cell? p = World.cell? wd p) (by kernel_rfl) (by kernel_rfl) 40 (by kernel_rfl) ?_
        intro Q' hQN hN
        have HS : ∀ p, World.cell? (World.drew wd) p = World.cell? wd p := fun _ => rfl
        refine reg_now 0 (.int .i64 (k : Int)) (some 108) hQN HS (by kernel_rfl) (by kernel_rfl) (fun w => by kernel_rfl) ?_
        refine reg_now 1 (.slice xa X xc) (some 109) hQN HS (by kernel_rfl) (by kernel_rfl) (fun w => by kernel_rfl) ?_
        refine reg_now 2 (.int .i64 (X : Int)) (some 110) hQN HS (by kernel_rfl) (by kernel_rfl) (fun w => by kernel_rfl) ?_
        refine reg_now 3 (.bool (decide ((k : Int) ≥ (X : Int)))) (some 111) hQN HS (by kernel_rfl) (by kernel_rfl) (fun w => by kernel_rfl) ?_
        rw [decide_eq_true (hge)]
        refine reg_now 4 (.bool true) (some 112) hQN HS (by kernel_rfl) (by kernel_rfl) (fun w => by kernel_rfl) ?_
        refine reg_now 5 (.slice (some ⟨g, u, none⟩) Z zc) (some 113) hQN HS (by kernel_rfl) (by kernel_rfl) (fun w => by kernel_rfl) ?_
        refine reg_now 6 (.int .i64 (k : Int)) (some 114) hQN HS (by kernel_rfl) (by kernel_rfl) (fun w => by kernel_rfl) ?_
        refine reg_now 7 (.pointer (some ⟨g, u + k * 3, none⟩)) (some 115) hQN HS (by kernel_rfl) (by kernel_rfl) (fun w' => exec_indexAt 23 (.tmp 113) (.tmp 114) (by kernel_rfl) _ _ _ (by kernel_rfl) (by kernel_rfl) (run_at_tok g u Z zc k (by omega) _)) ?_
        refine reg_now 8 (.pointer (some ⟨g, u + k * 3 + 1, none⟩)) (some 116) hQN HS (by kernel_rfl) (by kernel_rfl) (fun w => by kernel_rfl) ?_
        refine reg_nowIf 9 (sT (y.t)) (some 117) hQN HS (by kernel_rfl) (by kernel_rfl) (fun w' hw => exec_load_cell 9 (.tmp 116) (by kernel_rfl) (g) (u + k * 3 + 1) (by kernel_rfl) _ ((hw _).trans (HR1d.out 1 _ rfl)) _ Try.underlying9 rfl) ?_
        refine reg_now 10 (.slice (some ⟨g3, u3, none⟩) Y yc) (some 118) hQN HS (by kernel_rfl) (by kernel_rfl) (fun w => by kernel_rfl) ?_
        refine reg_now 11 (.int .i64 (k : Int)) (some 119) hQN HS (by kernel_rfl) (by kernel_rfl) (fun w => by kernel_rfl) ?_
        refine reg_now 12 (.slice xa X xc) (some 120) hQN HS (by kernel_rfl) (by kernel_rfl) (fun w => by kernel_rfl) ?_
        refine reg_now 13 (.int .i64 (X : Int)) (some 121) hQN HS (by kernel_rfl) (by kernel_rfl) (fun w => by kernel_rfl) ?_
        refine reg_now 14 (.int .i64 (IntKind.i64.wrap ((k : Int) - (X : Int)))) (some 122) hQN HS (by kernel_rfl) (by kernel_rfl) (fun w => by kernel_rfl) ?_
        rw [show IntKind.i64.wrap ((k : Int) - (X : Int)) = (j : Int) from (IntWalk.i64_in _ (by omega)).trans (by omega)]
        refine reg_now 15 (.pointer (some ⟨g3, u3 + j * 3, none⟩)) (some 123) hQN HS (by kernel_rfl) (by kernel_rfl) (fun w' => exec_indexAt 23 (.tmp 118) (.tmp 122) (by kernel_rfl) _ _ _ (by kernel_rfl) (by kernel_rfl) (run_at_tok g3 u3 Y yc j (by omega) _)) ?_
        refine reg_now 16 (.pointer (some ⟨g3, u3 + j * 3 + 1, none⟩)) (some 124) hQN HS (by kernel_rfl) (by kernel_rfl) (fun w => by kernel_rfl) ?_
        refine reg_nowIf 17 (sT (y.t)) (some 125) hQN HS (by kernel_rfl) (by kernel_rfl) (fun w' hw => exec_load_cell 9 (.tmp 124) (by kernel_rfl) (g3) (u3 + j * 3 + 1) (by kernel_rfl) _ ((hw _).trans (HR3.out 1 _ rfl)) _ Try.underlying9 rfl) ?_
        refine reg_now 18 (.bool (!decide (y.t = y.t))) (some 126) hQN HS (by kernel_rfl) (by kernel_rfl) (fun w' => exec_sNe 9 9 (.tmp 117) (.tmp 125) (by kernel_rfl) (y.t) (y.t) (by kernel_rfl) (by kernel_rfl) (fun _ => rfl)) ?_
        rw [decide_eq_true rfl]
        rw [show (!true) = false from rfl]
        refine reg_now 19 (.bool false) (some 127) hQN HS (by kernel_rfl) (by kernel_rfl) (fun w => by kernel_rfl) ?_
        refine reg_now 20 (.slice (some ⟨g, u, none⟩) Z zc) (some 128) hQN HS (by kernel_rfl) (by kernel_rfl) (fun w => by kernel_rfl) ?_
        refine reg_now 21 (.int .i64 (k : Int)) (some 129) hQN HS (by kernel_rfl) (by kernel_rfl) (fun w => by kernel_rfl) ?_
        refine reg_now 22 (.pointer (some ⟨g, u + k * 3, none⟩)) (some 130) hQN HS (by kernel_rfl) (by kernel_rfl) (fun w' => exec_indexAt 23 (.tmp 128) (.tmp 129) (by kernel_rfl) _ _ _ (by kernel_rfl) (by kernel_rfl) (run_at_tok g u Z zc k (by omega) _)) ?_
        refine reg_now 23 (.pointer (some ⟨g, u + k * 3 + 2, none⟩)) (some 131) hQN HS (by kernel_rfl) (by kernel_rfl) (fun w => by kernel_rfl) ?_
        refine reg_nowIf 24 (.int .i64 ((y.p + (N + 1) : Nat) : Int)) (some 132) hQN HS (by kernel_rfl) (by kernel_rfl) (fun w' hw => exec_load_cell 3 (.tmp 131) (by kernel_rfl) (g) (u + k * 3 + 2) (by kernel_rfl) _ ((hw _).trans (HR1d.out 2 _ rfl)) _ Try.underlying3 rfl) ?_
        refine reg_now 25 (.slice (some ⟨g3, u3, none⟩) Y yc) (some 133) hQN HS (by kernel_rfl) (by kernel_rfl) (fun w => by kernel_rfl) ?_
        refine reg_now 26 (.int .i64 (k : Int)) (some 134) hQN HS (by kernel_rfl) (by kernel_rfl) (fun w => by kernel_rfl) ?_
        refine reg_now 27 (.slice xa X xc) (some 135) hQN HS (by kernel_rfl) (by kernel_rfl) (fun w => by kernel_rfl) ?_
        refine reg_now 28 (.int .i64 (X : Int)) (some 136) hQN HS (by kernel_rfl) (by kernel_rfl) (fun w => by kernel_rfl) ?_
        refine reg_now 29 (.int .i64 (IntKind.i64.wrap ((k : Int) - (X : Int)))) (some 137) hQN HS (by kernel_rfl) (by kernel_rfl) (fun w => by kernel_rfl) ?_
        rw [show IntKind.i64.wrap ((k : Int) - (X : Int)) = (j : Int) from (IntWalk.i64_in _ (by omega)).trans (by omega)]
        refine reg_now 30 (.pointer (some ⟨g3, u3 + j * 3, none⟩)) (some 138) hQN HS (by kernel_rfl) (by kernel_rfl) (fun w' => exec_indexAt 23 (.tmp 133) (.tmp 137) (by kernel_rfl) _ _ _ (by kernel_rfl) (by kernel_rfl) (run_at_tok g3 u3 Y yc j (by omega) _)) ?_
        refine reg_now 31 (.pointer (some ⟨g3, u3 + j * 3 + 2, none⟩)) (some 139) hQN HS (by kernel_rfl) (by kernel_rfl) (fun w => by kernel_rfl) ?_
        refine reg_nowIf 32 (.int .i64 (y.p : Int)) (some 140) hQN HS (by kernel_rfl) (by kernel_rfl) (fun w' hw => exec_load_cell 3 (.tmp 139) (by kernel_rfl) (g3) (u3 + j * 3 + 2) (by kernel_rfl) _ ((hw _).trans (HR3.out 2 _ rfl)) _ Try.underlying3 rfl) ?_
        refine reg_now 33 (sT a) (some 141) hQN HS (by kernel_rfl) (by kernel_rfl) (fun w => by kernel_rfl) ?_
        refine reg_now 34 (.int .i64 (a.length : Int)) (some 142) hQN HS (by kernel_rfl) (by kernel_rfl) (fun w => by kernel_rfl) ?_
        rw [hNl.out]
        refine reg_now 35 (.int .i64 (IntKind.i64.wrap ((y.p : Int) + (N : Int)))) (some 143) hQN HS (by kernel_rfl) (by kernel_rfl) (fun w => by kernel_rfl) ?_
        rw [show IntKind.i64.wrap ((y.p : Int) + (N : Int)) = ((y.p + N : Nat) : Int) from (IntWalk.i64_in _ (by omega)).trans (by omega)]
        refine reg_now 36 (.int .i64 (IntKind.i64.wrap (((y.p + N : Nat) : Int) + 1))) (some 144) hQN HS (by kernel_rfl) (by kernel_rfl) (fun w => by kernel_rfl) ?_
        rw [show IntKind.i64.wrap (((y.p + N : Nat) : Int) + 1) = ((y.p + (N + 1) : Nat) : Int) from (IntWalk.i64_in _ (by omega)).trans (by omega)]
        refine reg_now 37 (.bool (!decide (((y.p + (N + 1) : Nat) : Int) = ((y.p + (N + 1) : Nat) : Int)))) (some 145) hQN HS (by kernel_rfl) (by kernel_rfl) (fun w => by kernel_rfl) ?_
        rw [decide_eq_true (rfl)]
        rw [show (!true) = false from rfl]
        refine reg_now 38 (.bool false) (some 146) hQN HS (by kernel_rfl) (by kernel_rfl) (fun w => by kernel_rfl) ?_
        refine reg_now 39 (.bool false) (some 147) hQN HS (by kernel_rfl) (by kernel_rfl) (fun w => by kernel_rfl) ?_
        refine reg_done (by kernel_rfl) (hN _ _ ?_)
        generalize hact : Act.put _ (some 147) _ = act
        simp only [Act.put, List.setIfInBounds_toArray, List.set_cons_succ, List.set_cons_zero] at hact
        subst hact
        have BR7 : Hid (Below w4.heap.size w4 (World.drew wd)) := BRd.out.drew
        clear BRd HS HR1d HR3
        go_wp2
        go_roundw
        case rel => exact ⟨k + 1, by omega, by go_num, BR7⟩
        case measure => simp [intOf]; omega
end Go.Proofs.Ytjclhlnkojbidaa
