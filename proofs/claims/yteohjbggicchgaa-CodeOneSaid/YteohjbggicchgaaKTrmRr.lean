/- The document's own right, Right and Any: is a term right? -/
import Derived.Test.YteohjbggicchgaaKGenT
import Derived.Test.YteohjbggicchgaaKTrmAn
namespace Go.Proofs.Yteohjbggicchgaa
open Go Go.RowKit
set_option maxRecDepth 100000
theorem rights_at {p v d k : Int} : ∀ (ts : List Tm) (i : Nat), rightTs wordB p v d k i ts = true ↔ ∀ (j : Nat) (x : Tm), ts[j]? = some x → rightT wordB p (v + moreT k (i + j)) (d + moreT k (i + j)) x = true
 | [], i => by simp [rightTs]
 | t :: ts, i => by
  rw [rightTs, Bool.and_eq_true, rights_at ts (i + 1)]
  constructor
  ·rintro ⟨h1, h2⟩ j x hx
   cases j with
   | zero => simp at hx; subst hx; exact h1
   | succ j => have := h2 j x (by simpa using hx); rwa [show i + 1 + j = i + (j + 1) by omega] at this
  ·intro h
   refine ⟨by simpa using h 0 t (by simp), fun j x hx => ?_⟩
   have := h (j + 1) x (by simpa using hx)
   rwa [show i + (j + 1) = i + 1 + j by omega] at this
structure RightAll (p v d k n : Int) (s : List UInt8) (l : List Lv) (a : List Tm) : Prop where
 k1 : 1 ≤ k
 k9 : k ≤ 9
 d2 : d ≤ 200
 args : a.length = argsOf k
 lvs : 0 ≤ shL k → (l.length : Int) = shL k
 l4 : l.length ≤ 4
 lv : ∀ x ∈ l, rightL x = true ∧ (widthL x : Int) ≤ p
 nm : (k = 4 ∨ k = 9) → wordB s = true
 nn : ¬ (k = 4 ∨ k = 9) → s = []
 n0 : 0 ≤ n
 nv : k = 1 → n < v
 n9 : k = 9 → n ≤ 31
 nz : k ≠ 1 → k ≠ 9 → n = 0
 parts : rightTs wordB p v d k 0 a = true
theorem rightT_iff {p v d k n : Int} {s : List UInt8} {l : List Lv} {a : List Tm} : rightT wordB p v d (.mk k n s l a) = true ↔ RightAll p v d k n s l a := by
 have hall : (l.all (fun x => rightL x && decide ((widthL x : Int) ≤ p)) = true) ↔ ∀ x ∈ l, rightL x = true ∧ (widthL x : Int) ≤ p := by simp [List.all_eq_true]
 rw [rightT, Bool.and_eq_true, Bool.and_eq_true]
 unfold headT
 simp only [Bool.and_eq_true, decide_eq_true_eq, Bool.or_eq_true, hall]
 constructor
 ·rintro ⟨⟨⟨⟨⟨⟨⟨⟨⟨⟨h1, h2⟩, h3⟩, h4⟩, h5⟩, h6⟩, h7⟩, h8⟩, h9⟩, h10⟩, h11⟩
  have hl4 : l.length ≤ 4 ∧ (0 ≤ shL k → (l.length : Int) = shL k) := by
   unfold shL
   split at h5
   ·simp at h5; rename_i e; simp [e, h5]
   ·split at h5
    ·simp at h5; rename_i e; simp [e, h5]
    ·simp at h5; rename_i e e'; simp [e, e', h5]
  refine ⟨h1, h2, h3, h4, hl4.2, hl4.1, h6, fun e => ?_, fun e => ?_, h8, fun e => ?_, fun e => ?_, fun e e' => ?_, h11⟩
  ·rw [if_pos e] at h7; exact h7
  ·rw [if_neg e] at h7; simpa using h7
  ·rcases h10 with h | h
   ·exact absurd e h
   ·exact h
  ·rw [if_pos e] at h9; simpa using h9
  ·rw [if_neg e', if_neg e] at h9; simpa using h9
 ·intro h
  refine ⟨⟨⟨⟨⟨⟨⟨⟨⟨⟨h.k1, h.k9⟩, h.d2⟩, h.args⟩, ?_⟩, h.lv⟩, ?_⟩, h.n0⟩, ?_⟩, ?_⟩, h.parts⟩
  ·have h1 := h.lvs; have h2 := h.l4
   by_cases e : k = 3
   ·rw [if_pos e]
    have h3 := h1 (by rw [e]; decide)
    rw [show shL k = 1 by rw [e]; rfl] at h3
    exact decide_eq_true (by omega)
   ·rw [if_neg e]
    by_cases e' : k = 4
    ·rw [if_pos e']
     exact decide_eq_true h2
    ·rw [if_neg e']
     have hz : shL k = 0 := by simp [shL, e, e']
     have h3 := h1 (by rw [hz]; decide)
     rw [hz] at h3
     exact decide_eq_true (by omega)
  ·by_cases e : k = 4 ∨ k = 9
   ·rw [if_pos e]; exact h.nm e
   ·rw [if_neg e]; simp [h.nn e]
  ·by_cases e : k = 9
   ·rw [if_pos e]; simp [h.n9 e]
   ·rw [if_neg e]
    by_cases e1 : k = 1
    ·rw [if_pos e1]
    ·rw [if_neg e1]; simp [h.nz e1 e]
  ·by_cases e : k = 1
   ·exact .inr (h.nv e)
   ·exact .inl e
theorem right_no {p v d k n : Int} {s : List UInt8} {l : List Lv} {a : List Tm} (h : RightAll p v d k n s l a → False) : rightT wordB p v d (.mk k n s l a) = false := by
 cases e : rightT wordB p v d (.mk k n s l a) with
 | false => rfl
 | true => exact (h (rightT_iff.1 e)).elim
theorem shL_le (k : Int) : shL k ≤ 1 := by unfold shL; split <;> (try split) <;> omega
set_option maxHeartbeats 8000000 in
theorem rr_walk : ∀ (t : Tm) (cs : List Value) (w : World) (p v deep : Int) (F : List Nat), TmAt F w t cs → SmT t → (0 ≤ p ∧ p ≤ 4) → (0 ≤ deep ∧ deep ≤ 201) → (0 ≤ v ∧ v ≤ 1099511627776 + deep) → Calls Try.prog 73 #[.agg cs.toArray, .int .i64 p, .int .i64 v, .int .i64 deep] w fun e w' => e = .returned (.bool (rightT wordB p v deep t)) ∧ Below w.heap.size w w' := by
 refine Tm.byParts fun k n s ls a ih cs w p v deep F h hs hp hd hv => ?_
 obtain ⟨lv, av, rfl, h1, h2⟩ := h.open
 obtain ⟨sn, sl, sa, ss⟩ := hs.open
 dsimp only [Tm.kind, Tm.n, Tm.name, Tm.levels, Tm.args] at h h1 h2 sn sl sa ss ⊢
 obtain ⟨la, lc, rfl⟩ := h1.slice
 obtain ⟨aa, ac, rfl⟩ := h2.slice
 have hr : reachBytes = 140737488351232 := rfl
 rw [hr] at sn sl sa
 obtain ⟨L, hL⟩ : ∃ L, Hid (ls.length = L) := ⟨_, rfl⟩
 obtain ⟨N, hN⟩ : ∃ N, Hid (a.length = N) := ⟨_, rfl⟩
 rw [hL.out] at sl h1 ⊢
 rw [hN.out] at sa h2 ⊢
 obtain ⟨R, hR⟩ : ∃ R, Hid (rightT wordB p v deep (.mk k n s ls a) = R) := ⟨_, rfl⟩
 rw [hR.out]
 have NO : Hid ((RightAll p v deep k n s ls a → False) → R = false) := fun h => hR.out.symm.trans (right_no h)
 have YES : Hid (RightAll p v deep k n s ls a → R = true) := fun h => hR.out.symm.trans (rightT_iff.2 h)
 obtain ⟨z, hz⟩ : ∃ z, Hid (shL k = z) := ⟨_, rfl⟩
 obtain ⟨A, hA⟩ : ∃ A, Hid (argsOf k = A) := ⟨_, rfl⟩
 have hz1 : z ≤ 1 := by rw [← hz.out]; exact shL_le k
 have SH : ∀ w : World, Calls Try.prog 93 #[.int .i64 k] w fun e w' => e = .returned (.tuple #[.int .i64 (A : Int), .int .i64 z]) ∧ w' = w := fun w => by rw [← hz.out, ← hA.out]; exact shape_walk8 k w
 have H1 := Lib.hid h1
 have H2 := Lib.hid h2
 have SN := Lib.hid sn
 have SS := Lib.hid ss
 have IH := Lib.hid ih
 clear h1 h2 h hs sn ss ih hR
 obtain ⟨q, hq⟩ : ∃ q, Hid (w.heap.size = q) := ⟨_, rfl⟩
 obtain ⟨CS, hCS⟩ : ∃ x, Hid ([.int .i64 k, .int .i64 n, strT s, .slice la L lc, .slice aa N ac] = x) := ⟨_, rfl⟩
 rw [hCS.out]
 go_enter Try.func73, Try.ntmps73
 go_upto_region 0 with (fail)
 refine lbeg (opsOf Try.f73 0) ?_
 refine lbox 0 25 (.tmp 0) (CS) (q) (some 4) hq ?_
 intro w1 bw1 bew1 hsw1
 refine lnow 1 (.bool false) (some 8) ?_
 refine ldn 2 ?_
 generalize hact : Act.put _ (some 8) _ = act
 simp only [Act.put, sA, sC, sZ] at hact
 subst hact
 have BQ := Lib.hid bw1
 have BE : Hid (Below w.heap.size w w1) := by rw [Hid, hq.out]; exact bew1
 clear bw1 bew1 hsw1
 go_upto_region 1 with (fail)
 refine lbeg (opsOf Try.f73 1) ?_
 refine lnow 0 (.pointer (some ⟨q, 0, none⟩)) (some 16) ?_
 refine lcl 1 (.int .i64 k) (some 17) 3 16 (q) 0 (BQ.out.cell (by rw [← hCS.out]; rfl)) Try.underlying3 ?_
 refine lcal 2 93 #[.int .i64 k] (some 18) _ (SH w1) ?_
 rintro e w' ⟨rfl, hw'⟩
 obtain rfl := hw'.symm
 refine ⟨_, rfl, ?_⟩
 refine lnow 3 (.tuple #[.int .i64 (A : Int), .int .i64 z]) (some 15) ?_
 refine lnow 4 (.int .i64 (A : Int)) (some 19) ?_
 refine lnow 5 (.int .i64 z) (some 20) ?_
 refine lnow 6 (.int .i64 (A : Int)) (some 9) ?_
 refine lnow 7 (.int .i64 z) (some 10) ?_
 refine ldn 8 ?_
 generalize hact : Act.put _ (some 10) _ = act
 simp only [Act.put, sA, sC, sZ] at hact
 subst hact
 clear SH
 by_cases c1 : k < 1
 ·skip
  go_upto_region 2 with (fail)
  refine lbeg (opsOf Try.f73 2) ?_
  refine lnow 0 (.pointer (some ⟨q, 0, none⟩)) (some 21) ?_
  refine lcl 1 (.int .i64 k) (some 22) 3 21 (q) 0 (BQ.out.cell (by rw [← hCS.out]; rfl)) Try.underlying3 ?_
  refine lnow 2 (.bool (decide (k < 1))) (some 23) ?_
  rw [show decide (k < 1) = true from decide_eq_true c1]
  refine lnow 3 (.bool true) (some 24) ?_
  refine lpas 4 (some 25) ?_
  refine lpas 5 (some 26) ?_
  refine lpas 6 (some 27) ?_
  refine lnow 7 (.bool true) (some 28) ?_
  refine lnow 8 (.bool true) (some 29) ?_
  refine lpas 9 (some 30) ?_
  refine lpas 10 (some 31) ?_
  refine lnow 11 (.bool true) (some 32) ?_
  refine lnow 12 (.bool true) (some 33) ?_
  refine lpas 13 (some 34) ?_
  refine lpas 14 (some 35) ?_
  refine lpas 15 (some 36) ?_
  refine lpas 16 (some 37) ?_
  refine lpas 17 (some 38) ?_
  refine lnow 18 (.bool true) (some 39) ?_
  refine lnow 19 (.bool true) (some 40) ?_
  refine lpas 20 (some 41) ?_
  refine lpas 21 (some 42) ?_
  refine lpas 22 (some 43) ?_
  refine lpas 23 (some 44) ?_
  refine lpas 24 (some 45) ?_
  refine lpas 25 (some 46) ?_
  refine lpas 26 (some 47) ?_
  refine lpas 27 (some 48) ?_
  refine lpas 28 (some 49) ?_
  refine lnow 29 (.bool true) (some 50) ?_
  refine lnow 30 (.bool true) (some 51) ?_
  refine lpas 31 (some 52) ?_
  refine lpas 32 (some 53) ?_
  refine lpas 33 (some 54) ?_
  refine lpas 34 (some 55) ?_
  refine lnow 35 (.bool true) (some 56) ?_
  refine ldn 36 ?_
  generalize hact : Act.put _ (some 56) _ = act
  simp only [Act.put, sA, sC, sZ] at hact
  subst hact
  go_wp2
  go_ret
  exact ⟨by rw [NO.out (fun h => by have := h.k1; omega)]; rfl, BE.out⟩
 by_cases c2 : k > 9
 ·skip
  go_upto_region 2 with (fail)
  refine lbeg (opsOf Try.f73 2) ?_
  refine lnow 0 (.pointer (some ⟨q, 0, none⟩)) (some 21) ?_
  refine lcl 1 (.int .i64 k) (some 22) 3 21 (q) 0 (BQ.out.cell (by rw [← hCS.out]; rfl)) Try.underlying3 ?_
  refine lnow 2 (.bool (decide (k < 1))) (some 23) ?_
  rw [show decide (k < 1) = false from decide_eq_false c1]
  refine lnow 3 (.bool false) (some 24) ?_
  refine lnow 4 (.pointer (some ⟨q, 0, none⟩)) (some 25) ?_
  refine lcl 5 (.int .i64 k) (some 26) 3 25 (q) 0 (BQ.out.cell (by rw [← hCS.out]; rfl)) Try.underlying3 ?_
  refine lnow 6 (.bool (decide (k > 9))) (some 27) ?_
  rw [show decide (k > 9) = true from decide_eq_true c2]
  refine lnow 7 (.bool true) (some 28) ?_
  refine lnow 8 (.bool true) (some 29) ?_
  refine lpas 9 (some 30) ?_
  refine lpas 10 (some 31) ?_
  refine lnow 11 (.bool true) (some 32) ?_
  refine lnow 12 (.bool true) (some 33) ?_
  refine lpas 13 (some 34) ?_
  refine lpas 14 (some 35) ?_
  refine lpas 15 (some 36) ?_
  refine lpas 16 (some 37) ?_
  refine lpas 17 (some 38) ?_
  refine lnow 18 (.bool true) (some 39) ?_
  refine lnow 19 (.bool true) (some 40) ?_
  refine lpas 20 (some 41) ?_
  refine lpas 21 (some 42) ?_
  refine lpas 22 (some 43) ?_
  refine lpas 23 (some 44) ?_
  refine lpas 24 (some 45) ?_
  refine lpas 25 (some 46) ?_
  refine lpas 26 (some 47) ?_
  refine lpas 27 (some 48) ?_
  refine lpas 28 (some 49) ?_
  refine lnow 29 (.bool true) (some 50) ?_
  refine lnow 30 (.bool true) (some 51) ?_
  refine lpas 31 (some 52) ?_
  refine lpas 32 (some 53) ?_
  refine lpas 33 (some 54) ?_
  refine lpas 34 (some 55) ?_
  refine lnow 35 (.bool true) (some 56) ?_
  refine ldn 36 ?_
  generalize hact : Act.put _ (some 56) _ = act
  simp only [Act.put, sA, sC, sZ] at hact
  subst hact
  go_wp2
  go_ret
  exact ⟨by rw [NO.out (fun h => by have := h.k9; omega)]; rfl, BE.out⟩
 by_cases c3 : deep > 200
 ·skip
  go_upto_region 2 with (fail)
  refine lbeg (opsOf Try.f73 2) ?_
  refine lnow 0 (.pointer (some ⟨q, 0, none⟩)) (some 21) ?_
  refine lcl 1 (.int .i64 k) (some 22) 3 21 (q) 0 (BQ.out.cell (by rw [← hCS.out]; rfl)) Try.underlying3 ?_
  refine lnow 2 (.bool (decide (k < 1))) (some 23) ?_
  rw [show decide (k < 1) = false from decide_eq_false c1]
  refine lnow 3 (.bool false) (some 24) ?_
  refine lnow 4 (.pointer (some ⟨q, 0, none⟩)) (some 25) ?_
  refine lcl 5 (.int .i64 k) (some 26) 3 25 (q) 0 (BQ.out.cell (by rw [← hCS.out]; rfl)) Try.underlying3 ?_
  refine lnow 6 (.bool (decide (k > 9))) (some 27) ?_
  rw [show decide (k > 9) = false from decide_eq_false c2]
  refine lnow 7 (.bool false) (some 28) ?_
  refine lnow 8 (.bool false) (some 29) ?_
  refine lnow 9 (.int .i64 deep) (some 30) ?_
  refine lnow 10 (.bool (decide (deep > 200))) (some 31) ?_
  rw [show decide (deep > 200) = true from decide_eq_true c3]
  refine lnow 11 (.bool true) (some 32) ?_
  refine lnow 12 (.bool true) (some 33) ?_
  refine lpas 13 (some 34) ?_
  refine lpas 14 (some 35) ?_
  refine lpas 15 (some 36) ?_
  refine lpas 16 (some 37) ?_
  refine lpas 17 (some 38) ?_
  refine lnow 18 (.bool true) (some 39) ?_
  refine lnow 19 (.bool true) (some 40) ?_
  refine lpas 20 (some 41) ?_
  refine lpas 21 (some 42) ?_
  refine lpas 22 (some 43) ?_
  refine lpas 23 (some 44) ?_
  refine lpas 24 (some 45) ?_
  refine lpas 25 (some 46) ?_
  refine lpas 26 (some 47) ?_
  refine lpas 27 (some 48) ?_
  refine lpas 28 (some 49) ?_
  refine lnow 29 (.bool true) (some 50) ?_
  refine lnow 30 (.bool true) (some 51) ?_
  refine lpas 31 (some 52) ?_
  refine lpas 32 (some 53) ?_
  refine lpas 33 (some 54) ?_
  refine lpas 34 (some 55) ?_
  refine lnow 35 (.bool true) (some 56) ?_
  refine ldn 36 ?_
  generalize hact : Act.put _ (some 56) _ = act
  simp only [Act.put, sA, sC, sZ] at hact
  subst hact
  go_wp2
  go_ret
  exact ⟨by rw [NO.out (fun h => by have := h.d2; omega)]; rfl, BE.out⟩
 by_cases c4 : (N : Int) = (A : Int)
 rotate_left
 ·skip
  go_upto_region 2 with (fail)
  refine lbeg (opsOf Try.f73 2) ?_
  refine lnow 0 (.pointer (some ⟨q, 0, none⟩)) (some 21) ?_
  refine lcl 1 (.int .i64 k) (some 22) 3 21 (q) 0 (BQ.out.cell (by rw [← hCS.out]; rfl)) Try.underlying3 ?_
  refine lnow 2 (.bool (decide (k < 1))) (some 23) ?_
  rw [show decide (k < 1) = false from decide_eq_false c1]
  refine lnow 3 (.bool false) (some 24) ?_
  refine lnow 4 (.pointer (some ⟨q, 0, none⟩)) (some 25) ?_
  refine lcl 5 (.int .i64 k) (some 26) 3 25 (q) 0 (BQ.out.cell (by rw [← hCS.out]; rfl)) Try.underlying3 ?_
  refine lnow 6 (.bool (decide (k > 9))) (some 27) ?_
  rw [show decide (k > 9) = false from decide_eq_false c2]
  refine lnow 7 (.bool false) (some 28) ?_
  refine lnow 8 (.bool false) (some 29) ?_
  refine lnow 9 (.int .i64 deep) (some 30) ?_
  refine lnow 10 (.bool (decide (deep > 200))) (some 31) ?_
  rw [show decide (deep > 200) = false from decide_eq_false c3]
  refine lnow 11 (.bool false) (some 32) ?_
  refine lnow 12 (.bool false) (some 33) ?_
  refine lnow 13 (.pointer (some ⟨q, 4, none⟩)) (some 34) ?_
  refine lcl 14 (.slice aa N ac) (some 35) 23 34 (q) 4 (BQ.out.cell (by rw [← hCS.out]; rfl)) Try.underlying23 ?_
  refine lnow 15 (.int .i64 (N : Int)) (some 36) ?_
  refine lnow 16 (.int .i64 (A : Int)) (some 37) ?_
  refine lnow 17 (.bool (!decide ((N : Int) = (A : Int)))) (some 38) ?_
  rw [show (!decide ((N : Int) = (A : Int))) = true by rw [decide_eq_false c4]; rfl]
  refine lnow 18 (.bool true) (some 39) ?_
  refine lnow 19 (.bool true) (some 40) ?_
  refine lpas 20 (some 41) ?_
  refine lpas 21 (some 42) ?_
  refine lpas 22 (some 43) ?_
  refine lpas 23 (some 44) ?_
  refine lpas 24 (some 45) ?_
  refine lpas 25 (some 46) ?_
  refine lpas 26 (some 47) ?_
  refine lpas 27 (some 48) ?_
  refine lpas 28 (some 49) ?_
  refine lnow 29 (.bool true) (some 50) ?_
  refine lnow 30 (.bool true) (some 51) ?_
  refine lpas 31 (some 52) ?_
  refine lpas 32 (some 53) ?_
  refine lpas 33 (some 54) ?_
  refine lpas 34 (some 55) ?_
  refine lnow 35 (.bool true) (some 56) ?_
  refine ldn 36 ?_
  generalize hact : Act.put _ (some 56) _ = act
  simp only [Act.put, sA, sC, sZ] at hact
  subst hact
  go_wp2
  go_ret
  exact ⟨by rw [NO.out (fun h => by have := h.args; rw [hN.out, hA.out] at this; omega)]; rfl, BE.out⟩
 have G0 : Hid (1 ≤ k ∧ k ≤ 9 ∧ deep ≤ 200 ∧ (N : Int) = A) := ⟨by omega, by omega, by omega, c4⟩
 by_cases n4 : k = 4
 ·skip
  have zz : z = -1 := by rw [← hz.out, n4]; rfl
  have c5 : ¬ z ≥ 0 := by omega
  by_cases c7 : (L : Int) > 4
  ·skip
   go_upto_region 2 with (fail)
   refine lbeg (opsOf Try.f73 2) ?_
   refine lnow 0 (.pointer (some ⟨q, 0, none⟩)) (some 21) ?_
   refine lcl 1 (.int .i64 k) (some 22) 3 21 (q) 0 (BQ.out.cell (by rw [← hCS.out]; rfl)) Try.underlying3 ?_
   refine lnow 2 (.bool (decide (k < 1))) (some 23) ?_
   rw [show decide (k < 1) = false from decide_eq_false c1]
   refine lnow 3 (.bool false) (some 24) ?_
   refine lnow 4 (.pointer (some ⟨q, 0, none⟩)) (some 25) ?_
   refine lcl 5 (.int .i64 k) (some 26) 3 25 (q) 0 (BQ.out.cell (by rw [← hCS.out]; rfl)) Try.underlying3 ?_
   refine lnow 6 (.bool (decide (k > 9))) (some 27) ?_
   rw [show decide (k > 9) = false from decide_eq_false c2]
   refine lnow 7 (.bool false) (some 28) ?_
   refine lnow 8 (.bool false) (some 29) ?_
   refine lnow 9 (.int .i64 deep) (some 30) ?_
   refine lnow 10 (.bool (decide (deep > 200))) (some 31) ?_
   rw [show decide (deep > 200) = false from decide_eq_false c3]
   refine lnow 11 (.bool false) (some 32) ?_
   refine lnow 12 (.bool false) (some 33) ?_
   refine lnow 13 (.pointer (some ⟨q, 4, none⟩)) (some 34) ?_
   refine lcl 14 (.slice aa N ac) (some 35) 23 34 (q) 4 (BQ.out.cell (by rw [← hCS.out]; rfl)) Try.underlying23 ?_
   refine lnow 15 (.int .i64 (N : Int)) (some 36) ?_
   refine lnow 16 (.int .i64 (A : Int)) (some 37) ?_
   refine lnow 17 (.bool (!decide ((N : Int) = (A : Int)))) (some 38) ?_
   rw [show (!decide ((N : Int) = (A : Int))) = false by rw [decide_eq_true c4]; rfl]
   refine lnow 18 (.bool false) (some 39) ?_
   refine lnow 19 (.bool false) (some 40) ?_
   refine lnow 20 (.int .i64 z) (some 41) ?_
   refine lnow 21 (.bool (decide (z ≥ 0))) (some 42) ?_
   rw [show decide (z ≥ 0) = false from decide_eq_false c5]
   refine lnow 22 (.bool false) (some 43) ?_
   refine lpas 23 (some 44) ?_
   refine lpas 24 (some 45) ?_
   refine lpas 25 (some 46) ?_
   refine lpas 26 (some 47) ?_
   refine lpas 27 (some 48) ?_
   refine lnow 28 (.bool false) (some 49) ?_
   refine lnow 29 (.bool false) (some 50) ?_
   refine lnow 30 (.bool false) (some 51) ?_
   refine lnow 31 (.pointer (some ⟨q, 3, none⟩)) (some 52) ?_
   refine lcl 32 (.slice la L lc) (some 53) 22 52 (q) 3 (BQ.out.cell (by rw [← hCS.out]; rfl)) Try.underlying22 ?_
   refine lnow 33 (.int .i64 (L : Int)) (some 54) ?_
   refine lnow 34 (.bool (decide ((L : Int) > 4))) (some 55) ?_
   rw [show decide ((L : Int) > 4) = true from decide_eq_true c7]
   refine lnow 35 (.bool true) (some 56) ?_
   refine ldn 36 ?_
   generalize hact : Act.put _ (some 56) _ = act
   simp only [Act.put, sA, sC, sZ] at hact
   subst hact
   go_wp2
   go_ret
   exact ⟨by rw [NO.out (fun h => by have := h.l4; rw [hL.out] at this; omega)]; rfl, BE.out⟩
  have G1 : Hid ((0 ≤ z → (L : Int) = z) ∧ L ≤ 4) := ⟨fun h => absurd h (by omega), by omega⟩
  go_upto_region 2 with (fail)
  refine lbeg (opsOf Try.f73 2) ?_
  refine lnow 0 (.pointer (some ⟨q, 0, none⟩)) (some 21) ?_
  refine lcl 1 (.int .i64 k) (some 22) 3 21 (q) 0 (BQ.out.cell (by rw [← hCS.out]; rfl)) Try.underlying3 ?_
  refine lnow 2 (.bool (decide (k < 1))) (some 23) ?_
  rw [show decide (k < 1) = false from decide_eq_false c1]
  refine lnow 3 (.bool false) (some 24) ?_
  refine lnow 4 (.pointer (some ⟨q, 0, none⟩)) (some 25) ?_
  refine lcl 5 (.int .i64 k) (some 26) 3 25 (q) 0 (BQ.out.cell (by rw [← hCS.out]; rfl)) Try.underlying3 ?_
  refine lnow 6 (.bool (decide (k > 9))) (some 27) ?_
  rw [show decide (k > 9) = false from decide_eq_false c2]
  refine lnow 7 (.bool false) (some 28) ?_
  refine lnow 8 (.bool false) (some 29) ?_
  refine lnow 9 (.int .i64 deep) (some 30) ?_
  refine lnow 10 (.bool (decide (deep > 200))) (some 31) ?_
  rw [show decide (deep > 200) = false from decide_eq_false c3]
  refine lnow 11 (.bool false) (some 32) ?_
  refine lnow 12 (.bool false) (some 33) ?_
  refine lnow 13 (.pointer (some ⟨q, 4, none⟩)) (some 34) ?_
  refine lcl 14 (.slice aa N ac) (some 35) 23 34 (q) 4 (BQ.out.cell (by rw [← hCS.out]; rfl)) Try.underlying23 ?_
  refine lnow 15 (.int .i64 (N : Int)) (some 36) ?_
  refine lnow 16 (.int .i64 (A : Int)) (some 37) ?_
  refine lnow 17 (.bool (!decide ((N : Int) = (A : Int)))) (some 38) ?_
  rw [show (!decide ((N : Int) = (A : Int))) = false by rw [decide_eq_true c4]; rfl]
  refine lnow 18 (.bool false) (some 39) ?_
  refine lnow 19 (.bool false) (some 40) ?_
  refine lnow 20 (.int .i64 z) (some 41) ?_
  refine lnow 21 (.bool (decide (z ≥ 0))) (some 42) ?_
  rw [show decide (z ≥ 0) = false from decide_eq_false c5]
  refine lnow 22 (.bool false) (some 43) ?_
  refine lpas 23 (some 44) ?_
  refine lpas 24 (some 45) ?_
  refine lpas 25 (some 46) ?_
  refine lpas 26 (some 47) ?_
  refine lpas 27 (some 48) ?_
  refine lnow 28 (.bool false) (some 49) ?_
  refine lnow 29 (.bool false) (some 50) ?_
  refine lnow 30 (.bool false) (some 51) ?_
  refine lnow 31 (.pointer (some ⟨q, 3, none⟩)) (some 52) ?_
  refine lcl 32 (.slice la L lc) (some 53) 22 52 (q) 3 (BQ.out.cell (by rw [← hCS.out]; rfl)) Try.underlying22 ?_
  refine lnow 33 (.int .i64 (L : Int)) (some 54) ?_
  refine lnow 34 (.bool (decide ((L : Int) > 4))) (some 55) ?_
  rw [show decide ((L : Int) > 4) = false from decide_eq_false c7]
  refine lnow 35 (.bool false) (some 56) ?_
  refine ldn 36 ?_
  generalize hact : Act.put _ (some 56) _ = act
  simp only [Act.put, sA, sC, sZ] at hact
  subst hact
  clear c1 c2 c3 c4 c5 c7
  go_upto_region 4 with (fail)
  refine lbeg (opsOf Try.f73 4) ?_
  refine lnow 0 (.int .i64 0) (some 11) ?_
  refine ldn 1 ?_
  generalize hact : Act.put _ (some 11) _ = act
  simp only [Act.put, sA, sC, sZ] at hact
  subst hact
  go_wp2
  go_loopw [11] (fun iv wr => ∃ i : Nat, i ≤ L ∧ iv = .int .i64 (i : Int) ∧ Hid (∀ x ∈ ls.take i, rightL x = true ∧ (widthL x : Int) ≤ p) ∧ Hid (Blk wr q 25 CS) ∧ Hid (Below w.heap.size w wr)) (fun iv _ => L - (intOf iv).toNat)
  case atStart => exact ⟨0, Nat.zero_le _, rfl, fun x hx => by simp at hx, BQ, BE⟩
  case round =>
   obtain ⟨i, hi, rfl, AL, BQ, BE⟩ := hrel
   by_cases hlt : i < L
   rotate_left
   ·skip
    have cl : ¬ (i : Int) < (L : Int) := by omega
    have AL : Hid (∀ x ∈ ls, rightL x = true ∧ (widthL x : Int) ≤ p) := by have h := AL.out; rw [List.take_of_length_le (by have := hL.out; omega)] at h; exact h
    go_upto_region 5 with (fail)
    refine lbeg (opsOf Try.f73 5) ?_
    refine lnow 0 (.int .i64 (i : Int)) (some 57) ?_
    refine lnow 1 (.pointer (some ⟨q, 3, none⟩)) (some 58) ?_
    refine lcl 2 (.slice la L lc) (some 59) 22 58 (q) 3 (BQ.out.cell (by rw [← hCS.out]; rfl)) Try.underlying22 ?_
    refine lnow 3 (.int .i64 (L : Int)) (some 60) ?_
    refine lnow 4 (.bool (decide ((i : Int) < (L : Int)))) (some 61) ?_
    rw [show decide ((i : Int) < (L : Int)) = false from decide_eq_false cl]
    refine ldn 5 ?_
    generalize hact : Act.put _ (some 61) _ = act
    simp only [Act.put, sA, sC, sZ] at hact
    subst hact
    clear hi hlt cl
    ·skip
     have KN : Hid (k = 4 ∨ k = 9) := .inl n4
     go_upto_region 9 with (fail)
     refine lbeg (opsOf Try.f73 9) ?_
     refine lnow 0 (.pointer (some ⟨q, 0, none⟩)) (some 81) ?_
     refine lcl 1 (.int .i64 k) (some 82) 3 81 (q) 0 (BQ.out.cell (by rw [← hCS.out]; rfl)) Try.underlying3 ?_
     refine lnowP 2 (.bool true) (some 83) (exec_eqli_yes n4 (by kernel_rfl)) ?_
     refine lnow 3 (.bool true) (some 84) ?_
     refine lpas 4 (some 85) ?_
     refine lpas 5 (some 86) ?_
     refine lpas 6 (some 87) ?_
     refine lnow 7 (.bool true) (some 88) ?_
     refine lnow 8 (.bool true) (some 12) ?_
     refine ldn 9 ?_
     generalize hact : Act.put _ (some 12) _ = act
     simp only [Act.put, sA, sC, sZ] at hact
     subst hact
     have WW := rword_walk s (by have := SN.out; omega) wr
     obtain ⟨wb, hwb⟩ : ∃ y, Hid (wordB s = y) := ⟨_, rfl⟩
     rw [hwb.out] at WW
     cases wb
     ·skip
      go_upto_region 10 with (fail)
      refine lbeg (opsOf Try.f73 10) ?_
      refine lnow 0 (.bool true) (some 89) ?_
      refine lnow 1 (.bool true) (some 90) ?_
      refine lnow 2 (.pointer (some ⟨q, 2, none⟩)) (some 91) ?_
      refine lcl 3 (strT s) (some 92) 9 91 (q) 2 (BQ.out.cell (by rw [← hCS.out]; rfl)) Try.underlying9 ?_
      refine lcal 4 46 #[strT s] (some 93) _ (WW) ?_
      rintro e w2 ⟨rfl, hb⟩
      refine ⟨_, rfl, ?_⟩
      have BE2 : Hid (Below w.heap.size w w2) := BE.out.trans (hb.mono BE.out.size)
      have BQ2 : Hid (Blk w2 q 25 CS) := BQ.out.below hb BQ.out.lt
      clear hb
      refine lnow 5 (.bool true) (some 94) ?_
      refine lnow 6 (.bool true) (some 95) ?_
      refine lnow 7 (.bool true) (some 96) ?_
      refine lpas 8 (some 97) ?_
      refine lpas 9 (some 98) ?_
      refine lpas 10 (some 99) ?_
      refine lpas 11 (some 100) ?_
      refine lpas 12 (some 101) ?_
      refine lpas 13 (some 102) ?_
      refine lpas 14 (some 103) ?_
      refine lnow 15 (.bool true) (some 104) ?_
      refine lnow 16 (.bool true) (some 105) ?_
      refine lpas 17 (some 106) ?_
      refine lpas 18 (some 107) ?_
      refine lpas 19 (some 108) ?_
      refine lnow 20 (.bool true) (some 109) ?_
      refine ldn 21 ?_
      generalize hact : Act.put _ (some 109) _ = act
      simp only [Act.put, sA, sC, sZ] at hact
      subst hact
      go_wp2
      go_ret
      exact ⟨by rw [NO.out (fun h => by have := h.nm KN.out; rw [hwb.out] at this; cases this)]; rfl, BE2.out⟩
     have NM : Hid (((k = 4 ∨ k = 9) → wordB s = true) ∧ (¬ (k = 4 ∨ k = 9) → s = [])) := ⟨fun _ => hwb.out, fun h => absurd KN.out h⟩
     by_cases hn : n < 0
     ·skip
      go_upto_region 10 with (fail)
      refine lbeg (opsOf Try.f73 10) ?_
      refine lnow 0 (.bool true) (some 89) ?_
      refine lnow 1 (.bool true) (some 90) ?_
      refine lnow 2 (.pointer (some ⟨q, 2, none⟩)) (some 91) ?_
      refine lcl 3 (strT s) (some 92) 9 91 (q) 2 (BQ.out.cell (by rw [← hCS.out]; rfl)) Try.underlying9 ?_
      refine lcal 4 46 #[strT s] (some 93) _ (WW) ?_
      rintro e w2 ⟨rfl, hb⟩
      refine ⟨_, rfl, ?_⟩
      have BE2 : Hid (Below w.heap.size w w2) := BE.out.trans (hb.mono BE.out.size)
      have BQ2 : Hid (Blk w2 q 25 CS) := BQ.out.below hb BQ.out.lt
      clear hb
      refine lnow 5 (.bool false) (some 94) ?_
      refine lnow 6 (.bool false) (some 95) ?_
      refine lnow 7 (.bool false) (some 96) ?_
      refine lnow 8 (.bool true) (some 97) ?_
      refine lnow 9 (.bool false) (some 98) ?_
      refine lnow 10 (.bool false) (some 99) ?_
      refine lpas 11 (some 100) ?_
      refine lpas 12 (some 101) ?_
      refine lpas 13 (some 102) ?_
      refine lnow 14 (.bool false) (some 103) ?_
      refine lnow 15 (.bool false) (some 104) ?_
      refine lnow 16 (.bool false) (some 105) ?_
      refine lnow 17 (.pointer (some ⟨q, 1, none⟩)) (some 106) ?_
      refine lcl 18 (.int .i64 n) (some 107) 3 106 (q) 1 (BQ2.out.cell (by rw [← hCS.out]; rfl)) Try.underlying3 ?_
      refine lnow 19 (.bool (decide (n < 0))) (some 108) ?_
      rw [show decide (n < 0) = true from decide_eq_true hn]
      refine lnow 20 (.bool true) (some 109) ?_
      refine ldn 21 ?_
      generalize hact : Act.put _ (some 109) _ = act
      simp only [Act.put, sA, sC, sZ] at hact
      subst hact
      go_wp2
      go_ret
      exact ⟨by rw [NO.out (fun h => by have := h.n0; omega)]; rfl, BE2.out⟩
     go_upto_region 10 with (fail)
     refine lbeg (opsOf Try.f73 10) ?_
     refine lnow 0 (.bool true) (some 89) ?_
     refine lnow 1 (.bool true) (some 90) ?_
     refine lnow 2 (.pointer (some ⟨q, 2, none⟩)) (some 91) ?_
     refine lcl 3 (strT s) (some 92) 9 91 (q) 2 (BQ.out.cell (by rw [← hCS.out]; rfl)) Try.underlying9 ?_
     refine lcal 4 46 #[strT s] (some 93) _ (WW) ?_
     rintro e w2 ⟨rfl, hb⟩
     refine ⟨_, rfl, ?_⟩
     have BE2 : Hid (Below w.heap.size w w2) := BE.out.trans (hb.mono BE.out.size)
     have BQ2 : Hid (Blk w2 q 25 CS) := BQ.out.below hb BQ.out.lt
     clear hb
     refine lnow 5 (.bool false) (some 94) ?_
     refine lnow 6 (.bool false) (some 95) ?_
     refine lnow 7 (.bool false) (some 96) ?_
     refine lnow 8 (.bool true) (some 97) ?_
     refine lnow 9 (.bool false) (some 98) ?_
     refine lnow 10 (.bool false) (some 99) ?_
     refine lpas 11 (some 100) ?_
     refine lpas 12 (some 101) ?_
     refine lpas 13 (some 102) ?_
     refine lnow 14 (.bool false) (some 103) ?_
     refine lnow 15 (.bool false) (some 104) ?_
     refine lnow 16 (.bool false) (some 105) ?_
     refine lnow 17 (.pointer (some ⟨q, 1, none⟩)) (some 106) ?_
     refine lcl 18 (.int .i64 n) (some 107) 3 106 (q) 1 (BQ2.out.cell (by rw [← hCS.out]; rfl)) Try.underlying3 ?_
     refine lnow 19 (.bool (decide (n < 0))) (some 108) ?_
     rw [show decide (n < 0) = false from decide_eq_false hn]
     refine lnow 20 (.bool false) (some 109) ?_
     refine ldn 21 ?_
     generalize hact : Act.put _ (some 109) _ = act
     simp only [Act.put, sA, sC, sZ] at hact
     subst hact
     clear BQ BE hwb WW
     clear KN
     have n1 : ¬ k = 1 := by omega
     have n9 : ¬ k = 9 := by omega
     by_cases hb : n = 0
     rotate_left
     ·skip
      go_upto_region 12 with (fail)
      refine lbeg (opsOf Try.f73 12) ?_
      refine lnow 0 (.pointer (some ⟨q, 0, none⟩)) (some 110) ?_
      refine lcl 1 (.int .i64 k) (some 111) 3 110 (q) 0 (BQ2.out.cell (by rw [← hCS.out]; rfl)) Try.underlying3 ?_
      refine lnowP 2 (.bool false) (some 112) (exec_eqli n1 (by kernel_rfl)) ?_
      refine lnow 3 (.bool false) (some 113) ?_
      refine lpas 4 (some 114) ?_
      refine lpas 5 (some 115) ?_
      refine lpas 6 (some 116) ?_
      refine lpas 7 (some 117) ?_
      refine lnow 8 (.bool false) (some 118) ?_
      refine lnow 9 (.bool false) (some 119) ?_
      refine lnow 10 (.pointer (some ⟨q, 0, none⟩)) (some 120) ?_
      refine lcl 11 (.int .i64 k) (some 121) 3 120 (q) 0 (BQ2.out.cell (by rw [← hCS.out]; rfl)) Try.underlying3 ?_
      refine lnowP 12 (.bool false) (some 122) (exec_eqli n9 (by kernel_rfl)) ?_
      refine lnow 13 (.bool false) (some 123) ?_
      refine lpas 14 (some 124) ?_
      refine lpas 15 (some 125) ?_
      refine lpas 16 (some 126) ?_
      refine lnow 17 (.bool false) (some 127) ?_
      refine lnow 18 (.bool false) (some 128) ?_
      refine lnow 19 (.bool false) (some 129) ?_
      refine lnow 20 (.pointer (some ⟨q, 0, none⟩)) (some 130) ?_
      refine lcl 21 (.int .i64 k) (some 131) 3 130 (q) 0 (BQ2.out.cell (by rw [← hCS.out]; rfl)) Try.underlying3 ?_
      refine lnow 22 (.bool (!decide (k = 1))) (some 132) ?_
      rw [show (!decide (k = 1)) = true by rw [decide_eq_false n1]; rfl]
      refine lnow 23 (.bool true) (some 133) ?_
      refine lnow 24 (.pointer (some ⟨q, 0, none⟩)) (some 134) ?_
      refine lcl 25 (.int .i64 k) (some 135) 3 134 (q) 0 (BQ2.out.cell (by rw [← hCS.out]; rfl)) Try.underlying3 ?_
      refine lnow 26 (.bool (!decide (k = 9))) (some 136) ?_
      rw [show (!decide (k = 9)) = true by rw [decide_eq_false n9]; rfl]
      refine lnow 27 (.bool true) (some 137) ?_
      refine lnow 28 (.bool true) (some 138) ?_
      refine lnow 29 (.pointer (some ⟨q, 1, none⟩)) (some 139) ?_
      refine lcl 30 (.int .i64 n) (some 140) 3 139 (q) 1 (BQ2.out.cell (by rw [← hCS.out]; rfl)) Try.underlying3 ?_
      refine lnow 31 (.bool (!decide (n = 0))) (some 141) ?_
      rw [show (!decide (n = 0)) = true by rw [decide_eq_false hb]; rfl]
      refine lnow 32 (.bool true) (some 142) ?_
      refine lnow 33 (.bool true) (some 143) ?_
      refine ldn 34 ?_
      generalize hact : Act.put _ (some 143) _ = act
      simp only [Act.put, sA, sC, sZ] at hact
      subst hact
      go_wp2
      go_ret
      exact ⟨by rw [NO.out (fun h => by have := h.nz n1 n9; omega)]; rfl, BE2.out⟩
     have NN : Hid (0 ≤ n ∧ (k = 1 → n < v) ∧ (k = 9 → n ≤ 31) ∧ (k ≠ 1 → k ≠ 9 → n = 0)) := by rw [Hid]; omega
     go_upto_region 12 with (fail)
     refine lbeg (opsOf Try.f73 12) ?_
     refine lnow 0 (.pointer (some ⟨q, 0, none⟩)) (some 110) ?_
     refine lcl 1 (.int .i64 k) (some 111) 3 110 (q) 0 (BQ2.out.cell (by rw [← hCS.out]; rfl)) Try.underlying3 ?_
     refine lnowP 2 (.bool false) (some 112) (exec_eqli n1 (by kernel_rfl)) ?_
     refine lnow 3 (.bool false) (some 113) ?_
     refine lpas 4 (some 114) ?_
     refine lpas 5 (some 115) ?_
     refine lpas 6 (some 116) ?_
     refine lpas 7 (some 117) ?_
     refine lnow 8 (.bool false) (some 118) ?_
     refine lnow 9 (.bool false) (some 119) ?_
     refine lnow 10 (.pointer (some ⟨q, 0, none⟩)) (some 120) ?_
     refine lcl 11 (.int .i64 k) (some 121) 3 120 (q) 0 (BQ2.out.cell (by rw [← hCS.out]; rfl)) Try.underlying3 ?_
     refine lnowP 12 (.bool false) (some 122) (exec_eqli n9 (by kernel_rfl)) ?_
     refine lnow 13 (.bool false) (some 123) ?_
     refine lpas 14 (some 124) ?_
     refine lpas 15 (some 125) ?_
     refine lpas 16 (some 126) ?_
     refine lnow 17 (.bool false) (some 127) ?_
     refine lnow 18 (.bool false) (some 128) ?_
     refine lnow 19 (.bool false) (some 129) ?_
     refine lnow 20 (.pointer (some ⟨q, 0, none⟩)) (some 130) ?_
     refine lcl 21 (.int .i64 k) (some 131) 3 130 (q) 0 (BQ2.out.cell (by rw [← hCS.out]; rfl)) Try.underlying3 ?_
     refine lnow 22 (.bool (!decide (k = 1))) (some 132) ?_
     rw [show (!decide (k = 1)) = true by rw [decide_eq_false n1]; rfl]
     refine lnow 23 (.bool true) (some 133) ?_
     refine lnow 24 (.pointer (some ⟨q, 0, none⟩)) (some 134) ?_
     refine lcl 25 (.int .i64 k) (some 135) 3 134 (q) 0 (BQ2.out.cell (by rw [← hCS.out]; rfl)) Try.underlying3 ?_
     refine lnow 26 (.bool (!decide (k = 9))) (some 136) ?_
     rw [show (!decide (k = 9)) = true by rw [decide_eq_false n9]; rfl]
     refine lnow 27 (.bool true) (some 137) ?_
     refine lnow 28 (.bool true) (some 138) ?_
     refine lnow 29 (.pointer (some ⟨q, 1, none⟩)) (some 139) ?_
     refine lcl 30 (.int .i64 n) (some 140) 3 139 (q) 1 (BQ2.out.cell (by rw [← hCS.out]; rfl)) Try.underlying3 ?_
     refine lnow 31 (.bool (!decide (n = 0))) (some 141) ?_
     rw [show (!decide (n = 0)) = false by rw [decide_eq_true hb]; rfl]
     refine lnow 32 (.bool false) (some 142) ?_
     refine lnow 33 (.bool false) (some 143) ?_
     refine ldn 34 ?_
     generalize hact : Act.put _ (some 143) _ = act
     simp only [Act.put, sA, sC, sZ] at hact
     subst hact
     clear hb hn
     have BQ := BQ2
     have BE := BE2
     clear BQ2 BE2
     go_upto_region 14 with (fail)
     refine lbeg (opsOf Try.f73 14) ?_
     refine lnow 0 (.int .i64 0) (some 13) ?_
     refine ldn 1 ?_
     generalize hact : Act.put _ (some 13) _ = act
     simp only [Act.put, sA, sC, sZ] at hact
     subst hact
     go_wp2
     go_loopw [13] (fun iv wr => ∃ i : Nat, i ≤ N ∧ iv = .int .i64 (i : Int) ∧ Hid (∀ (j : Nat) (x : Tm), j < i → a[j]? = some x → rightT wordB p (v + moreT k j) (deep + moreT k j) x = true) ∧ Hid (Blk wr q 25 CS) ∧ Hid (Below w.heap.size w wr)) (fun iv _ => N - (intOf iv).toNat)
     case atStart => exact ⟨0, Nat.zero_le _, rfl, fun j x hj => absurd hj (Nat.not_lt_zero _), BQ, BE⟩
     case round =>
      obtain ⟨i, hi, rfl, AL2, BQ, BE⟩ := hrel
      by_cases hlt : i < N
      rotate_left
      ·skip
       have cl : ¬ (i : Int) < (N : Int) := by omega
       go_upto_region 15 with (fail)
       refine lbeg (opsOf Try.f73 15) ?_
       refine lnow 0 (.int .i64 (i : Int)) (some 144) ?_
       refine lnow 1 (.pointer (some ⟨q, 4, none⟩)) (some 145) ?_
       refine lcl 2 (.slice aa N ac) (some 146) 23 145 (q) 4 (BQ.out.cell (by rw [← hCS.out]; rfl)) Try.underlying23 ?_
       refine lnow 3 (.int .i64 (N : Int)) (some 147) ?_
       refine lnow 4 (.bool (decide ((i : Int) < (N : Int)))) (some 148) ?_
       rw [show decide ((i : Int) < (N : Int)) = false from decide_eq_false cl]
       refine ldn 5 ?_
       generalize hact : Act.put _ (some 148) _ = act
       simp only [Act.put, sA, sC, sZ] at hact
       subst hact
       have FIN : Hid (R = true) := YES.out ⟨G0.out.1, G0.out.2.1, G0.out.2.2.1, by rw [hN.out, hA.out]; have := G0.out.2.2.2; omega, by rw [hL.out, hz.out]; exact G1.out.1, by rw [hL.out]; exact G1.out.2, AL.out, NM.out.1, NM.out.2, NN.out.1, NN.out.2.1, NN.out.2.2.1, NN.out.2.2.2, (rights_at a 0).2 (fun j x hx => by
        rw [Nat.zero_add]
        exact AL2.out j x (by have h1 := (List.getElem?_eq_some_iff.1 hx).1; have h2 := hN.out; omega) hx)⟩
       go_upto_region 22 with (fail)
       refine lbeg (opsOf Try.f73 22) ?_
       refine lnow 0 (.bool true) (some 8) ?_
       refine ldn 1 ?_
       generalize hact : Act.put _ (some 8) _ = act
       simp only [Act.put, sA, sC, sZ] at hact
       subst hact
       go_wp2
       go_ret
       exact ⟨by rw [FIN.out]; rfl, BE.out⟩
      have cl : (i : Int) < (N : Int) := by omega
      have H2r : TmsAt F wr a (.slice aa N ac) := H2.out.below BE.out
      obtain ⟨x, pb, po, cx, hx, hxm, haa, -, -, -, hrx, htx⟩ := H2r.get hN.out hlt
      subst haa
      have SX := SmTs.mem SS.out hxm
      have HX := Lib.hid hx
      have HRX := Lib.hid hrx
      have X5 := Lib.hid htx.len
      have XM := Lib.hid hxm
      obtain ⟨m, hm⟩ : ∃ m, Hid (moreT k i = m) := ⟨_, rfl⟩
      have hm01 : 0 ≤ m ∧ m ≤ 1 := by have := more_01 k i; rw [hm.out] at this; exact this
      have CALL := fun w1 (hb1 : Below wr.heap.size wr w1) => IH.out x XM.out cx w1 p (v + m) (deep + m) F (htx.below hb1) SX hp (by have := G0.out; omega) (by omega)
      obtain ⟨rx, hrxx⟩ : ∃ y, Hid (rightT wordB p (v + m) (deep + m) x = y) := ⟨_, rfl⟩
      rw [hrxx.out] at CALL
      clear H2r hx hxm hrx htx SX
      have BW := binds_walk k i
      have hmb : (decide (((k = 6 ∨ k = 7) ∧ (i : Int) = 1) ∨ (k = 8 ∧ (i : Int) = 2))) = decide (m = 1) := by
       rw [← hm.out, decide_eq_decide]
       unfold moreT
       split <;> omega
      rw [hmb] at BW
      clear hmb
      go_upto_region 15 with (fail)
      refine lbeg (opsOf Try.f73 15) ?_
      refine lnow 0 (.int .i64 (i : Int)) (some 144) ?_
      refine lnow 1 (.pointer (some ⟨q, 4, none⟩)) (some 145) ?_
      refine lcl 2 (.slice (some ⟨pb, po, none⟩) N ac) (some 146) 23 145 (q) 4 (BQ.out.cell (by rw [← hCS.out]; rfl)) Try.underlying23 ?_
      refine lnow 3 (.int .i64 (N : Int)) (some 147) ?_
      refine lnow 4 (.bool (decide ((i : Int) < (N : Int)))) (some 148) ?_
      rw [show decide ((i : Int) < (N : Int)) = true from decide_eq_true cl]
      refine ldn 5 ?_
      generalize hact : Act.put _ (some 148) _ = act
      simp only [Act.put, sA, sC, sZ] at hact
      subst hact
      go_upto_region 17 with (fail)
      refine lbeg (opsOf Try.f73 17) ?_
      refine lnow 0 (.int .i64 0) (some 14) ?_
      refine ldn 1 ?_
      generalize hact : Act.put _ (some 14) _ = act
      simp only [Act.put, sA, sC, sZ] at hact
      subst hact
      by_cases hm1 : m = 1
      ·skip
       go_upto_region 18 with (fail)
       refine lbeg (opsOf Try.f73 18) ?_
       refine lnow 0 (.pointer (some ⟨q, 0, none⟩)) (some 151) ?_
       refine lcl 1 (.int .i64 k) (some 152) 3 151 (q) 0 (BQ.out.cell (by rw [← hCS.out]; rfl)) Try.underlying3 ?_
       refine lnow 2 (.int .i64 (i : Int)) (some 153) ?_
       refine lcal 3 96 #[.int .i64 k, .int .i64 (i : Int)] (some 154) _ (BW wr) ?_
       rintro e w' ⟨rfl, hw'⟩
       obtain rfl := hw'.symm
       refine ⟨_, rfl, ?_⟩
       rw [show decide (m = 1) = true from decide_eq_true hm1]
       refine ldn 4 ?_
       generalize hact : Act.put _ (some 154) _ = act
       simp only [Act.put, sA, sC, sZ] at hact
       subst hact
       clear BW
       go_upto_region 19 with (fail)
       refine lbeg (opsOf Try.f73 19) ?_
       refine lnow 0 (.int .i64 1) (some 14) ?_
       refine ldn 1 ?_
       generalize hact : Act.put _ (some 14) _ = act
       simp only [Act.put, sA, sC, sZ] at hact
       subst hact
       cases rx
       ·skip
        go_upto_region 20 with (fail)
        refine lbeg (opsOf Try.f73 20) ?_
        refine lnow 0 (.pointer (some ⟨q, 4, none⟩)) (some 155) ?_
        refine lcl 1 (.slice (some ⟨pb, po, none⟩) N ac) (some 156) 23 155 (q) 4 (BQ.out.cell (by rw [← hCS.out]; rfl)) Try.underlying23 ?_
        refine lnow 2 (.int .i64 (i : Int)) (some 157) ?_
        refine lix 3 (.pointer (some ⟨pb, po + 5 * i, none⟩)) (some 158) 23 156 157 (run_at_tm pb po N ac i hlt _) ?_
        refine lrl 4 cx (some 159) 25 158 pb (po + 5 * i) HRX.out Try.underlying25 (t5Size X5.out) ?_
        refine lnow 5 (.int .i64 p) (some 160) ?_
        refine lnow 6 (.int .i64 v) (some 161) ?_
        refine lnow 7 (.int .i64 1) (some 162) ?_
        refine lnow 8 (.int .i64 (IntKind.i64.wrap (v + 1))) (some 163) ?_
        rw [show IntKind.i64.wrap (v + 1) = v + m by rw [IntWalk.i64_in _ (by have := G0.out; omega)]; omega]
        refine lnow 9 (.int .i64 deep) (some 164) ?_
        refine lnow 10 (.int .i64 1) (some 165) ?_
        refine lnow 11 (.int .i64 (IntKind.i64.wrap (deep + 1))) (some 166) ?_
        rw [show IntKind.i64.wrap (deep + 1) = deep + m by rw [IntWalk.i64_in _ (by have := G0.out; omega)]; omega]
        refine lcal 12 73 #[.agg cx.toArray, .int .i64 p, .int .i64 (v + m), .int .i64 (deep + m)] (some 167) _ (CALL wr (Below.refl _ _)) ?_
        rintro e w2 ⟨rfl, hb⟩
        refine ⟨_, rfl, ?_⟩
        have BE2 : Hid (Below w.heap.size w w2) := BE.out.trans (hb.mono BE.out.size)
        have BQ2 : Hid (Blk w2 q 25 CS) := BQ.out.below hb BQ.out.lt
        clear hb CALL
        refine lnow 13 (.bool true) (some 168) ?_
        refine ldn 14 ?_
        generalize hact : Act.put _ (some 168) _ = act
        simp only [Act.put, sA, sC, sZ] at hact
        subst hact
        go_wp2
        go_ret
        exact ⟨by rw [NO.out (fun h => by have h1 := (rights_at a 0).1 h.parts i x HX.out; rw [Nat.zero_add, hm.out, hrxx.out] at h1; cases h1)]; rfl, BE2.out⟩
       ·skip
        go_upto_region 20 with (fail)
        refine lbeg (opsOf Try.f73 20) ?_
        refine lnow 0 (.pointer (some ⟨q, 4, none⟩)) (some 155) ?_
        refine lcl 1 (.slice (some ⟨pb, po, none⟩) N ac) (some 156) 23 155 (q) 4 (BQ.out.cell (by rw [← hCS.out]; rfl)) Try.underlying23 ?_
        refine lnow 2 (.int .i64 (i : Int)) (some 157) ?_
        refine lix 3 (.pointer (some ⟨pb, po + 5 * i, none⟩)) (some 158) 23 156 157 (run_at_tm pb po N ac i hlt _) ?_
        refine lrl 4 cx (some 159) 25 158 pb (po + 5 * i) HRX.out Try.underlying25 (t5Size X5.out) ?_
        refine lnow 5 (.int .i64 p) (some 160) ?_
        refine lnow 6 (.int .i64 v) (some 161) ?_
        refine lnow 7 (.int .i64 1) (some 162) ?_
        refine lnow 8 (.int .i64 (IntKind.i64.wrap (v + 1))) (some 163) ?_
        rw [show IntKind.i64.wrap (v + 1) = v + m by rw [IntWalk.i64_in _ (by have := G0.out; omega)]; omega]
        refine lnow 9 (.int .i64 deep) (some 164) ?_
        refine lnow 10 (.int .i64 1) (some 165) ?_
        refine lnow 11 (.int .i64 (IntKind.i64.wrap (deep + 1))) (some 166) ?_
        rw [show IntKind.i64.wrap (deep + 1) = deep + m by rw [IntWalk.i64_in _ (by have := G0.out; omega)]; omega]
        refine lcal 12 73 #[.agg cx.toArray, .int .i64 p, .int .i64 (v + m), .int .i64 (deep + m)] (some 167) _ (CALL wr (Below.refl _ _)) ?_
        rintro e w2 ⟨rfl, hb⟩
        refine ⟨_, rfl, ?_⟩
        have BE2 : Hid (Below w.heap.size w w2) := BE.out.trans (hb.mono BE.out.size)
        have BQ2 : Hid (Blk w2 q 25 CS) := BQ.out.below hb BQ.out.lt
        clear hb CALL
        refine lnow 13 (.bool false) (some 168) ?_
        refine ldn 14 ?_
        generalize hact : Act.put _ (some 168) _ = act
        simp only [Act.put, sA, sC, sZ] at hact
        subst hact
        have NX : Hid (∀ (j : Nat) (y : Tm), j < i + 1 → a[j]? = some y → rightT wordB p (v + moreT k j) (deep + moreT k j) y = true) := fun j y hj hy => by
         by_cases e : j = i
         ·subst e; rw [HX.out] at hy; cases hy; rw [hm.out]; exact hrxx.out
         ·exact AL2.out j y (by omega) hy
        clear AL2 HX HRX X5 XM hm hrxx BQ BE hm01
        have bl := sa
        go_wp2
        go_roundw
        case rel => exact ⟨i + 1, by omega, by go_num, NX, BQ2, BE2⟩
        case measure => simp [intOf]; omega
      ·skip
       go_upto_region 18 with (fail)
       refine lbeg (opsOf Try.f73 18) ?_
       refine lnow 0 (.pointer (some ⟨q, 0, none⟩)) (some 151) ?_
       refine lcl 1 (.int .i64 k) (some 152) 3 151 (q) 0 (BQ.out.cell (by rw [← hCS.out]; rfl)) Try.underlying3 ?_
       refine lnow 2 (.int .i64 (i : Int)) (some 153) ?_
       refine lcal 3 96 #[.int .i64 k, .int .i64 (i : Int)] (some 154) _ (BW wr) ?_
       rintro e w' ⟨rfl, hw'⟩
       obtain rfl := hw'.symm
       refine ⟨_, rfl, ?_⟩
       rw [show decide (m = 1) = false from decide_eq_false hm1]
       refine ldn 4 ?_
       generalize hact : Act.put _ (some 154) _ = act
       simp only [Act.put, sA, sC, sZ] at hact
       subst hact
       clear BW
       cases rx
       ·skip
        go_upto_region 20 with (fail)
        refine lbeg (opsOf Try.f73 20) ?_
        refine lnow 0 (.pointer (some ⟨q, 4, none⟩)) (some 155) ?_
        refine lcl 1 (.slice (some ⟨pb, po, none⟩) N ac) (some 156) 23 155 (q) 4 (BQ.out.cell (by rw [← hCS.out]; rfl)) Try.underlying23 ?_
        refine lnow 2 (.int .i64 (i : Int)) (some 157) ?_
        refine lix 3 (.pointer (some ⟨pb, po + 5 * i, none⟩)) (some 158) 23 156 157 (run_at_tm pb po N ac i hlt _) ?_
        refine lrl 4 cx (some 159) 25 158 pb (po + 5 * i) HRX.out Try.underlying25 (t5Size X5.out) ?_
        refine lnow 5 (.int .i64 p) (some 160) ?_
        refine lnow 6 (.int .i64 v) (some 161) ?_
        refine lnow 7 (.int .i64 0) (some 162) ?_
        refine lnow 8 (.int .i64 (IntKind.i64.wrap (v + 0))) (some 163) ?_
        rw [show IntKind.i64.wrap (v + 0) = v + m by rw [IntWalk.i64_in _ (by have := G0.out; omega)]; omega]
        refine lnow 9 (.int .i64 deep) (some 164) ?_
        refine lnow 10 (.int .i64 0) (some 165) ?_
        refine lnow 11 (.int .i64 (IntKind.i64.wrap (deep + 0))) (some 166) ?_
        rw [show IntKind.i64.wrap (deep + 0) = deep + m by rw [IntWalk.i64_in _ (by have := G0.out; omega)]; omega]
        refine lcal 12 73 #[.agg cx.toArray, .int .i64 p, .int .i64 (v + m), .int .i64 (deep + m)] (some 167) _ (CALL wr (Below.refl _ _)) ?_
        rintro e w2 ⟨rfl, hb⟩
        refine ⟨_, rfl, ?_⟩
        have BE2 : Hid (Below w.heap.size w w2) := BE.out.trans (hb.mono BE.out.size)
        have BQ2 : Hid (Blk w2 q 25 CS) := BQ.out.below hb BQ.out.lt
        clear hb CALL
        refine lnow 13 (.bool true) (some 168) ?_
        refine ldn 14 ?_
        generalize hact : Act.put _ (some 168) _ = act
        simp only [Act.put, sA, sC, sZ] at hact
        subst hact
        go_wp2
        go_ret
        exact ⟨by rw [NO.out (fun h => by have h1 := (rights_at a 0).1 h.parts i x HX.out; rw [Nat.zero_add, hm.out, hrxx.out] at h1; cases h1)]; rfl, BE2.out⟩
       ·skip
        go_upto_region 20 with (fail)
        refine lbeg (opsOf Try.f73 20) ?_
        refine lnow 0 (.pointer (some ⟨q, 4, none⟩)) (some 155) ?_
        refine lcl 1 (.slice (some ⟨pb, po, none⟩) N ac) (some 156) 23 155 (q) 4 (BQ.out.cell (by rw [← hCS.out]; rfl)) Try.underlying23 ?_
        refine lnow 2 (.int .i64 (i : Int)) (some 157) ?_
        refine lix 3 (.pointer (some ⟨pb, po + 5 * i, none⟩)) (some 158) 23 156 157 (run_at_tm pb po N ac i hlt _) ?_
        refine lrl 4 cx (some 159) 25 158 pb (po + 5 * i) HRX.out Try.underlying25 (t5Size X5.out) ?_
        refine lnow 5 (.int .i64 p) (some 160) ?_
        refine lnow 6 (.int .i64 v) (some 161) ?_
        refine lnow 7 (.int .i64 0) (some 162) ?_
        refine lnow 8 (.int .i64 (IntKind.i64.wrap (v + 0))) (some 163) ?_
        rw [show IntKind.i64.wrap (v + 0) = v + m by rw [IntWalk.i64_in _ (by have := G0.out; omega)]; omega]
        refine lnow 9 (.int .i64 deep) (some 164) ?_
        refine lnow 10 (.int .i64 0) (some 165) ?_
        refine lnow 11 (.int .i64 (IntKind.i64.wrap (deep + 0))) (some 166) ?_
        rw [show IntKind.i64.wrap (deep + 0) = deep + m by rw [IntWalk.i64_in _ (by have := G0.out; omega)]; omega]
        refine lcal 12 73 #[.agg cx.toArray, .int .i64 p, .int .i64 (v + m), .int .i64 (deep + m)] (some 167) _ (CALL wr (Below.refl _ _)) ?_
        rintro e w2 ⟨rfl, hb⟩
        refine ⟨_, rfl, ?_⟩
        have BE2 : Hid (Below w.heap.size w w2) := BE.out.trans (hb.mono BE.out.size)
        have BQ2 : Hid (Blk w2 q 25 CS) := BQ.out.below hb BQ.out.lt
        clear hb CALL
        refine lnow 13 (.bool false) (some 168) ?_
        refine ldn 14 ?_
        generalize hact : Act.put _ (some 168) _ = act
        simp only [Act.put, sA, sC, sZ] at hact
        subst hact
        have NX : Hid (∀ (j : Nat) (y : Tm), j < i + 1 → a[j]? = some y → rightT wordB p (v + moreT k j) (deep + moreT k j) y = true) := fun j y hj hy => by
         by_cases e : j = i
         ·subst e; rw [HX.out] at hy; cases hy; rw [hm.out]; exact hrxx.out
         ·exact AL2.out j y (by omega) hy
        clear AL2 HX HRX X5 XM hm hrxx BQ BE hm01
        have bl := sa
        go_wp2
        go_roundw
        case rel => exact ⟨i + 1, by omega, by go_num, NX, BQ2, BE2⟩
        case measure => simp [intOf]; omega
   have cl : (i : Int) < (L : Int) := by omega
   obtain ⟨x, hx⟩ : ∃ x, ls[i]? = some x := ⟨_, List.getElem?_eq_getElem (by have := hL.out; omega)⟩
   have HX := Lib.hid hx
   have LVr : LvsOff F wr (.slice la L lc) ls := H1.out.step (Step.of_below BE.out (Nat.le_refl _))
   obtain ⟨x4, pb, po, rfl, hpb⟩ := LVr.at hx
   have hrx := Lib.hid (LVr.rng hx)
   clear LVr hx hpb
   go_upto_region 5 with (fail)
   refine lbeg (opsOf Try.f73 5) ?_
   refine lnow 0 (.int .i64 (i : Int)) (some 57) ?_
   refine lnow 1 (.pointer (some ⟨q, 3, none⟩)) (some 58) ?_
   refine lcl 2 (.slice (some ⟨pb, po, none⟩) L lc) (some 59) 22 58 (q) 3 (BQ.out.cell (by rw [← hCS.out]; rfl)) Try.underlying22 ?_
   refine lnow 3 (.int .i64 (L : Int)) (some 60) ?_
   refine lnow 4 (.bool (decide ((i : Int) < (L : Int)))) (some 61) ?_
   rw [show decide ((i : Int) < (L : Int)) = true from decide_eq_true cl]
   refine ldn 5 ?_
   generalize hact : Act.put _ (some 61) _ = act
   simp only [Act.put, sA, sC, sZ] at hact
   subst hact
   have RW := rright7_walk x x4 wr
   obtain ⟨rx, hrxx⟩ : ∃ y, Hid (rightL x = y) := ⟨_, rfl⟩
   rw [hrxx.out] at RW
   have XM : Hid (x ∈ ls) := List.mem_of_getElem? HX.out
   cases rx
   ·skip
    go_upto_region 7 with (fail)
    refine lbeg (opsOf Try.f73 7) ?_
    refine lnow 0 (.pointer (some ⟨q, 3, none⟩)) (some 64) ?_
    refine lcl 1 (.slice (some ⟨pb, po, none⟩) L lc) (some 65) 22 64 (q) 3 (BQ.out.cell (by rw [← hCS.out]; rfl)) Try.underlying22 ?_
    refine lnow 2 (.int .i64 (i : Int)) (some 66) ?_
    refine lix 3 (.pointer (some ⟨pb, po + 5 * i, none⟩)) (some 67) 22 65 66 (run_at_lv pb po L lc i hlt _) ?_
    refine lrl 4 (ints .i64 x.zs) (some 68) 80 67 pb (po + 5 * i) hrx.out Try.underlying80 (lvSize x4) ?_
    refine lcal 5 94 #[.agg (ints .i64 x.zs).toArray] (some 69) _ (RW) ?_
    rintro e w2 ⟨rfl, hb⟩
    refine ⟨_, rfl, ?_⟩
    have BE2 : Hid (Below w.heap.size w w2) := BE.out.trans (hb.mono BE.out.size)
    have BQ2 : Hid (Blk w2 q 25 CS) := BQ.out.below hb BQ.out.lt
    refine lnow 6 (.bool true) (some 70) ?_
    refine lnow 7 (.bool true) (some 71) ?_
    clear hb
    refine lpas 8 (some 72) ?_
    refine lpas 9 (some 73) ?_
    refine lpas 10 (some 74) ?_
    refine lpas 11 (some 75) ?_
    refine lpas 12 (some 76) ?_
    refine lpas 13 (some 77) ?_
    refine lpas 14 (some 78) ?_
    refine lpas 15 (some 79) ?_
    refine lnow 16 (.bool true) (some 80) ?_
    refine ldn 17 ?_
    generalize hact : Act.put _ (some 80) _ = act
    simp only [Act.put, sA, sC, sZ] at hact
    subst hact
    go_wp2
    go_ret
    exact ⟨by rw [NO.out (fun h => by have := (h.lv x XM.out).1; rw [hrxx.out] at this; cases this)]; rfl, BE2.out⟩
   have WW : ∀ w, Calls Try.prog 95 #[.agg (ints .i64 x.zs).toArray] w fun e w' => e = .returned (.int .i64 (widthL x : Int)) ∧ Below w.heap.size w w' := fun w => rwidth_walk x x4 hrxx.out w
   obtain ⟨wx, hwx⟩ : ∃ y, Hid (widthL x = y) := ⟨_, rfl⟩
   rw [hwx.out] at WW
   by_cases hwp : (wx : Int) > p
   ·skip
    go_upto_region 7 with (fail)
    refine lbeg (opsOf Try.f73 7) ?_
    refine lnow 0 (.pointer (some ⟨q, 3, none⟩)) (some 64) ?_
    refine lcl 1 (.slice (some ⟨pb, po, none⟩) L lc) (some 65) 22 64 (q) 3 (BQ.out.cell (by rw [← hCS.out]; rfl)) Try.underlying22 ?_
    refine lnow 2 (.int .i64 (i : Int)) (some 66) ?_
    refine lix 3 (.pointer (some ⟨pb, po + 5 * i, none⟩)) (some 67) 22 65 66 (run_at_lv pb po L lc i hlt _) ?_
    refine lrl 4 (ints .i64 x.zs) (some 68) 80 67 pb (po + 5 * i) hrx.out Try.underlying80 (lvSize x4) ?_
    refine lcal 5 94 #[.agg (ints .i64 x.zs).toArray] (some 69) _ (RW) ?_
    rintro e w2 ⟨rfl, hb⟩
    refine ⟨_, rfl, ?_⟩
    have BE2 : Hid (Below w.heap.size w w2) := BE.out.trans (hb.mono BE.out.size)
    have BQ2 : Hid (Blk w2 q 25 CS) := BQ.out.below hb BQ.out.lt
    refine lnow 6 (.bool false) (some 70) ?_
    refine lnow 7 (.bool false) (some 71) ?_
    have hrx2 : Hid (w2.rangeAt pb (po + 5 * i) (ints .i64 x.zs)) := (H1.out.step (Step.of_below BE2.out (Nat.le_refl _))).rng HX.out
    clear hb
    refine lnow 8 (.pointer (some ⟨q, 3, none⟩)) (some 72) ?_
    refine lcl 9 (.slice (some ⟨pb, po, none⟩) L lc) (some 73) 22 72 (q) 3 (BQ2.out.cell (by rw [← hCS.out]; rfl)) Try.underlying22 ?_
    refine lnow 10 (.int .i64 (i : Int)) (some 74) ?_
    refine lix 11 (.pointer (some ⟨pb, po + 5 * i, none⟩)) (some 75) 22 73 74 (run_at_lv pb po L lc i hlt _) ?_
    refine lrl 12 (ints .i64 x.zs) (some 76) 80 75 pb (po + 5 * i) hrx2.out Try.underlying80 (lvSize x4) ?_
    refine lcal 13 95 #[.agg (ints .i64 x.zs).toArray] (some 77) _ (WW w2) ?_
    rintro e w3 ⟨rfl, hb⟩
    refine ⟨_, rfl, ?_⟩
    have BE3 : Hid (Below w.heap.size w w3) := BE2.out.trans (hb.mono BE2.out.size)
    have BQ3 : Hid (Blk w3 q 25 CS) := BQ2.out.below hb BQ2.out.lt
    clear hb
    refine lnow 14 (.int .i64 p) (some 78) ?_
    refine lnow 15 (.bool (decide ((wx : Int) > p))) (some 79) ?_
    rw [show decide ((wx : Int) > p) = true from decide_eq_true hwp]
    refine lnow 16 (.bool true) (some 80) ?_
    refine ldn 17 ?_
    generalize hact : Act.put _ (some 80) _ = act
    simp only [Act.put, sA, sC, sZ] at hact
    subst hact
    go_wp2
    go_ret
    exact ⟨by rw [NO.out (fun h => by have := (h.lv x XM.out).2; rw [hwx.out] at this; omega)]; rfl, BE3.out⟩
   ·skip
    go_upto_region 7 with (fail)
    refine lbeg (opsOf Try.f73 7) ?_
    refine lnow 0 (.pointer (some ⟨q, 3, none⟩)) (some 64) ?_
    refine lcl 1 (.slice (some ⟨pb, po, none⟩) L lc) (some 65) 22 64 (q) 3 (BQ.out.cell (by rw [← hCS.out]; rfl)) Try.underlying22 ?_
    refine lnow 2 (.int .i64 (i : Int)) (some 66) ?_
    refine lix 3 (.pointer (some ⟨pb, po + 5 * i, none⟩)) (some 67) 22 65 66 (run_at_lv pb po L lc i hlt _) ?_
    refine lrl 4 (ints .i64 x.zs) (some 68) 80 67 pb (po + 5 * i) hrx.out Try.underlying80 (lvSize x4) ?_
    refine lcal 5 94 #[.agg (ints .i64 x.zs).toArray] (some 69) _ (RW) ?_
    rintro e w2 ⟨rfl, hb⟩
    refine ⟨_, rfl, ?_⟩
    have BE2 : Hid (Below w.heap.size w w2) := BE.out.trans (hb.mono BE.out.size)
    have BQ2 : Hid (Blk w2 q 25 CS) := BQ.out.below hb BQ.out.lt
    refine lnow 6 (.bool false) (some 70) ?_
    refine lnow 7 (.bool false) (some 71) ?_
    have hrx2 : Hid (w2.rangeAt pb (po + 5 * i) (ints .i64 x.zs)) := (H1.out.step (Step.of_below BE2.out (Nat.le_refl _))).rng HX.out
    clear hb
    refine lnow 8 (.pointer (some ⟨q, 3, none⟩)) (some 72) ?_
    refine lcl 9 (.slice (some ⟨pb, po, none⟩) L lc) (some 73) 22 72 (q) 3 (BQ2.out.cell (by rw [← hCS.out]; rfl)) Try.underlying22 ?_
    refine lnow 10 (.int .i64 (i : Int)) (some 74) ?_
    refine lix 11 (.pointer (some ⟨pb, po + 5 * i, none⟩)) (some 75) 22 73 74 (run_at_lv pb po L lc i hlt _) ?_
    refine lrl 12 (ints .i64 x.zs) (some 76) 80 75 pb (po + 5 * i) hrx2.out Try.underlying80 (lvSize x4) ?_
    refine lcal 13 95 #[.agg (ints .i64 x.zs).toArray] (some 77) _ (WW w2) ?_
    rintro e w3 ⟨rfl, hb⟩
    refine ⟨_, rfl, ?_⟩
    have BE3 : Hid (Below w.heap.size w w3) := BE2.out.trans (hb.mono BE2.out.size)
    have BQ3 : Hid (Blk w3 q 25 CS) := BQ2.out.below hb BQ2.out.lt
    clear hb
    refine lnow 14 (.int .i64 p) (some 78) ?_
    refine lnow 15 (.bool (decide ((wx : Int) > p))) (some 79) ?_
    rw [show decide ((wx : Int) > p) = false from decide_eq_false hwp]
    refine lnow 16 (.bool false) (some 80) ?_
    refine ldn 17 ?_
    generalize hact : Act.put _ (some 80) _ = act
    simp only [Act.put, sA, sC, sZ] at hact
    subst hact
    have NX : Hid (∀ y ∈ ls.take (i + 1), rightL y = true ∧ (widthL y : Int) ≤ p) := fun y hy => by
     rw [List.take_add_one, HX.out] at hy
     rcases List.mem_append.1 hy with hy | hy
     ·exact AL.out y hy
     ·simp at hy; subst hy; exact ⟨hrxx.out, by rw [hwx.out]; omega⟩
    clear AL hrx hrx2 RW WW hrxx hwx XM HX BQ BE BQ2 BE2
    go_wp2
    go_roundw
    case rel => exact ⟨i + 1, by omega, by go_num, NX, BQ3, BE3⟩
    case measure => simp [intOf]; omega
 have c5 : z ≥ 0 := by rw [← hz.out]; unfold shL; split <;> (try split) <;> omega
 by_cases c6 : (L : Int) = z
 rotate_left
 ·skip
  go_upto_region 2 with (fail)
  refine lbeg (opsOf Try.f73 2) ?_
  refine lnow 0 (.pointer (some ⟨q, 0, none⟩)) (some 21) ?_
  refine lcl 1 (.int .i64 k) (some 22) 3 21 (q) 0 (BQ.out.cell (by rw [← hCS.out]; rfl)) Try.underlying3 ?_
  refine lnow 2 (.bool (decide (k < 1))) (some 23) ?_
  rw [show decide (k < 1) = false from decide_eq_false c1]
  refine lnow 3 (.bool false) (some 24) ?_
  refine lnow 4 (.pointer (some ⟨q, 0, none⟩)) (some 25) ?_
  refine lcl 5 (.int .i64 k) (some 26) 3 25 (q) 0 (BQ.out.cell (by rw [← hCS.out]; rfl)) Try.underlying3 ?_
  refine lnow 6 (.bool (decide (k > 9))) (some 27) ?_
  rw [show decide (k > 9) = false from decide_eq_false c2]
  refine lnow 7 (.bool false) (some 28) ?_
  refine lnow 8 (.bool false) (some 29) ?_
  refine lnow 9 (.int .i64 deep) (some 30) ?_
  refine lnow 10 (.bool (decide (deep > 200))) (some 31) ?_
  rw [show decide (deep > 200) = false from decide_eq_false c3]
  refine lnow 11 (.bool false) (some 32) ?_
  refine lnow 12 (.bool false) (some 33) ?_
  refine lnow 13 (.pointer (some ⟨q, 4, none⟩)) (some 34) ?_
  refine lcl 14 (.slice aa N ac) (some 35) 23 34 (q) 4 (BQ.out.cell (by rw [← hCS.out]; rfl)) Try.underlying23 ?_
  refine lnow 15 (.int .i64 (N : Int)) (some 36) ?_
  refine lnow 16 (.int .i64 (A : Int)) (some 37) ?_
  refine lnow 17 (.bool (!decide ((N : Int) = (A : Int)))) (some 38) ?_
  rw [show (!decide ((N : Int) = (A : Int))) = false by rw [decide_eq_true c4]; rfl]
  refine lnow 18 (.bool false) (some 39) ?_
  refine lnow 19 (.bool false) (some 40) ?_
  refine lnow 20 (.int .i64 z) (some 41) ?_
  refine lnow 21 (.bool (decide (z ≥ 0))) (some 42) ?_
  rw [show decide (z ≥ 0) = true from decide_eq_true c5]
  refine lnow 22 (.bool true) (some 43) ?_
  refine lnow 23 (.pointer (some ⟨q, 3, none⟩)) (some 44) ?_
  refine lcl 24 (.slice la L lc) (some 45) 22 44 (q) 3 (BQ.out.cell (by rw [← hCS.out]; rfl)) Try.underlying22 ?_
  refine lnow 25 (.int .i64 (L : Int)) (some 46) ?_
  refine lnow 26 (.int .i64 z) (some 47) ?_
  refine lnow 27 (.bool (!decide ((L : Int) = z))) (some 48) ?_
  rw [show (!decide ((L : Int) = z)) = true by rw [decide_eq_false c6]; rfl]
  refine lnow 28 (.bool true) (some 49) ?_
  refine lnow 29 (.bool true) (some 50) ?_
  refine lnow 30 (.bool true) (some 51) ?_
  refine lpas 31 (some 52) ?_
  refine lpas 32 (some 53) ?_
  refine lpas 33 (some 54) ?_
  refine lpas 34 (some 55) ?_
  refine lnow 35 (.bool true) (some 56) ?_
  refine ldn 36 ?_
  generalize hact : Act.put _ (some 56) _ = act
  simp only [Act.put, sA, sC, sZ] at hact
  subst hact
  go_wp2
  go_ret
  exact ⟨by rw [NO.out (fun h => by have := h.lvs (by rw [hz.out]; exact c5); rw [hL.out, hz.out] at this; omega)]; rfl, BE.out⟩
 have c7 : ¬ (L : Int) > 4 := by omega
 have G1 : Hid ((0 ≤ z → (L : Int) = z) ∧ L ≤ 4) := ⟨fun _ => c6, by omega⟩
 go_upto_region 2 with (fail)
 refine lbeg (opsOf Try.f73 2) ?_
 refine lnow 0 (.pointer (some ⟨q, 0, none⟩)) (some 21) ?_
 refine lcl 1 (.int .i64 k) (some 22) 3 21 (q) 0 (BQ.out.cell (by rw [← hCS.out]; rfl)) Try.underlying3 ?_
 refine lnow 2 (.bool (decide (k < 1))) (some 23) ?_
 rw [show decide (k < 1) = false from decide_eq_false c1]
 refine lnow 3 (.bool false) (some 24) ?_
 refine lnow 4 (.pointer (some ⟨q, 0, none⟩)) (some 25) ?_
 refine lcl 5 (.int .i64 k) (some 26) 3 25 (q) 0 (BQ.out.cell (by rw [← hCS.out]; rfl)) Try.underlying3 ?_
 refine lnow 6 (.bool (decide (k > 9))) (some 27) ?_
 rw [show decide (k > 9) = false from decide_eq_false c2]
 refine lnow 7 (.bool false) (some 28) ?_
 refine lnow 8 (.bool false) (some 29) ?_
 refine lnow 9 (.int .i64 deep) (some 30) ?_
 refine lnow 10 (.bool (decide (deep > 200))) (some 31) ?_
 rw [show decide (deep > 200) = false from decide_eq_false c3]
 refine lnow 11 (.bool false) (some 32) ?_
 refine lnow 12 (.bool false) (some 33) ?_
 refine lnow 13 (.pointer (some ⟨q, 4, none⟩)) (some 34) ?_
 refine lcl 14 (.slice aa N ac) (some 35) 23 34 (q) 4 (BQ.out.cell (by rw [← hCS.out]; rfl)) Try.underlying23 ?_
 refine lnow 15 (.int .i64 (N : Int)) (some 36) ?_
 refine lnow 16 (.int .i64 (A : Int)) (some 37) ?_
 refine lnow 17 (.bool (!decide ((N : Int) = (A : Int)))) (some 38) ?_
 rw [show (!decide ((N : Int) = (A : Int))) = false by rw [decide_eq_true c4]; rfl]
 refine lnow 18 (.bool false) (some 39) ?_
 refine lnow 19 (.bool false) (some 40) ?_
 refine lnow 20 (.int .i64 z) (some 41) ?_
 refine lnow 21 (.bool (decide (z ≥ 0))) (some 42) ?_
 rw [show decide (z ≥ 0) = true from decide_eq_true c5]
 refine lnow 22 (.bool true) (some 43) ?_
 refine lnow 23 (.pointer (some ⟨q, 3, none⟩)) (some 44) ?_
 refine lcl 24 (.slice la L lc) (some 45) 22 44 (q) 3 (BQ.out.cell (by rw [← hCS.out]; rfl)) Try.underlying22 ?_
 refine lnow 25 (.int .i64 (L : Int)) (some 46) ?_
 refine lnow 26 (.int .i64 z) (some 47) ?_
 refine lnow 27 (.bool (!decide ((L : Int) = z))) (some 48) ?_
 rw [show (!decide ((L : Int) = z)) = false by rw [decide_eq_true c6]; rfl]
 refine lnow 28 (.bool false) (some 49) ?_
 refine lnow 29 (.bool false) (some 50) ?_
 refine lnow 30 (.bool false) (some 51) ?_
 refine lnow 31 (.pointer (some ⟨q, 3, none⟩)) (some 52) ?_
 refine lcl 32 (.slice la L lc) (some 53) 22 52 (q) 3 (BQ.out.cell (by rw [← hCS.out]; rfl)) Try.underlying22 ?_
 refine lnow 33 (.int .i64 (L : Int)) (some 54) ?_
 refine lnow 34 (.bool (decide ((L : Int) > 4))) (some 55) ?_
 rw [show decide ((L : Int) > 4) = false from decide_eq_false c7]
 refine lnow 35 (.bool false) (some 56) ?_
 refine ldn 36 ?_
 generalize hact : Act.put _ (some 56) _ = act
 simp only [Act.put, sA, sC, sZ] at hact
 subst hact
 clear c1 c2 c3 c4 c5 c6 c7
 go_upto_region 4 with (fail)
 refine lbeg (opsOf Try.f73 4) ?_
 refine lnow 0 (.int .i64 0) (some 11) ?_
 refine ldn 1 ?_
 generalize hact : Act.put _ (some 11) _ = act
 simp only [Act.put, sA, sC, sZ] at hact
 subst hact
 go_wp2
 go_loopw [11] (fun iv wr => ∃ i : Nat, i ≤ L ∧ iv = .int .i64 (i : Int) ∧ Hid (∀ x ∈ ls.take i, rightL x = true ∧ (widthL x : Int) ≤ p) ∧ Hid (Blk wr q 25 CS) ∧ Hid (Below w.heap.size w wr)) (fun iv _ => L - (intOf iv).toNat)
 case atStart => exact ⟨0, Nat.zero_le _, rfl, fun x hx => by simp at hx, BQ, BE⟩
 case round =>
  obtain ⟨i, hi, rfl, AL, BQ, BE⟩ := hrel
  by_cases hlt : i < L
  rotate_left
  ·skip
   have cl : ¬ (i : Int) < (L : Int) := by omega
   have AL : Hid (∀ x ∈ ls, rightL x = true ∧ (widthL x : Int) ≤ p) := by have h := AL.out; rw [List.take_of_length_le (by have := hL.out; omega)] at h; exact h
   go_upto_region 5 with (fail)
   refine lbeg (opsOf Try.f73 5) ?_
   refine lnow 0 (.int .i64 (i : Int)) (some 57) ?_
   refine lnow 1 (.pointer (some ⟨q, 3, none⟩)) (some 58) ?_
   refine lcl 2 (.slice la L lc) (some 59) 22 58 (q) 3 (BQ.out.cell (by rw [← hCS.out]; rfl)) Try.underlying22 ?_
   refine lnow 3 (.int .i64 (L : Int)) (some 60) ?_
   refine lnow 4 (.bool (decide ((i : Int) < (L : Int)))) (some 61) ?_
   rw [show decide ((i : Int) < (L : Int)) = false from decide_eq_false cl]
   refine ldn 5 ?_
   generalize hact : Act.put _ (some 61) _ = act
   simp only [Act.put, sA, sC, sZ] at hact
   subst hact
   clear hi hlt cl
   by_cases n9 : k = 9
   ·skip
    have KN : Hid (k = 4 ∨ k = 9) := .inr n9
    go_upto_region 9 with (fail)
    refine lbeg (opsOf Try.f73 9) ?_
    refine lnow 0 (.pointer (some ⟨q, 0, none⟩)) (some 81) ?_
    refine lcl 1 (.int .i64 k) (some 82) 3 81 (q) 0 (BQ.out.cell (by rw [← hCS.out]; rfl)) Try.underlying3 ?_
    refine lnowP 2 (.bool false) (some 83) (exec_eqli n4 (by kernel_rfl)) ?_
    refine lnow 3 (.bool false) (some 84) ?_
    refine lnow 4 (.pointer (some ⟨q, 0, none⟩)) (some 85) ?_
    refine lcl 5 (.int .i64 k) (some 86) 3 85 (q) 0 (BQ.out.cell (by rw [← hCS.out]; rfl)) Try.underlying3 ?_
    refine lnowP 6 (.bool true) (some 87) (exec_eqli_yes n9 (by kernel_rfl)) ?_
    refine lnow 7 (.bool true) (some 88) ?_
    refine lnow 8 (.bool true) (some 12) ?_
    refine ldn 9 ?_
    generalize hact : Act.put _ (some 12) _ = act
    simp only [Act.put, sA, sC, sZ] at hact
    subst hact
    have WW := rword_walk s (by have := SN.out; omega) wr
    obtain ⟨wb, hwb⟩ : ∃ y, Hid (wordB s = y) := ⟨_, rfl⟩
    rw [hwb.out] at WW
    cases wb
    ·skip
     go_upto_region 10 with (fail)
     refine lbeg (opsOf Try.f73 10) ?_
     refine lnow 0 (.bool true) (some 89) ?_
     refine lnow 1 (.bool true) (some 90) ?_
     refine lnow 2 (.pointer (some ⟨q, 2, none⟩)) (some 91) ?_
     refine lcl 3 (strT s) (some 92) 9 91 (q) 2 (BQ.out.cell (by rw [← hCS.out]; rfl)) Try.underlying9 ?_
     refine lcal 4 46 #[strT s] (some 93) _ (WW) ?_
     rintro e w2 ⟨rfl, hb⟩
     refine ⟨_, rfl, ?_⟩
     have BE2 : Hid (Below w.heap.size w w2) := BE.out.trans (hb.mono BE.out.size)
     have BQ2 : Hid (Blk w2 q 25 CS) := BQ.out.below hb BQ.out.lt
     clear hb
     refine lnow 5 (.bool true) (some 94) ?_
     refine lnow 6 (.bool true) (some 95) ?_
     refine lnow 7 (.bool true) (some 96) ?_
     refine lpas 8 (some 97) ?_
     refine lpas 9 (some 98) ?_
     refine lpas 10 (some 99) ?_
     refine lpas 11 (some 100) ?_
     refine lpas 12 (some 101) ?_
     refine lpas 13 (some 102) ?_
     refine lpas 14 (some 103) ?_
     refine lnow 15 (.bool true) (some 104) ?_
     refine lnow 16 (.bool true) (some 105) ?_
     refine lpas 17 (some 106) ?_
     refine lpas 18 (some 107) ?_
     refine lpas 19 (some 108) ?_
     refine lnow 20 (.bool true) (some 109) ?_
     refine ldn 21 ?_
     generalize hact : Act.put _ (some 109) _ = act
     simp only [Act.put, sA, sC, sZ] at hact
     subst hact
     go_wp2
     go_ret
     exact ⟨by rw [NO.out (fun h => by have := h.nm KN.out; rw [hwb.out] at this; cases this)]; rfl, BE2.out⟩
    have NM : Hid (((k = 4 ∨ k = 9) → wordB s = true) ∧ (¬ (k = 4 ∨ k = 9) → s = [])) := ⟨fun _ => hwb.out, fun h => absurd KN.out h⟩
    by_cases hn : n < 0
    ·skip
     go_upto_region 10 with (fail)
     refine lbeg (opsOf Try.f73 10) ?_
     refine lnow 0 (.bool true) (some 89) ?_
     refine lnow 1 (.bool true) (some 90) ?_
     refine lnow 2 (.pointer (some ⟨q, 2, none⟩)) (some 91) ?_
     refine lcl 3 (strT s) (some 92) 9 91 (q) 2 (BQ.out.cell (by rw [← hCS.out]; rfl)) Try.underlying9 ?_
     refine lcal 4 46 #[strT s] (some 93) _ (WW) ?_
     rintro e w2 ⟨rfl, hb⟩
     refine ⟨_, rfl, ?_⟩
     have BE2 : Hid (Below w.heap.size w w2) := BE.out.trans (hb.mono BE.out.size)
     have BQ2 : Hid (Blk w2 q 25 CS) := BQ.out.below hb BQ.out.lt
     clear hb
     refine lnow 5 (.bool false) (some 94) ?_
     refine lnow 6 (.bool false) (some 95) ?_
     refine lnow 7 (.bool false) (some 96) ?_
     refine lnow 8 (.bool true) (some 97) ?_
     refine lnow 9 (.bool false) (some 98) ?_
     refine lnow 10 (.bool false) (some 99) ?_
     refine lpas 11 (some 100) ?_
     refine lpas 12 (some 101) ?_
     refine lpas 13 (some 102) ?_
     refine lnow 14 (.bool false) (some 103) ?_
     refine lnow 15 (.bool false) (some 104) ?_
     refine lnow 16 (.bool false) (some 105) ?_
     refine lnow 17 (.pointer (some ⟨q, 1, none⟩)) (some 106) ?_
     refine lcl 18 (.int .i64 n) (some 107) 3 106 (q) 1 (BQ2.out.cell (by rw [← hCS.out]; rfl)) Try.underlying3 ?_
     refine lnow 19 (.bool (decide (n < 0))) (some 108) ?_
     rw [show decide (n < 0) = true from decide_eq_true hn]
     refine lnow 20 (.bool true) (some 109) ?_
     refine ldn 21 ?_
     generalize hact : Act.put _ (some 109) _ = act
     simp only [Act.put, sA, sC, sZ] at hact
     subst hact
     go_wp2
     go_ret
     exact ⟨by rw [NO.out (fun h => by have := h.n0; omega)]; rfl, BE2.out⟩
    go_upto_region 10 with (fail)
    refine lbeg (opsOf Try.f73 10) ?_
    refine lnow 0 (.bool true) (some 89) ?_
    refine lnow 1 (.bool true) (some 90) ?_
    refine lnow 2 (.pointer (some ⟨q, 2, none⟩)) (some 91) ?_
    refine lcl 3 (strT s) (some 92) 9 91 (q) 2 (BQ.out.cell (by rw [← hCS.out]; rfl)) Try.underlying9 ?_
    refine lcal 4 46 #[strT s] (some 93) _ (WW) ?_
    rintro e w2 ⟨rfl, hb⟩
    refine ⟨_, rfl, ?_⟩
    have BE2 : Hid (Below w.heap.size w w2) := BE.out.trans (hb.mono BE.out.size)
    have BQ2 : Hid (Blk w2 q 25 CS) := BQ.out.below hb BQ.out.lt
    clear hb
    refine lnow 5 (.bool false) (some 94) ?_
    refine lnow 6 (.bool false) (some 95) ?_
    refine lnow 7 (.bool false) (some 96) ?_
    refine lnow 8 (.bool true) (some 97) ?_
    refine lnow 9 (.bool false) (some 98) ?_
    refine lnow 10 (.bool false) (some 99) ?_
    refine lpas 11 (some 100) ?_
    refine lpas 12 (some 101) ?_
    refine lpas 13 (some 102) ?_
    refine lnow 14 (.bool false) (some 103) ?_
    refine lnow 15 (.bool false) (some 104) ?_
    refine lnow 16 (.bool false) (some 105) ?_
    refine lnow 17 (.pointer (some ⟨q, 1, none⟩)) (some 106) ?_
    refine lcl 18 (.int .i64 n) (some 107) 3 106 (q) 1 (BQ2.out.cell (by rw [← hCS.out]; rfl)) Try.underlying3 ?_
    refine lnow 19 (.bool (decide (n < 0))) (some 108) ?_
    rw [show decide (n < 0) = false from decide_eq_false hn]
    refine lnow 20 (.bool false) (some 109) ?_
    refine ldn 21 ?_
    generalize hact : Act.put _ (some 109) _ = act
    simp only [Act.put, sA, sC, sZ] at hact
    subst hact
    clear BQ BE hwb WW
    clear KN
    have n1 : ¬ k = 1 := by omega
    by_cases hb : n > 31
    ·skip
     go_upto_region 12 with (fail)
     refine lbeg (opsOf Try.f73 12) ?_
     refine lnow 0 (.pointer (some ⟨q, 0, none⟩)) (some 110) ?_
     refine lcl 1 (.int .i64 k) (some 111) 3 110 (q) 0 (BQ2.out.cell (by rw [← hCS.out]; rfl)) Try.underlying3 ?_
     refine lnowP 2 (.bool false) (some 112) (exec_eqli n1 (by kernel_rfl)) ?_
     refine lnow 3 (.bool false) (some 113) ?_
     refine lpas 4 (some 114) ?_
     refine lpas 5 (some 115) ?_
     refine lpas 6 (some 116) ?_
     refine lpas 7 (some 117) ?_
     refine lnow 8 (.bool false) (some 118) ?_
     refine lnow 9 (.bool false) (some 119) ?_
     refine lnow 10 (.pointer (some ⟨q, 0, none⟩)) (some 120) ?_
     refine lcl 11 (.int .i64 k) (some 121) 3 120 (q) 0 (BQ2.out.cell (by rw [← hCS.out]; rfl)) Try.underlying3 ?_
     refine lnowP 12 (.bool true) (some 122) (exec_eqli_yes n9 (by kernel_rfl)) ?_
     refine lnow 13 (.bool true) (some 123) ?_
     refine lnow 14 (.pointer (some ⟨q, 1, none⟩)) (some 124) ?_
     refine lcl 15 (.int .i64 n) (some 125) 3 124 (q) 1 (BQ2.out.cell (by rw [← hCS.out]; rfl)) Try.underlying3 ?_
     refine lnow 16 (.bool (decide (n > 31))) (some 126) ?_
     rw [show decide (n > 31) = true from decide_eq_true hb]
     refine lnow 17 (.bool true) (some 127) ?_
     refine lnow 18 (.bool true) (some 128) ?_
     refine lnow 19 (.bool true) (some 129) ?_
     refine lpas 20 (some 130) ?_
     refine lpas 21 (some 131) ?_
     refine lpas 22 (some 132) ?_
     refine lpas 23 (some 133) ?_
     refine lpas 24 (some 134) ?_
     refine lpas 25 (some 135) ?_
     refine lpas 26 (some 136) ?_
     refine lpas 27 (some 137) ?_
     refine lpas 28 (some 138) ?_
     refine lpas 29 (some 139) ?_
     refine lpas 30 (some 140) ?_
     refine lpas 31 (some 141) ?_
     refine lpas 32 (some 142) ?_
     refine lnow 33 (.bool true) (some 143) ?_
     refine ldn 34 ?_
     generalize hact : Act.put _ (some 143) _ = act
     simp only [Act.put, sA, sC, sZ] at hact
     subst hact
     go_wp2
     go_ret
     exact ⟨by rw [NO.out (fun h => by have := h.n9 n9; omega)]; rfl, BE2.out⟩
    have NN : Hid (0 ≤ n ∧ (k = 1 → n < v) ∧ (k = 9 → n ≤ 31) ∧ (k ≠ 1 → k ≠ 9 → n = 0)) := by rw [Hid]; omega
    go_upto_region 12 with (fail)
    refine lbeg (opsOf Try.f73 12) ?_
    refine lnow 0 (.pointer (some ⟨q, 0, none⟩)) (some 110) ?_
    refine lcl 1 (.int .i64 k) (some 111) 3 110 (q) 0 (BQ2.out.cell (by rw [← hCS.out]; rfl)) Try.underlying3 ?_
    refine lnowP 2 (.bool false) (some 112) (exec_eqli n1 (by kernel_rfl)) ?_
    refine lnow 3 (.bool false) (some 113) ?_
    refine lpas 4 (some 114) ?_
    refine lpas 5 (some 115) ?_
    refine lpas 6 (some 116) ?_
    refine lpas 7 (some 117) ?_
    refine lnow 8 (.bool false) (some 118) ?_
    refine lnow 9 (.bool false) (some 119) ?_
    refine lnow 10 (.pointer (some ⟨q, 0, none⟩)) (some 120) ?_
    refine lcl 11 (.int .i64 k) (some 121) 3 120 (q) 0 (BQ2.out.cell (by rw [← hCS.out]; rfl)) Try.underlying3 ?_
    refine lnowP 12 (.bool true) (some 122) (exec_eqli_yes n9 (by kernel_rfl)) ?_
    refine lnow 13 (.bool true) (some 123) ?_
    refine lnow 14 (.pointer (some ⟨q, 1, none⟩)) (some 124) ?_
    refine lcl 15 (.int .i64 n) (some 125) 3 124 (q) 1 (BQ2.out.cell (by rw [← hCS.out]; rfl)) Try.underlying3 ?_
    refine lnow 16 (.bool (decide (n > 31))) (some 126) ?_
    rw [show decide (n > 31) = false from decide_eq_false hb]
    refine lnow 17 (.bool false) (some 127) ?_
    refine lnow 18 (.bool false) (some 128) ?_
    refine lnow 19 (.bool false) (some 129) ?_
    refine lnow 20 (.pointer (some ⟨q, 0, none⟩)) (some 130) ?_
    refine lcl 21 (.int .i64 k) (some 131) 3 130 (q) 0 (BQ2.out.cell (by rw [← hCS.out]; rfl)) Try.underlying3 ?_
    refine lnow 22 (.bool (!decide (k = 1))) (some 132) ?_
    rw [show (!decide (k = 1)) = true by rw [decide_eq_false n1]; rfl]
    refine lnow 23 (.bool true) (some 133) ?_
    refine lnow 24 (.pointer (some ⟨q, 0, none⟩)) (some 134) ?_
    refine lcl 25 (.int .i64 k) (some 135) 3 134 (q) 0 (BQ2.out.cell (by rw [← hCS.out]; rfl)) Try.underlying3 ?_
    refine lnow 26 (.bool (!decide (k = 9))) (some 136) ?_
    rw [show (!decide (k = 9)) = false by rw [decide_eq_true n9]; rfl]
    refine lnow 27 (.bool false) (some 137) ?_
    refine lnow 28 (.bool false) (some 138) ?_
    refine lpas 29 (some 139) ?_
    refine lpas 30 (some 140) ?_
    refine lpas 31 (some 141) ?_
    refine lnow 32 (.bool false) (some 142) ?_
    refine lnow 33 (.bool false) (some 143) ?_
    refine ldn 34 ?_
    generalize hact : Act.put _ (some 143) _ = act
    simp only [Act.put, sA, sC, sZ] at hact
    subst hact
    clear hb hn
    have BQ := BQ2
    have BE := BE2
    clear BQ2 BE2
    go_upto_region 14 with (fail)
    refine lbeg (opsOf Try.f73 14) ?_
    refine lnow 0 (.int .i64 0) (some 13) ?_
    refine ldn 1 ?_
    generalize hact : Act.put _ (some 13) _ = act
    simp only [Act.put, sA, sC, sZ] at hact
    subst hact
    go_wp2
    go_loopw [13] (fun iv wr => ∃ i : Nat, i ≤ N ∧ iv = .int .i64 (i : Int) ∧ Hid (∀ (j : Nat) (x : Tm), j < i → a[j]? = some x → rightT wordB p (v + moreT k j) (deep + moreT k j) x = true) ∧ Hid (Blk wr q 25 CS) ∧ Hid (Below w.heap.size w wr)) (fun iv _ => N - (intOf iv).toNat)
    case atStart => exact ⟨0, Nat.zero_le _, rfl, fun j x hj => absurd hj (Nat.not_lt_zero _), BQ, BE⟩
    case round =>
     obtain ⟨i, hi, rfl, AL2, BQ, BE⟩ := hrel
     by_cases hlt : i < N
     rotate_left
     ·skip
      have cl : ¬ (i : Int) < (N : Int) := by omega
      go_upto_region 15 with (fail)
      refine lbeg (opsOf Try.f73 15) ?_
      refine lnow 0 (.int .i64 (i : Int)) (some 144) ?_
      refine lnow 1 (.pointer (some ⟨q, 4, none⟩)) (some 145) ?_
      refine lcl 2 (.slice aa N ac) (some 146) 23 145 (q) 4 (BQ.out.cell (by rw [← hCS.out]; rfl)) Try.underlying23 ?_
      refine lnow 3 (.int .i64 (N : Int)) (some 147) ?_
      refine lnow 4 (.bool (decide ((i : Int) < (N : Int)))) (some 148) ?_
      rw [show decide ((i : Int) < (N : Int)) = false from decide_eq_false cl]
      refine ldn 5 ?_
      generalize hact : Act.put _ (some 148) _ = act
      simp only [Act.put, sA, sC, sZ] at hact
      subst hact
      have FIN : Hid (R = true) := YES.out ⟨G0.out.1, G0.out.2.1, G0.out.2.2.1, by rw [hN.out, hA.out]; have := G0.out.2.2.2; omega, by rw [hL.out, hz.out]; exact G1.out.1, by rw [hL.out]; exact G1.out.2, AL.out, NM.out.1, NM.out.2, NN.out.1, NN.out.2.1, NN.out.2.2.1, NN.out.2.2.2, (rights_at a 0).2 (fun j x hx => by
       rw [Nat.zero_add]
       exact AL2.out j x (by have h1 := (List.getElem?_eq_some_iff.1 hx).1; have h2 := hN.out; omega) hx)⟩
      go_upto_region 22 with (fail)
      refine lbeg (opsOf Try.f73 22) ?_
      refine lnow 0 (.bool true) (some 8) ?_
      refine ldn 1 ?_
      generalize hact : Act.put _ (some 8) _ = act
      simp only [Act.put, sA, sC, sZ] at hact
      subst hact
      go_wp2
      go_ret
      exact ⟨by rw [FIN.out]; rfl, BE.out⟩
     have cl : (i : Int) < (N : Int) := by omega
     have H2r : TmsAt F wr a (.slice aa N ac) := H2.out.below BE.out
     obtain ⟨x, pb, po, cx, hx, hxm, haa, -, -, -, hrx, htx⟩ := H2r.get hN.out hlt
     subst haa
     have SX := SmTs.mem SS.out hxm
     have HX := Lib.hid hx
     have HRX := Lib.hid hrx
     have X5 := Lib.hid htx.len
     have XM := Lib.hid hxm
     obtain ⟨m, hm⟩ : ∃ m, Hid (moreT k i = m) := ⟨_, rfl⟩
     have hm01 : 0 ≤ m ∧ m ≤ 1 := by have := more_01 k i; rw [hm.out] at this; exact this
     have CALL := fun w1 (hb1 : Below wr.heap.size wr w1) => IH.out x XM.out cx w1 p (v + m) (deep + m) F (htx.below hb1) SX hp (by have := G0.out; omega) (by omega)
     obtain ⟨rx, hrxx⟩ : ∃ y, Hid (rightT wordB p (v + m) (deep + m) x = y) := ⟨_, rfl⟩
     rw [hrxx.out] at CALL
     clear H2r hx hxm hrx htx SX
     have BW := binds_walk k i
     have hmb : (decide (((k = 6 ∨ k = 7) ∧ (i : Int) = 1) ∨ (k = 8 ∧ (i : Int) = 2))) = decide (m = 1) := by
      rw [← hm.out, decide_eq_decide]
      unfold moreT
      split <;> omega
     rw [hmb] at BW
     clear hmb
     go_upto_region 15 with (fail)
     refine lbeg (opsOf Try.f73 15) ?_
     refine lnow 0 (.int .i64 (i : Int)) (some 144) ?_
     refine lnow 1 (.pointer (some ⟨q, 4, none⟩)) (some 145) ?_
     refine lcl 2 (.slice (some ⟨pb, po, none⟩) N ac) (some 146) 23 145 (q) 4 (BQ.out.cell (by rw [← hCS.out]; rfl)) Try.underlying23 ?_
     refine lnow 3 (.int .i64 (N : Int)) (some 147) ?_
     refine lnow 4 (.bool (decide ((i : Int) < (N : Int)))) (some 148) ?_
     rw [show decide ((i : Int) < (N : Int)) = true from decide_eq_true cl]
     refine ldn 5 ?_
     generalize hact : Act.put _ (some 148) _ = act
     simp only [Act.put, sA, sC, sZ] at hact
     subst hact
     go_upto_region 17 with (fail)
     refine lbeg (opsOf Try.f73 17) ?_
     refine lnow 0 (.int .i64 0) (some 14) ?_
     refine ldn 1 ?_
     generalize hact : Act.put _ (some 14) _ = act
     simp only [Act.put, sA, sC, sZ] at hact
     subst hact
     by_cases hm1 : m = 1
     ·skip
      go_upto_region 18 with (fail)
      refine lbeg (opsOf Try.f73 18) ?_
      refine lnow 0 (.pointer (some ⟨q, 0, none⟩)) (some 151) ?_
      refine lcl 1 (.int .i64 k) (some 152) 3 151 (q) 0 (BQ.out.cell (by rw [← hCS.out]; rfl)) Try.underlying3 ?_
      refine lnow 2 (.int .i64 (i : Int)) (some 153) ?_
      refine lcal 3 96 #[.int .i64 k, .int .i64 (i : Int)] (some 154) _ (BW wr) ?_
      rintro e w' ⟨rfl, hw'⟩
      obtain rfl := hw'.symm
      refine ⟨_, rfl, ?_⟩
      rw [show decide (m = 1) = true from decide_eq_true hm1]
      refine ldn 4 ?_
      generalize hact : Act.put _ (some 154) _ = act
      simp only [Act.put, sA, sC, sZ] at hact
      subst hact
      clear BW
      go_upto_region 19 with (fail)
      refine lbeg (opsOf Try.f73 19) ?_
      refine lnow 0 (.int .i64 1) (some 14) ?_
      refine ldn 1 ?_
      generalize hact : Act.put _ (some 14) _ = act
      simp only [Act.put, sA, sC, sZ] at hact
      subst hact
      cases rx
      ·skip
       go_upto_region 20 with (fail)
       refine lbeg (opsOf Try.f73 20) ?_
       refine lnow 0 (.pointer (some ⟨q, 4, none⟩)) (some 155) ?_
       refine lcl 1 (.slice (some ⟨pb, po, none⟩) N ac) (some 156) 23 155 (q) 4 (BQ.out.cell (by rw [← hCS.out]; rfl)) Try.underlying23 ?_
       refine lnow 2 (.int .i64 (i : Int)) (some 157) ?_
       refine lix 3 (.pointer (some ⟨pb, po + 5 * i, none⟩)) (some 158) 23 156 157 (run_at_tm pb po N ac i hlt _) ?_
       refine lrl 4 cx (some 159) 25 158 pb (po + 5 * i) HRX.out Try.underlying25 (t5Size X5.out) ?_
       refine lnow 5 (.int .i64 p) (some 160) ?_
       refine lnow 6 (.int .i64 v) (some 161) ?_
       refine lnow 7 (.int .i64 1) (some 162) ?_
       refine lnow 8 (.int .i64 (IntKind.i64.wrap (v + 1))) (some 163) ?_
       rw [show IntKind.i64.wrap (v + 1) = v + m by rw [IntWalk.i64_in _ (by have := G0.out; omega)]; omega]
       refine lnow 9 (.int .i64 deep) (some 164) ?_
       refine lnow 10 (.int .i64 1) (some 165) ?_
       refine lnow 11 (.int .i64 (IntKind.i64.wrap (deep + 1))) (some 166) ?_
       rw [show IntKind.i64.wrap (deep + 1) = deep + m by rw [IntWalk.i64_in _ (by have := G0.out; omega)]; omega]
       refine lcal 12 73 #[.agg cx.toArray, .int .i64 p, .int .i64 (v + m), .int .i64 (deep + m)] (some 167) _ (CALL wr (Below.refl _ _)) ?_
       rintro e w2 ⟨rfl, hb⟩
       refine ⟨_, rfl, ?_⟩
       have BE2 : Hid (Below w.heap.size w w2) := BE.out.trans (hb.mono BE.out.size)
       have BQ2 : Hid (Blk w2 q 25 CS) := BQ.out.below hb BQ.out.lt
       clear hb CALL
       refine lnow 13 (.bool true) (some 168) ?_
       refine ldn 14 ?_
       generalize hact : Act.put _ (some 168) _ = act
       simp only [Act.put, sA, sC, sZ] at hact
       subst hact
       go_wp2
       go_ret
       exact ⟨by rw [NO.out (fun h => by have h1 := (rights_at a 0).1 h.parts i x HX.out; rw [Nat.zero_add, hm.out, hrxx.out] at h1; cases h1)]; rfl, BE2.out⟩
      ·skip
       go_upto_region 20 with (fail)
       refine lbeg (opsOf Try.f73 20) ?_
       refine lnow 0 (.pointer (some ⟨q, 4, none⟩)) (some 155) ?_
       refine lcl 1 (.slice (some ⟨pb, po, none⟩) N ac) (some 156) 23 155 (q) 4 (BQ.out.cell (by rw [← hCS.out]; rfl)) Try.underlying23 ?_
       refine lnow 2 (.int .i64 (i : Int)) (some 157) ?_
       refine lix 3 (.pointer (some ⟨pb, po + 5 * i, none⟩)) (some 158) 23 156 157 (run_at_tm pb po N ac i hlt _) ?_
       refine lrl 4 cx (some 159) 25 158 pb (po + 5 * i) HRX.out Try.underlying25 (t5Size X5.out) ?_
       refine lnow 5 (.int .i64 p) (some 160) ?_
       refine lnow 6 (.int .i64 v) (some 161) ?_
       refine lnow 7 (.int .i64 1) (some 162) ?_
       refine lnow 8 (.int .i64 (IntKind.i64.wrap (v + 1))) (some 163) ?_
       rw [show IntKind.i64.wrap (v + 1) = v + m by rw [IntWalk.i64_in _ (by have := G0.out; omega)]; omega]
       refine lnow 9 (.int .i64 deep) (some 164) ?_
       refine lnow 10 (.int .i64 1) (some 165) ?_
       refine lnow 11 (.int .i64 (IntKind.i64.wrap (deep + 1))) (some 166) ?_
       rw [show IntKind.i64.wrap (deep + 1) = deep + m by rw [IntWalk.i64_in _ (by have := G0.out; omega)]; omega]
       refine lcal 12 73 #[.agg cx.toArray, .int .i64 p, .int .i64 (v + m), .int .i64 (deep + m)] (some 167) _ (CALL wr (Below.refl _ _)) ?_
       rintro e w2 ⟨rfl, hb⟩
       refine ⟨_, rfl, ?_⟩
       have BE2 : Hid (Below w.heap.size w w2) := BE.out.trans (hb.mono BE.out.size)
       have BQ2 : Hid (Blk w2 q 25 CS) := BQ.out.below hb BQ.out.lt
       clear hb CALL
       refine lnow 13 (.bool false) (some 168) ?_
       refine ldn 14 ?_
       generalize hact : Act.put _ (some 168) _ = act
       simp only [Act.put, sA, sC, sZ] at hact
       subst hact
       have NX : Hid (∀ (j : Nat) (y : Tm), j < i + 1 → a[j]? = some y → rightT wordB p (v + moreT k j) (deep + moreT k j) y = true) := fun j y hj hy => by
        by_cases e : j = i
        ·subst e; rw [HX.out] at hy; cases hy; rw [hm.out]; exact hrxx.out
        ·exact AL2.out j y (by omega) hy
       clear AL2 HX HRX X5 XM hm hrxx BQ BE hm01
       have bl := sa
       go_wp2
       go_roundw
       case rel => exact ⟨i + 1, by omega, by go_num, NX, BQ2, BE2⟩
       case measure => simp [intOf]; omega
     ·skip
      go_upto_region 18 with (fail)
      refine lbeg (opsOf Try.f73 18) ?_
      refine lnow 0 (.pointer (some ⟨q, 0, none⟩)) (some 151) ?_
      refine lcl 1 (.int .i64 k) (some 152) 3 151 (q) 0 (BQ.out.cell (by rw [← hCS.out]; rfl)) Try.underlying3 ?_
      refine lnow 2 (.int .i64 (i : Int)) (some 153) ?_
      refine lcal 3 96 #[.int .i64 k, .int .i64 (i : Int)] (some 154) _ (BW wr) ?_
      rintro e w' ⟨rfl, hw'⟩
      obtain rfl := hw'.symm
      refine ⟨_, rfl, ?_⟩
      rw [show decide (m = 1) = false from decide_eq_false hm1]
      refine ldn 4 ?_
      generalize hact : Act.put _ (some 154) _ = act
      simp only [Act.put, sA, sC, sZ] at hact
      subst hact
      clear BW
      cases rx
      ·skip
       go_upto_region 20 with (fail)
       refine lbeg (opsOf Try.f73 20) ?_
       refine lnow 0 (.pointer (some ⟨q, 4, none⟩)) (some 155) ?_
       refine lcl 1 (.slice (some ⟨pb, po, none⟩) N ac) (some 156) 23 155 (q) 4 (BQ.out.cell (by rw [← hCS.out]; rfl)) Try.underlying23 ?_
       refine lnow 2 (.int .i64 (i : Int)) (some 157) ?_
       refine lix 3 (.pointer (some ⟨pb, po + 5 * i, none⟩)) (some 158) 23 156 157 (run_at_tm pb po N ac i hlt _) ?_
       refine lrl 4 cx (some 159) 25 158 pb (po + 5 * i) HRX.out Try.underlying25 (t5Size X5.out) ?_
       refine lnow 5 (.int .i64 p) (some 160) ?_
       refine lnow 6 (.int .i64 v) (some 161) ?_
       refine lnow 7 (.int .i64 0) (some 162) ?_
       refine lnow 8 (.int .i64 (IntKind.i64.wrap (v + 0))) (some 163) ?_
       rw [show IntKind.i64.wrap (v + 0) = v + m by rw [IntWalk.i64_in _ (by have := G0.out; omega)]; omega]
       refine lnow 9 (.int .i64 deep) (some 164) ?_
       refine lnow 10 (.int .i64 0) (some 165) ?_
       refine lnow 11 (.int .i64 (IntKind.i64.wrap (deep + 0))) (some 166) ?_
       rw [show IntKind.i64.wrap (deep + 0) = deep + m by rw [IntWalk.i64_in _ (by have := G0.out; omega)]; omega]
       refine lcal 12 73 #[.agg cx.toArray, .int .i64 p, .int .i64 (v + m), .int .i64 (deep + m)] (some 167) _ (CALL wr (Below.refl _ _)) ?_
       rintro e w2 ⟨rfl, hb⟩
       refine ⟨_, rfl, ?_⟩
       have BE2 : Hid (Below w.heap.size w w2) := BE.out.trans (hb.mono BE.out.size)
       have BQ2 : Hid (Blk w2 q 25 CS) := BQ.out.below hb BQ.out.lt
       clear hb CALL
       refine lnow 13 (.bool true) (some 168) ?_
       refine ldn 14 ?_
       generalize hact : Act.put _ (some 168) _ = act
       simp only [Act.put, sA, sC, sZ] at hact
       subst hact
       go_wp2
       go_ret
       exact ⟨by rw [NO.out (fun h => by have h1 := (rights_at a 0).1 h.parts i x HX.out; rw [Nat.zero_add, hm.out, hrxx.out] at h1; cases h1)]; rfl, BE2.out⟩
      ·skip
       go_upto_region 20 with (fail)
       refine lbeg (opsOf Try.f73 20) ?_
       refine lnow 0 (.pointer (some ⟨q, 4, none⟩)) (some 155) ?_
       refine lcl 1 (.slice (some ⟨pb, po, none⟩) N ac) (some 156) 23 155 (q) 4 (BQ.out.cell (by rw [← hCS.out]; rfl)) Try.underlying23 ?_
       refine lnow 2 (.int .i64 (i : Int)) (some 157) ?_
       refine lix 3 (.pointer (some ⟨pb, po + 5 * i, none⟩)) (some 158) 23 156 157 (run_at_tm pb po N ac i hlt _) ?_
       refine lrl 4 cx (some 159) 25 158 pb (po + 5 * i) HRX.out Try.underlying25 (t5Size X5.out) ?_
       refine lnow 5 (.int .i64 p) (some 160) ?_
       refine lnow 6 (.int .i64 v) (some 161) ?_
       refine lnow 7 (.int .i64 0) (some 162) ?_
       refine lnow 8 (.int .i64 (IntKind.i64.wrap (v + 0))) (some 163) ?_
       rw [show IntKind.i64.wrap (v + 0) = v + m by rw [IntWalk.i64_in _ (by have := G0.out; omega)]; omega]
       refine lnow 9 (.int .i64 deep) (some 164) ?_
       refine lnow 10 (.int .i64 0) (some 165) ?_
       refine lnow 11 (.int .i64 (IntKind.i64.wrap (deep + 0))) (some 166) ?_
       rw [show IntKind.i64.wrap (deep + 0) = deep + m by rw [IntWalk.i64_in _ (by have := G0.out; omega)]; omega]
       refine lcal 12 73 #[.agg cx.toArray, .int .i64 p, .int .i64 (v + m), .int .i64 (deep + m)] (some 167) _ (CALL wr (Below.refl _ _)) ?_
       rintro e w2 ⟨rfl, hb⟩
       refine ⟨_, rfl, ?_⟩
       have BE2 : Hid (Below w.heap.size w w2) := BE.out.trans (hb.mono BE.out.size)
       have BQ2 : Hid (Blk w2 q 25 CS) := BQ.out.below hb BQ.out.lt
       clear hb CALL
       refine lnow 13 (.bool false) (some 168) ?_
       refine ldn 14 ?_
       generalize hact : Act.put _ (some 168) _ = act
       simp only [Act.put, sA, sC, sZ] at hact
       subst hact
       have NX : Hid (∀ (j : Nat) (y : Tm), j < i + 1 → a[j]? = some y → rightT wordB p (v + moreT k j) (deep + moreT k j) y = true) := fun j y hj hy => by
        by_cases e : j = i
        ·subst e; rw [HX.out] at hy; cases hy; rw [hm.out]; exact hrxx.out
        ·exact AL2.out j y (by omega) hy
       clear AL2 HX HRX X5 XM hm hrxx BQ BE hm01
       have bl := sa
       go_wp2
       go_roundw
       case rel => exact ⟨i + 1, by omega, by go_num, NX, BQ2, BE2⟩
       case measure => simp [intOf]; omega
   ·skip
    have KN : Hid (¬ (k = 4 ∨ k = 9)) := by rw [Hid]; omega
    go_upto_region 9 with (fail)
    refine lbeg (opsOf Try.f73 9) ?_
    refine lnow 0 (.pointer (some ⟨q, 0, none⟩)) (some 81) ?_
    refine lcl 1 (.int .i64 k) (some 82) 3 81 (q) 0 (BQ.out.cell (by rw [← hCS.out]; rfl)) Try.underlying3 ?_
    refine lnowP 2 (.bool false) (some 83) (exec_eqli n4 (by kernel_rfl)) ?_
    refine lnow 3 (.bool false) (some 84) ?_
    refine lnow 4 (.pointer (some ⟨q, 0, none⟩)) (some 85) ?_
    refine lcl 5 (.int .i64 k) (some 86) 3 85 (q) 0 (BQ.out.cell (by rw [← hCS.out]; rfl)) Try.underlying3 ?_
    refine lnowP 6 (.bool false) (some 87) (exec_eqli n9 (by kernel_rfl)) ?_
    refine lnow 7 (.bool false) (some 88) ?_
    refine lnow 8 (.bool false) (some 12) ?_
    refine ldn 9 ?_
    generalize hact : Act.put _ (some 12) _ = act
    simp only [Act.put, sA, sC, sZ] at hact
    subst hact
    by_cases he : s = []
    rotate_left
    ·skip
     go_upto_region 10 with (fail)
     refine lbeg (opsOf Try.f73 10) ?_
     refine lnow 0 (.bool false) (some 89) ?_
     refine lnow 1 (.bool false) (some 90) ?_
     refine lpas 2 (some 91) ?_
     refine lpas 3 (some 92) ?_
     refine lpas 4 (some 93) ?_
     refine lpas 5 (some 94) ?_
     refine lnow 6 (.bool false) (some 95) ?_
     refine lnow 7 (.bool false) (some 96) ?_
     refine lnow 8 (.bool false) (some 97) ?_
     refine lnow 9 (.bool true) (some 98) ?_
     refine lnow 10 (.bool true) (some 99) ?_
     refine lnow 11 (.pointer (some ⟨q, 2, none⟩)) (some 100) ?_
     refine lcl 12 (strT s) (some 101) 9 100 (q) 2 (BQ.out.cell (by rw [← hCS.out]; rfl)) Try.underlying9 ?_
     refine lnowP 13 (.bool (!decide (s = []))) (some 102) (exec_strneT 9 9 (.tmp 101) (.const (.string ⟨#[]⟩)) (by kernel_rfl) s [] (by kernel_rfl) (by kernel_rfl) (fun _ => rfl)) ?_
     rw [show (!decide (s = [])) = true by rw [decide_eq_false he]; rfl]
     refine lnow 14 (.bool true) (some 103) ?_
     refine lnow 15 (.bool true) (some 104) ?_
     refine lnow 16 (.bool true) (some 105) ?_
     refine lpas 17 (some 106) ?_
     refine lpas 18 (some 107) ?_
     refine lpas 19 (some 108) ?_
     refine lnow 20 (.bool true) (some 109) ?_
     refine ldn 21 ?_
     generalize hact : Act.put _ (some 109) _ = act
     simp only [Act.put, sA, sC, sZ] at hact
     subst hact
     go_wp2
     go_ret
     exact ⟨by rw [NO.out (fun h => by exact he (h.nn KN.out))]; rfl, BE.out⟩
    have NM : Hid (((k = 4 ∨ k = 9) → wordB s = true) ∧ (¬ (k = 4 ∨ k = 9) → s = [])) := ⟨fun h => absurd h KN.out, fun _ => he⟩
    by_cases hn : n < 0
    ·skip
     go_upto_region 10 with (fail)
     refine lbeg (opsOf Try.f73 10) ?_
     refine lnow 0 (.bool false) (some 89) ?_
     refine lnow 1 (.bool false) (some 90) ?_
     refine lpas 2 (some 91) ?_
     refine lpas 3 (some 92) ?_
     refine lpas 4 (some 93) ?_
     refine lpas 5 (some 94) ?_
     refine lnow 6 (.bool false) (some 95) ?_
     refine lnow 7 (.bool false) (some 96) ?_
     refine lnow 8 (.bool false) (some 97) ?_
     refine lnow 9 (.bool true) (some 98) ?_
     refine lnow 10 (.bool true) (some 99) ?_
     refine lnow 11 (.pointer (some ⟨q, 2, none⟩)) (some 100) ?_
     refine lcl 12 (strT s) (some 101) 9 100 (q) 2 (BQ.out.cell (by rw [← hCS.out]; rfl)) Try.underlying9 ?_
     refine lnowP 13 (.bool (!decide (s = []))) (some 102) (exec_strneT 9 9 (.tmp 101) (.const (.string ⟨#[]⟩)) (by kernel_rfl) s [] (by kernel_rfl) (by kernel_rfl) (fun _ => rfl)) ?_
     rw [show (!decide (s = [])) = false by rw [decide_eq_true he]; rfl]
     refine lnow 14 (.bool false) (some 103) ?_
     refine lnow 15 (.bool false) (some 104) ?_
     refine lnow 16 (.bool false) (some 105) ?_
     refine lnow 17 (.pointer (some ⟨q, 1, none⟩)) (some 106) ?_
     refine lcl 18 (.int .i64 n) (some 107) 3 106 (q) 1 (BQ.out.cell (by rw [← hCS.out]; rfl)) Try.underlying3 ?_
     refine lnow 19 (.bool (decide (n < 0))) (some 108) ?_
     rw [show decide (n < 0) = true from decide_eq_true hn]
     refine lnow 20 (.bool true) (some 109) ?_
     refine ldn 21 ?_
     generalize hact : Act.put _ (some 109) _ = act
     simp only [Act.put, sA, sC, sZ] at hact
     subst hact
     go_wp2
     go_ret
     exact ⟨by rw [NO.out (fun h => by have := h.n0; omega)]; rfl, BE.out⟩
    go_upto_region 10 with (fail)
    refine lbeg (opsOf Try.f73 10) ?_
    refine lnow 0 (.bool false) (some 89) ?_
    refine lnow 1 (.bool false) (some 90) ?_
    refine lpas 2 (some 91) ?_
    refine lpas 3 (some 92) ?_
    refine lpas 4 (some 93) ?_
    refine lpas 5 (some 94) ?_
    refine lnow 6 (.bool false) (some 95) ?_
    refine lnow 7 (.bool false) (some 96) ?_
    refine lnow 8 (.bool false) (some 97) ?_
    refine lnow 9 (.bool true) (some 98) ?_
    refine lnow 10 (.bool true) (some 99) ?_
    refine lnow 11 (.pointer (some ⟨q, 2, none⟩)) (some 100) ?_
    refine lcl 12 (strT s) (some 101) 9 100 (q) 2 (BQ.out.cell (by rw [← hCS.out]; rfl)) Try.underlying9 ?_
    refine lnowP 13 (.bool (!decide (s = []))) (some 102) (exec_strneT 9 9 (.tmp 101) (.const (.string ⟨#[]⟩)) (by kernel_rfl) s [] (by kernel_rfl) (by kernel_rfl) (fun _ => rfl)) ?_
    rw [show (!decide (s = [])) = false by rw [decide_eq_true he]; rfl]
    refine lnow 14 (.bool false) (some 103) ?_
    refine lnow 15 (.bool false) (some 104) ?_
    refine lnow 16 (.bool false) (some 105) ?_
    refine lnow 17 (.pointer (some ⟨q, 1, none⟩)) (some 106) ?_
    refine lcl 18 (.int .i64 n) (some 107) 3 106 (q) 1 (BQ.out.cell (by rw [← hCS.out]; rfl)) Try.underlying3 ?_
    refine lnow 19 (.bool (decide (n < 0))) (some 108) ?_
    rw [show decide (n < 0) = false from decide_eq_false hn]
    refine lnow 20 (.bool false) (some 109) ?_
    refine ldn 21 ?_
    generalize hact : Act.put _ (some 109) _ = act
    simp only [Act.put, sA, sC, sZ] at hact
    subst hact
    clear KN
    by_cases n1 : k = 1
    ·skip
     by_cases hb : n ≥ v
     ·skip
      go_upto_region 12 with (fail)
      refine lbeg (opsOf Try.f73 12) ?_
      refine lnow 0 (.pointer (some ⟨q, 0, none⟩)) (some 110) ?_
      refine lcl 1 (.int .i64 k) (some 111) 3 110 (q) 0 (BQ.out.cell (by rw [← hCS.out]; rfl)) Try.underlying3 ?_
      refine lnowP 2 (.bool true) (some 112) (exec_eqli_yes n1 (by kernel_rfl)) ?_
      refine lnow 3 (.bool true) (some 113) ?_
      refine lnow 4 (.pointer (some ⟨q, 1, none⟩)) (some 114) ?_
      refine lcl 5 (.int .i64 n) (some 115) 3 114 (q) 1 (BQ.out.cell (by rw [← hCS.out]; rfl)) Try.underlying3 ?_
      refine lnow 6 (.int .i64 v) (some 116) ?_
      refine lnow 7 (.bool (decide (n ≥ v))) (some 117) ?_
      rw [show decide (n ≥ v) = true from decide_eq_true hb]
      refine lnow 8 (.bool true) (some 118) ?_
      refine lnow 9 (.bool true) (some 119) ?_
      refine lpas 10 (some 120) ?_
      refine lpas 11 (some 121) ?_
      refine lpas 12 (some 122) ?_
      refine lpas 13 (some 123) ?_
      refine lpas 14 (some 124) ?_
      refine lpas 15 (some 125) ?_
      refine lpas 16 (some 126) ?_
      refine lpas 17 (some 127) ?_
      refine lnow 18 (.bool true) (some 128) ?_
      refine lnow 19 (.bool true) (some 129) ?_
      refine lpas 20 (some 130) ?_
      refine lpas 21 (some 131) ?_
      refine lpas 22 (some 132) ?_
      refine lpas 23 (some 133) ?_
      refine lpas 24 (some 134) ?_
      refine lpas 25 (some 135) ?_
      refine lpas 26 (some 136) ?_
      refine lpas 27 (some 137) ?_
      refine lpas 28 (some 138) ?_
      refine lpas 29 (some 139) ?_
      refine lpas 30 (some 140) ?_
      refine lpas 31 (some 141) ?_
      refine lpas 32 (some 142) ?_
      refine lnow 33 (.bool true) (some 143) ?_
      refine ldn 34 ?_
      generalize hact : Act.put _ (some 143) _ = act
      simp only [Act.put, sA, sC, sZ] at hact
      subst hact
      go_wp2
      go_ret
      exact ⟨by rw [NO.out (fun h => by have := h.nv n1; omega)]; rfl, BE.out⟩
     have NN : Hid (0 ≤ n ∧ (k = 1 → n < v) ∧ (k = 9 → n ≤ 31) ∧ (k ≠ 1 → k ≠ 9 → n = 0)) := by rw [Hid]; omega
     go_upto_region 12 with (fail)
     refine lbeg (opsOf Try.f73 12) ?_
     refine lnow 0 (.pointer (some ⟨q, 0, none⟩)) (some 110) ?_
     refine lcl 1 (.int .i64 k) (some 111) 3 110 (q) 0 (BQ.out.cell (by rw [← hCS.out]; rfl)) Try.underlying3 ?_
     refine lnowP 2 (.bool true) (some 112) (exec_eqli_yes n1 (by kernel_rfl)) ?_
     refine lnow 3 (.bool true) (some 113) ?_
     refine lnow 4 (.pointer (some ⟨q, 1, none⟩)) (some 114) ?_
     refine lcl 5 (.int .i64 n) (some 115) 3 114 (q) 1 (BQ.out.cell (by rw [← hCS.out]; rfl)) Try.underlying3 ?_
     refine lnow 6 (.int .i64 v) (some 116) ?_
     refine lnow 7 (.bool (decide (n ≥ v))) (some 117) ?_
     rw [show decide (n ≥ v) = false from decide_eq_false hb]
     refine lnow 8 (.bool false) (some 118) ?_
     refine lnow 9 (.bool false) (some 119) ?_
     refine lnow 10 (.pointer (some ⟨q, 0, none⟩)) (some 120) ?_
     refine lcl 11 (.int .i64 k) (some 121) 3 120 (q) 0 (BQ.out.cell (by rw [← hCS.out]; rfl)) Try.underlying3 ?_
     refine lnowP 12 (.bool false) (some 122) (exec_eqli n9 (by kernel_rfl)) ?_
     refine lnow 13 (.bool false) (some 123) ?_
     refine lpas 14 (some 124) ?_
     refine lpas 15 (some 125) ?_
     refine lpas 16 (some 126) ?_
     refine lnow 17 (.bool false) (some 127) ?_
     refine lnow 18 (.bool false) (some 128) ?_
     refine lnow 19 (.bool false) (some 129) ?_
     refine lnow 20 (.pointer (some ⟨q, 0, none⟩)) (some 130) ?_
     refine lcl 21 (.int .i64 k) (some 131) 3 130 (q) 0 (BQ.out.cell (by rw [← hCS.out]; rfl)) Try.underlying3 ?_
     refine lnow 22 (.bool (!decide (k = 1))) (some 132) ?_
     rw [show (!decide (k = 1)) = false by rw [decide_eq_true n1]; rfl]
     refine lnow 23 (.bool false) (some 133) ?_
     refine lpas 24 (some 134) ?_
     refine lpas 25 (some 135) ?_
     refine lpas 26 (some 136) ?_
     refine lnow 27 (.bool false) (some 137) ?_
     refine lnow 28 (.bool false) (some 138) ?_
     refine lpas 29 (some 139) ?_
     refine lpas 30 (some 140) ?_
     refine lpas 31 (some 141) ?_
     refine lnow 32 (.bool false) (some 142) ?_
     refine lnow 33 (.bool false) (some 143) ?_
     refine ldn 34 ?_
     generalize hact : Act.put _ (some 143) _ = act
     simp only [Act.put, sA, sC, sZ] at hact
     subst hact
     clear hb hn
     go_upto_region 14 with (fail)
     refine lbeg (opsOf Try.f73 14) ?_
     refine lnow 0 (.int .i64 0) (some 13) ?_
     refine ldn 1 ?_
     generalize hact : Act.put _ (some 13) _ = act
     simp only [Act.put, sA, sC, sZ] at hact
     subst hact
     go_wp2
     go_loopw [13] (fun iv wr => ∃ i : Nat, i ≤ N ∧ iv = .int .i64 (i : Int) ∧ Hid (∀ (j : Nat) (x : Tm), j < i → a[j]? = some x → rightT wordB p (v + moreT k j) (deep + moreT k j) x = true) ∧ Hid (Blk wr q 25 CS) ∧ Hid (Below w.heap.size w wr)) (fun iv _ => N - (intOf iv).toNat)
     case atStart => exact ⟨0, Nat.zero_le _, rfl, fun j x hj => absurd hj (Nat.not_lt_zero _), BQ, BE⟩
     case round =>
      obtain ⟨i, hi, rfl, AL2, BQ, BE⟩ := hrel
      by_cases hlt : i < N
      rotate_left
      ·skip
       have cl : ¬ (i : Int) < (N : Int) := by omega
       go_upto_region 15 with (fail)
       refine lbeg (opsOf Try.f73 15) ?_
       refine lnow 0 (.int .i64 (i : Int)) (some 144) ?_
       refine lnow 1 (.pointer (some ⟨q, 4, none⟩)) (some 145) ?_
       refine lcl 2 (.slice aa N ac) (some 146) 23 145 (q) 4 (BQ.out.cell (by rw [← hCS.out]; rfl)) Try.underlying23 ?_
       refine lnow 3 (.int .i64 (N : Int)) (some 147) ?_
       refine lnow 4 (.bool (decide ((i : Int) < (N : Int)))) (some 148) ?_
       rw [show decide ((i : Int) < (N : Int)) = false from decide_eq_false cl]
       refine ldn 5 ?_
       generalize hact : Act.put _ (some 148) _ = act
       simp only [Act.put, sA, sC, sZ] at hact
       subst hact
       have FIN : Hid (R = true) := YES.out ⟨G0.out.1, G0.out.2.1, G0.out.2.2.1, by rw [hN.out, hA.out]; have := G0.out.2.2.2; omega, by rw [hL.out, hz.out]; exact G1.out.1, by rw [hL.out]; exact G1.out.2, AL.out, NM.out.1, NM.out.2, NN.out.1, NN.out.2.1, NN.out.2.2.1, NN.out.2.2.2, (rights_at a 0).2 (fun j x hx => by
        rw [Nat.zero_add]
        exact AL2.out j x (by have h1 := (List.getElem?_eq_some_iff.1 hx).1; have h2 := hN.out; omega) hx)⟩
       go_upto_region 22 with (fail)
       refine lbeg (opsOf Try.f73 22) ?_
       refine lnow 0 (.bool true) (some 8) ?_
       refine ldn 1 ?_
       generalize hact : Act.put _ (some 8) _ = act
       simp only [Act.put, sA, sC, sZ] at hact
       subst hact
       go_wp2
       go_ret
       exact ⟨by rw [FIN.out]; rfl, BE.out⟩
      have cl : (i : Int) < (N : Int) := by omega
      have H2r : TmsAt F wr a (.slice aa N ac) := H2.out.below BE.out
      obtain ⟨x, pb, po, cx, hx, hxm, haa, -, -, -, hrx, htx⟩ := H2r.get hN.out hlt
      subst haa
      have SX := SmTs.mem SS.out hxm
      have HX := Lib.hid hx
      have HRX := Lib.hid hrx
      have X5 := Lib.hid htx.len
      have XM := Lib.hid hxm
      obtain ⟨m, hm⟩ : ∃ m, Hid (moreT k i = m) := ⟨_, rfl⟩
      have hm01 : 0 ≤ m ∧ m ≤ 1 := by have := more_01 k i; rw [hm.out] at this; exact this
      have CALL := fun w1 (hb1 : Below wr.heap.size wr w1) => IH.out x XM.out cx w1 p (v + m) (deep + m) F (htx.below hb1) SX hp (by have := G0.out; omega) (by omega)
      obtain ⟨rx, hrxx⟩ : ∃ y, Hid (rightT wordB p (v + m) (deep + m) x = y) := ⟨_, rfl⟩
      rw [hrxx.out] at CALL
      clear H2r hx hxm hrx htx SX
      have BW := binds_walk k i
      have hmb : (decide (((k = 6 ∨ k = 7) ∧ (i : Int) = 1) ∨ (k = 8 ∧ (i : Int) = 2))) = decide (m = 1) := by
       rw [← hm.out, decide_eq_decide]
       unfold moreT
       split <;> omega
      rw [hmb] at BW
      clear hmb
      go_upto_region 15 with (fail)
      refine lbeg (opsOf Try.f73 15) ?_
      refine lnow 0 (.int .i64 (i : Int)) (some 144) ?_
      refine lnow 1 (.pointer (some ⟨q, 4, none⟩)) (some 145) ?_
      refine lcl 2 (.slice (some ⟨pb, po, none⟩) N ac) (some 146) 23 145 (q) 4 (BQ.out.cell (by rw [← hCS.out]; rfl)) Try.underlying23 ?_
      refine lnow 3 (.int .i64 (N : Int)) (some 147) ?_
      refine lnow 4 (.bool (decide ((i : Int) < (N : Int)))) (some 148) ?_
      rw [show decide ((i : Int) < (N : Int)) = true from decide_eq_true cl]
      refine ldn 5 ?_
      generalize hact : Act.put _ (some 148) _ = act
      simp only [Act.put, sA, sC, sZ] at hact
      subst hact
      go_upto_region 17 with (fail)
      refine lbeg (opsOf Try.f73 17) ?_
      refine lnow 0 (.int .i64 0) (some 14) ?_
      refine ldn 1 ?_
      generalize hact : Act.put _ (some 14) _ = act
      simp only [Act.put, sA, sC, sZ] at hact
      subst hact
      by_cases hm1 : m = 1
      ·skip
       go_upto_region 18 with (fail)
       refine lbeg (opsOf Try.f73 18) ?_
       refine lnow 0 (.pointer (some ⟨q, 0, none⟩)) (some 151) ?_
       refine lcl 1 (.int .i64 k) (some 152) 3 151 (q) 0 (BQ.out.cell (by rw [← hCS.out]; rfl)) Try.underlying3 ?_
       refine lnow 2 (.int .i64 (i : Int)) (some 153) ?_
       refine lcal 3 96 #[.int .i64 k, .int .i64 (i : Int)] (some 154) _ (BW wr) ?_
       rintro e w' ⟨rfl, hw'⟩
       obtain rfl := hw'.symm
       refine ⟨_, rfl, ?_⟩
       rw [show decide (m = 1) = true from decide_eq_true hm1]
       refine ldn 4 ?_
       generalize hact : Act.put _ (some 154) _ = act
       simp only [Act.put, sA, sC, sZ] at hact
       subst hact
       clear BW
       go_upto_region 19 with (fail)
       refine lbeg (opsOf Try.f73 19) ?_
       refine lnow 0 (.int .i64 1) (some 14) ?_
       refine ldn 1 ?_
       generalize hact : Act.put _ (some 14) _ = act
       simp only [Act.put, sA, sC, sZ] at hact
       subst hact
       cases rx
       ·skip
        go_upto_region 20 with (fail)
        refine lbeg (opsOf Try.f73 20) ?_
        refine lnow 0 (.pointer (some ⟨q, 4, none⟩)) (some 155) ?_
        refine lcl 1 (.slice (some ⟨pb, po, none⟩) N ac) (some 156) 23 155 (q) 4 (BQ.out.cell (by rw [← hCS.out]; rfl)) Try.underlying23 ?_
        refine lnow 2 (.int .i64 (i : Int)) (some 157) ?_
        refine lix 3 (.pointer (some ⟨pb, po + 5 * i, none⟩)) (some 158) 23 156 157 (run_at_tm pb po N ac i hlt _) ?_
        refine lrl 4 cx (some 159) 25 158 pb (po + 5 * i) HRX.out Try.underlying25 (t5Size X5.out) ?_
        refine lnow 5 (.int .i64 p) (some 160) ?_
        refine lnow 6 (.int .i64 v) (some 161) ?_
        refine lnow 7 (.int .i64 1) (some 162) ?_
        refine lnow 8 (.int .i64 (IntKind.i64.wrap (v + 1))) (some 163) ?_
        rw [show IntKind.i64.wrap (v + 1) = v + m by rw [IntWalk.i64_in _ (by have := G0.out; omega)]; omega]
        refine lnow 9 (.int .i64 deep) (some 164) ?_
        refine lnow 10 (.int .i64 1) (some 165) ?_
        refine lnow 11 (.int .i64 (IntKind.i64.wrap (deep + 1))) (some 166) ?_
        rw [show IntKind.i64.wrap (deep + 1) = deep + m by rw [IntWalk.i64_in _ (by have := G0.out; omega)]; omega]
        refine lcal 12 73 #[.agg cx.toArray, .int .i64 p, .int .i64 (v + m), .int .i64 (deep + m)] (some 167) _ (CALL wr (Below.refl _ _)) ?_
        rintro e w2 ⟨rfl, hb⟩
        refine ⟨_, rfl, ?_⟩
        have BE2 : Hid (Below w.heap.size w w2) := BE.out.trans (hb.mono BE.out.size)
        have BQ2 : Hid (Blk w2 q 25 CS) := BQ.out.below hb BQ.out.lt
        clear hb CALL
        refine lnow 13 (.bool true) (some 168) ?_
        refine ldn 14 ?_
        generalize hact : Act.put _ (some 168) _ = act
        simp only [Act.put, sA, sC, sZ] at hact
        subst hact
        go_wp2
        go_ret
        exact ⟨by rw [NO.out (fun h => by have h1 := (rights_at a 0).1 h.parts i x HX.out; rw [Nat.zero_add, hm.out, hrxx.out] at h1; cases h1)]; rfl, BE2.out⟩
       ·skip
        go_upto_region 20 with (fail)
        refine lbeg (opsOf Try.f73 20) ?_
        refine lnow 0 (.pointer (some ⟨q, 4, none⟩)) (some 155) ?_
        refine lcl 1 (.slice (some ⟨pb, po, none⟩) N ac) (some 156) 23 155 (q) 4 (BQ.out.cell (by rw [← hCS.out]; rfl)) Try.underlying23 ?_
        refine lnow 2 (.int .i64 (i : Int)) (some 157) ?_
        refine lix 3 (.pointer (some ⟨pb, po + 5 * i, none⟩)) (some 158) 23 156 157 (run_at_tm pb po N ac i hlt _) ?_
        refine lrl 4 cx (some 159) 25 158 pb (po + 5 * i) HRX.out Try.underlying25 (t5Size X5.out) ?_
        refine lnow 5 (.int .i64 p) (some 160) ?_
        refine lnow 6 (.int .i64 v) (some 161) ?_
        refine lnow 7 (.int .i64 1) (some 162) ?_
        refine lnow 8 (.int .i64 (IntKind.i64.wrap (v + 1))) (some 163) ?_
        rw [show IntKind.i64.wrap (v + 1) = v + m by rw [IntWalk.i64_in _ (by have := G0.out; omega)]; omega]
        refine lnow 9 (.int .i64 deep) (some 164) ?_
        refine lnow 10 (.int .i64 1) (some 165) ?_
        refine lnow 11 (.int .i64 (IntKind.i64.wrap (deep + 1))) (some 166) ?_
        rw [show IntKind.i64.wrap (deep + 1) = deep + m by rw [IntWalk.i64_in _ (by have := G0.out; omega)]; omega]
        refine lcal 12 73 #[.agg cx.toArray, .int .i64 p, .int .i64 (v + m), .int .i64 (deep + m)] (some 167) _ (CALL wr (Below.refl _ _)) ?_
        rintro e w2 ⟨rfl, hb⟩
        refine ⟨_, rfl, ?_⟩
        have BE2 : Hid (Below w.heap.size w w2) := BE.out.trans (hb.mono BE.out.size)
        have BQ2 : Hid (Blk w2 q 25 CS) := BQ.out.below hb BQ.out.lt
        clear hb CALL
        refine lnow 13 (.bool false) (some 168) ?_
        refine ldn 14 ?_
        generalize hact : Act.put _ (some 168) _ = act
        simp only [Act.put, sA, sC, sZ] at hact
        subst hact
        have NX : Hid (∀ (j : Nat) (y : Tm), j < i + 1 → a[j]? = some y → rightT wordB p (v + moreT k j) (deep + moreT k j) y = true) := fun j y hj hy => by
         by_cases e : j = i
         ·subst e; rw [HX.out] at hy; cases hy; rw [hm.out]; exact hrxx.out
         ·exact AL2.out j y (by omega) hy
        clear AL2 HX HRX X5 XM hm hrxx BQ BE hm01
        have bl := sa
        go_wp2
        go_roundw
        case rel => exact ⟨i + 1, by omega, by go_num, NX, BQ2, BE2⟩
        case measure => simp [intOf]; omega
      ·skip
       go_upto_region 18 with (fail)
       refine lbeg (opsOf Try.f73 18) ?_
       refine lnow 0 (.pointer (some ⟨q, 0, none⟩)) (some 151) ?_
       refine lcl 1 (.int .i64 k) (some 152) 3 151 (q) 0 (BQ.out.cell (by rw [← hCS.out]; rfl)) Try.underlying3 ?_
       refine lnow 2 (.int .i64 (i : Int)) (some 153) ?_
       refine lcal 3 96 #[.int .i64 k, .int .i64 (i : Int)] (some 154) _ (BW wr) ?_
       rintro e w' ⟨rfl, hw'⟩
       obtain rfl := hw'.symm
       refine ⟨_, rfl, ?_⟩
       rw [show decide (m = 1) = false from decide_eq_false hm1]
       refine ldn 4 ?_
       generalize hact : Act.put _ (some 154) _ = act
       simp only [Act.put, sA, sC, sZ] at hact
       subst hact
       clear BW
       cases rx
       ·skip
        go_upto_region 20 with (fail)
        refine lbeg (opsOf Try.f73 20) ?_
        refine lnow 0 (.pointer (some ⟨q, 4, none⟩)) (some 155) ?_
        refine lcl 1 (.slice (some ⟨pb, po, none⟩) N ac) (some 156) 23 155 (q) 4 (BQ.out.cell (by rw [← hCS.out]; rfl)) Try.underlying23 ?_
        refine lnow 2 (.int .i64 (i : Int)) (some 157) ?_
        refine lix 3 (.pointer (some ⟨pb, po + 5 * i, none⟩)) (some 158) 23 156 157 (run_at_tm pb po N ac i hlt _) ?_
        refine lrl 4 cx (some 159) 25 158 pb (po + 5 * i) HRX.out Try.underlying25 (t5Size X5.out) ?_
        refine lnow 5 (.int .i64 p) (some 160) ?_
        refine lnow 6 (.int .i64 v) (some 161) ?_
        refine lnow 7 (.int .i64 0) (some 162) ?_
        refine lnow 8 (.int .i64 (IntKind.i64.wrap (v + 0))) (some 163) ?_
        rw [show IntKind.i64.wrap (v + 0) = v + m by rw [IntWalk.i64_in _ (by have := G0.out; omega)]; omega]
        refine lnow 9 (.int .i64 deep) (some 164) ?_
        refine lnow 10 (.int .i64 0) (some 165) ?_
        refine lnow 11 (.int .i64 (IntKind.i64.wrap (deep + 0))) (some 166) ?_
        rw [show IntKind.i64.wrap (deep + 0) = deep + m by rw [IntWalk.i64_in _ (by have := G0.out; omega)]; omega]
        refine lcal 12 73 #[.agg cx.toArray, .int .i64 p, .int .i64 (v + m), .int .i64 (deep + m)] (some 167) _ (CALL wr (Below.refl _ _)) ?_
        rintro e w2 ⟨rfl, hb⟩
        refine ⟨_, rfl, ?_⟩
        have BE2 : Hid (Below w.heap.size w w2) := BE.out.trans (hb.mono BE.out.size)
        have BQ2 : Hid (Blk w2 q 25 CS) := BQ.out.below hb BQ.out.lt
        clear hb CALL
        refine lnow 13 (.bool true) (some 168) ?_
        refine ldn 14 ?_
        generalize hact : Act.put _ (some 168) _ = act
        simp only [Act.put, sA, sC, sZ] at hact
        subst hact
        go_wp2
        go_ret
        exact ⟨by rw [NO.out (fun h => by have h1 := (rights_at a 0).1 h.parts i x HX.out; rw [Nat.zero_add, hm.out, hrxx.out] at h1; cases h1)]; rfl, BE2.out⟩
       ·skip
        go_upto_region 20 with (fail)
        refine lbeg (opsOf Try.f73 20) ?_
        refine lnow 0 (.pointer (some ⟨q, 4, none⟩)) (some 155) ?_
        refine lcl 1 (.slice (some ⟨pb, po, none⟩) N ac) (some 156) 23 155 (q) 4 (BQ.out.cell (by rw [← hCS.out]; rfl)) Try.underlying23 ?_
        refine lnow 2 (.int .i64 (i : Int)) (some 157) ?_
        refine lix 3 (.pointer (some ⟨pb, po + 5 * i, none⟩)) (some 158) 23 156 157 (run_at_tm pb po N ac i hlt _) ?_
        refine lrl 4 cx (some 159) 25 158 pb (po + 5 * i) HRX.out Try.underlying25 (t5Size X5.out) ?_
        refine lnow 5 (.int .i64 p) (some 160) ?_
        refine lnow 6 (.int .i64 v) (some 161) ?_
        refine lnow 7 (.int .i64 0) (some 162) ?_
        refine lnow 8 (.int .i64 (IntKind.i64.wrap (v + 0))) (some 163) ?_
        rw [show IntKind.i64.wrap (v + 0) = v + m by rw [IntWalk.i64_in _ (by have := G0.out; omega)]; omega]
        refine lnow 9 (.int .i64 deep) (some 164) ?_
        refine lnow 10 (.int .i64 0) (some 165) ?_
        refine lnow 11 (.int .i64 (IntKind.i64.wrap (deep + 0))) (some 166) ?_
        rw [show IntKind.i64.wrap (deep + 0) = deep + m by rw [IntWalk.i64_in _ (by have := G0.out; omega)]; omega]
        refine lcal 12 73 #[.agg cx.toArray, .int .i64 p, .int .i64 (v + m), .int .i64 (deep + m)] (some 167) _ (CALL wr (Below.refl _ _)) ?_
        rintro e w2 ⟨rfl, hb⟩
        refine ⟨_, rfl, ?_⟩
        have BE2 : Hid (Below w.heap.size w w2) := BE.out.trans (hb.mono BE.out.size)
        have BQ2 : Hid (Blk w2 q 25 CS) := BQ.out.below hb BQ.out.lt
        clear hb CALL
        refine lnow 13 (.bool false) (some 168) ?_
        refine ldn 14 ?_
        generalize hact : Act.put _ (some 168) _ = act
        simp only [Act.put, sA, sC, sZ] at hact
        subst hact
        have NX : Hid (∀ (j : Nat) (y : Tm), j < i + 1 → a[j]? = some y → rightT wordB p (v + moreT k j) (deep + moreT k j) y = true) := fun j y hj hy => by
         by_cases e : j = i
         ·subst e; rw [HX.out] at hy; cases hy; rw [hm.out]; exact hrxx.out
         ·exact AL2.out j y (by omega) hy
        clear AL2 HX HRX X5 XM hm hrxx BQ BE hm01
        have bl := sa
        go_wp2
        go_roundw
        case rel => exact ⟨i + 1, by omega, by go_num, NX, BQ2, BE2⟩
        case measure => simp [intOf]; omega
    ·skip
     by_cases hb : n = 0
     rotate_left
     ·skip
      go_upto_region 12 with (fail)
      refine lbeg (opsOf Try.f73 12) ?_
      refine lnow 0 (.pointer (some ⟨q, 0, none⟩)) (some 110) ?_
      refine lcl 1 (.int .i64 k) (some 111) 3 110 (q) 0 (BQ.out.cell (by rw [← hCS.out]; rfl)) Try.underlying3 ?_
      refine lnowP 2 (.bool false) (some 112) (exec_eqli n1 (by kernel_rfl)) ?_
      refine lnow 3 (.bool false) (some 113) ?_
      refine lpas 4 (some 114) ?_
      refine lpas 5 (some 115) ?_
      refine lpas 6 (some 116) ?_
      refine lpas 7 (some 117) ?_
      refine lnow 8 (.bool false) (some 118) ?_
      refine lnow 9 (.bool false) (some 119) ?_
      refine lnow 10 (.pointer (some ⟨q, 0, none⟩)) (some 120) ?_
      refine lcl 11 (.int .i64 k) (some 121) 3 120 (q) 0 (BQ.out.cell (by rw [← hCS.out]; rfl)) Try.underlying3 ?_
      refine lnowP 12 (.bool false) (some 122) (exec_eqli n9 (by kernel_rfl)) ?_
      refine lnow 13 (.bool false) (some 123) ?_
      refine lpas 14 (some 124) ?_
      refine lpas 15 (some 125) ?_
      refine lpas 16 (some 126) ?_
      refine lnow 17 (.bool false) (some 127) ?_
      refine lnow 18 (.bool false) (some 128) ?_
      refine lnow 19 (.bool false) (some 129) ?_
      refine lnow 20 (.pointer (some ⟨q, 0, none⟩)) (some 130) ?_
      refine lcl 21 (.int .i64 k) (some 131) 3 130 (q) 0 (BQ.out.cell (by rw [← hCS.out]; rfl)) Try.underlying3 ?_
      refine lnow 22 (.bool (!decide (k = 1))) (some 132) ?_
      rw [show (!decide (k = 1)) = true by rw [decide_eq_false n1]; rfl]
      refine lnow 23 (.bool true) (some 133) ?_
      refine lnow 24 (.pointer (some ⟨q, 0, none⟩)) (some 134) ?_
      refine lcl 25 (.int .i64 k) (some 135) 3 134 (q) 0 (BQ.out.cell (by rw [← hCS.out]; rfl)) Try.underlying3 ?_
      refine lnow 26 (.bool (!decide (k = 9))) (some 136) ?_
      rw [show (!decide (k = 9)) = true by rw [decide_eq_false n9]; rfl]
      refine lnow 27 (.bool true) (some 137) ?_
      refine lnow 28 (.bool true) (some 138) ?_
      refine lnow 29 (.pointer (some ⟨q, 1, none⟩)) (some 139) ?_
      refine lcl 30 (.int .i64 n) (some 140) 3 139 (q) 1 (BQ.out.cell (by rw [← hCS.out]; rfl)) Try.underlying3 ?_
      refine lnow 31 (.bool (!decide (n = 0))) (some 141) ?_
      rw [show (!decide (n = 0)) = true by rw [decide_eq_false hb]; rfl]
      refine lnow 32 (.bool true) (some 142) ?_
      refine lnow 33 (.bool true) (some 143) ?_
      refine ldn 34 ?_
      generalize hact : Act.put _ (some 143) _ = act
      simp only [Act.put, sA, sC, sZ] at hact
      subst hact
      go_wp2
      go_ret
      exact ⟨by rw [NO.out (fun h => by have := h.nz n1 n9; omega)]; rfl, BE.out⟩
     have NN : Hid (0 ≤ n ∧ (k = 1 → n < v) ∧ (k = 9 → n ≤ 31) ∧ (k ≠ 1 → k ≠ 9 → n = 0)) := by rw [Hid]; omega
     go_upto_region 12 with (fail)
     refine lbeg (opsOf Try.f73 12) ?_
     refine lnow 0 (.pointer (some ⟨q, 0, none⟩)) (some 110) ?_
     refine lcl 1 (.int .i64 k) (some 111) 3 110 (q) 0 (BQ.out.cell (by rw [← hCS.out]; rfl)) Try.underlying3 ?_
     refine lnowP 2 (.bool false) (some 112) (exec_eqli n1 (by kernel_rfl)) ?_
     refine lnow 3 (.bool false) (some 113) ?_
     refine lpas 4 (some 114) ?_
     refine lpas 5 (some 115) ?_
     refine lpas 6 (some 116) ?_
     refine lpas 7 (some 117) ?_
     refine lnow 8 (.bool false) (some 118) ?_
     refine lnow 9 (.bool false) (some 119) ?_
     refine lnow 10 (.pointer (some ⟨q, 0, none⟩)) (some 120) ?_
     refine lcl 11 (.int .i64 k) (some 121) 3 120 (q) 0 (BQ.out.cell (by rw [← hCS.out]; rfl)) Try.underlying3 ?_
     refine lnowP 12 (.bool false) (some 122) (exec_eqli n9 (by kernel_rfl)) ?_
     refine lnow 13 (.bool false) (some 123) ?_
     refine lpas 14 (some 124) ?_
     refine lpas 15 (some 125) ?_
     refine lpas 16 (some 126) ?_
     refine lnow 17 (.bool false) (some 127) ?_
     refine lnow 18 (.bool false) (some 128) ?_
     refine lnow 19 (.bool false) (some 129) ?_
     refine lnow 20 (.pointer (some ⟨q, 0, none⟩)) (some 130) ?_
     refine lcl 21 (.int .i64 k) (some 131) 3 130 (q) 0 (BQ.out.cell (by rw [← hCS.out]; rfl)) Try.underlying3 ?_
     refine lnow 22 (.bool (!decide (k = 1))) (some 132) ?_
     rw [show (!decide (k = 1)) = true by rw [decide_eq_false n1]; rfl]
     refine lnow 23 (.bool true) (some 133) ?_
     refine lnow 24 (.pointer (some ⟨q, 0, none⟩)) (some 134) ?_
     refine lcl 25 (.int .i64 k) (some 135) 3 134 (q) 0 (BQ.out.cell (by rw [← hCS.out]; rfl)) Try.underlying3 ?_
     refine lnow 26 (.bool (!decide (k = 9))) (some 136) ?_
     rw [show (!decide (k = 9)) = true by rw [decide_eq_false n9]; rfl]
     refine lnow 27 (.bool true) (some 137) ?_
     refine lnow 28 (.bool true) (some 138) ?_
     refine lnow 29 (.pointer (some ⟨q, 1, none⟩)) (some 139) ?_
     refine lcl 30 (.int .i64 n) (some 140) 3 139 (q) 1 (BQ.out.cell (by rw [← hCS.out]; rfl)) Try.underlying3 ?_
     refine lnow 31 (.bool (!decide (n = 0))) (some 141) ?_
     rw [show (!decide (n = 0)) = false by rw [decide_eq_true hb]; rfl]
     refine lnow 32 (.bool false) (some 142) ?_
     refine lnow 33 (.bool false) (some 143) ?_
     refine ldn 34 ?_
     generalize hact : Act.put _ (some 143) _ = act
     simp only [Act.put, sA, sC, sZ] at hact
     subst hact
     clear hb hn
     go_upto_region 14 with (fail)
     refine lbeg (opsOf Try.f73 14) ?_
     refine lnow 0 (.int .i64 0) (some 13) ?_
     refine ldn 1 ?_
     generalize hact : Act.put _ (some 13) _ = act
     simp only [Act.put, sA, sC, sZ] at hact
     subst hact
     go_wp2
     go_loopw [13] (fun iv wr => ∃ i : Nat, i ≤ N ∧ iv = .int .i64 (i : Int) ∧ Hid (∀ (j : Nat) (x : Tm), j < i → a[j]? = some x → rightT wordB p (v + moreT k j) (deep + moreT k j) x = true) ∧ Hid (Blk wr q 25 CS) ∧ Hid (Below w.heap.size w wr)) (fun iv _ => N - (intOf iv).toNat)
     case atStart => exact ⟨0, Nat.zero_le _, rfl, fun j x hj => absurd hj (Nat.not_lt_zero _), BQ, BE⟩
     case round =>
      obtain ⟨i, hi, rfl, AL2, BQ, BE⟩ := hrel
      by_cases hlt : i < N
      rotate_left
      ·skip
       have cl : ¬ (i : Int) < (N : Int) := by omega
       go_upto_region 15 with (fail)
       refine lbeg (opsOf Try.f73 15) ?_
       refine lnow 0 (.int .i64 (i : Int)) (some 144) ?_
       refine lnow 1 (.pointer (some ⟨q, 4, none⟩)) (some 145) ?_
       refine lcl 2 (.slice aa N ac) (some 146) 23 145 (q) 4 (BQ.out.cell (by rw [← hCS.out]; rfl)) Try.underlying23 ?_
       refine lnow 3 (.int .i64 (N : Int)) (some 147) ?_
       refine lnow 4 (.bool (decide ((i : Int) < (N : Int)))) (some 148) ?_
       rw [show decide ((i : Int) < (N : Int)) = false from decide_eq_false cl]
       refine ldn 5 ?_
       generalize hact : Act.put _ (some 148) _ = act
       simp only [Act.put, sA, sC, sZ] at hact
       subst hact
       have FIN : Hid (R = true) := YES.out ⟨G0.out.1, G0.out.2.1, G0.out.2.2.1, by rw [hN.out, hA.out]; have := G0.out.2.2.2; omega, by rw [hL.out, hz.out]; exact G1.out.1, by rw [hL.out]; exact G1.out.2, AL.out, NM.out.1, NM.out.2, NN.out.1, NN.out.2.1, NN.out.2.2.1, NN.out.2.2.2, (rights_at a 0).2 (fun j x hx => by
        rw [Nat.zero_add]
        exact AL2.out j x (by have h1 := (List.getElem?_eq_some_iff.1 hx).1; have h2 := hN.out; omega) hx)⟩
       go_upto_region 22 with (fail)
       refine lbeg (opsOf Try.f73 22) ?_
       refine lnow 0 (.bool true) (some 8) ?_
       refine ldn 1 ?_
       generalize hact : Act.put _ (some 8) _ = act
       simp only [Act.put, sA, sC, sZ] at hact
       subst hact
       go_wp2
       go_ret
       exact ⟨by rw [FIN.out]; rfl, BE.out⟩
      have cl : (i : Int) < (N : Int) := by omega
      have H2r : TmsAt F wr a (.slice aa N ac) := H2.out.below BE.out
      obtain ⟨x, pb, po, cx, hx, hxm, haa, -, -, -, hrx, htx⟩ := H2r.get hN.out hlt
      subst haa
      have SX := SmTs.mem SS.out hxm
      have HX := Lib.hid hx
      have HRX := Lib.hid hrx
      have X5 := Lib.hid htx.len
      have XM := Lib.hid hxm
      obtain ⟨m, hm⟩ : ∃ m, Hid (moreT k i = m) := ⟨_, rfl⟩
      have hm01 : 0 ≤ m ∧ m ≤ 1 := by have := more_01 k i; rw [hm.out] at this; exact this
      have CALL := fun w1 (hb1 : Below wr.heap.size wr w1) => IH.out x XM.out cx w1 p (v + m) (deep + m) F (htx.below hb1) SX hp (by have := G0.out; omega) (by omega)
      obtain ⟨rx, hrxx⟩ : ∃ y, Hid (rightT wordB p (v + m) (deep + m) x = y) := ⟨_, rfl⟩
      rw [hrxx.out] at CALL
      clear H2r hx hxm hrx htx SX
      have BW := binds_walk k i
      have hmb : (decide (((k = 6 ∨ k = 7) ∧ (i : Int) = 1) ∨ (k = 8 ∧ (i : Int) = 2))) = decide (m = 1) := by
       rw [← hm.out, decide_eq_decide]
       unfold moreT
       split <;> omega
      rw [hmb] at BW
      clear hmb
      go_upto_region 15 with (fail)
      refine lbeg (opsOf Try.f73 15) ?_
      refine lnow 0 (.int .i64 (i : Int)) (some 144) ?_
      refine lnow 1 (.pointer (some ⟨q, 4, none⟩)) (some 145) ?_
      refine lcl 2 (.slice (some ⟨pb, po, none⟩) N ac) (some 146) 23 145 (q) 4 (BQ.out.cell (by rw [← hCS.out]; rfl)) Try.underlying23 ?_
      refine lnow 3 (.int .i64 (N : Int)) (some 147) ?_
      refine lnow 4 (.bool (decide ((i : Int) < (N : Int)))) (some 148) ?_
      rw [show decide ((i : Int) < (N : Int)) = true from decide_eq_true cl]
      refine ldn 5 ?_
      generalize hact : Act.put _ (some 148) _ = act
      simp only [Act.put, sA, sC, sZ] at hact
      subst hact
      go_upto_region 17 with (fail)
      refine lbeg (opsOf Try.f73 17) ?_
      refine lnow 0 (.int .i64 0) (some 14) ?_
      refine ldn 1 ?_
      generalize hact : Act.put _ (some 14) _ = act
      simp only [Act.put, sA, sC, sZ] at hact
      subst hact
      by_cases hm1 : m = 1
      ·skip
       go_upto_region 18 with (fail)
       refine lbeg (opsOf Try.f73 18) ?_
       refine lnow 0 (.pointer (some ⟨q, 0, none⟩)) (some 151) ?_
       refine lcl 1 (.int .i64 k) (some 152) 3 151 (q) 0 (BQ.out.cell (by rw [← hCS.out]; rfl)) Try.underlying3 ?_
       refine lnow 2 (.int .i64 (i : Int)) (some 153) ?_
       refine lcal 3 96 #[.int .i64 k, .int .i64 (i : Int)] (some 154) _ (BW wr) ?_
       rintro e w' ⟨rfl, hw'⟩
       obtain rfl := hw'.symm
       refine ⟨_, rfl, ?_⟩
       rw [show decide (m = 1) = true from decide_eq_true hm1]
       refine ldn 4 ?_
       generalize hact : Act.put _ (some 154) _ = act
       simp only [Act.put, sA, sC, sZ] at hact
       subst hact
       clear BW
       go_upto_region 19 with (fail)
       refine lbeg (opsOf Try.f73 19) ?_
       refine lnow 0 (.int .i64 1) (some 14) ?_
       refine ldn 1 ?_
       generalize hact : Act.put _ (some 14) _ = act
       simp only [Act.put, sA, sC, sZ] at hact
       subst hact
       cases rx
       ·skip
        go_upto_region 20 with (fail)
        refine lbeg (opsOf Try.f73 20) ?_
        refine lnow 0 (.pointer (some ⟨q, 4, none⟩)) (some 155) ?_
        refine lcl 1 (.slice (some ⟨pb, po, none⟩) N ac) (some 156) 23 155 (q) 4 (BQ.out.cell (by rw [← hCS.out]; rfl)) Try.underlying23 ?_
        refine lnow 2 (.int .i64 (i : Int)) (some 157) ?_
        refine lix 3 (.pointer (some ⟨pb, po + 5 * i, none⟩)) (some 158) 23 156 157 (run_at_tm pb po N ac i hlt _) ?_
        refine lrl 4 cx (some 159) 25 158 pb (po + 5 * i) HRX.out Try.underlying25 (t5Size X5.out) ?_
        refine lnow 5 (.int .i64 p) (some 160) ?_
        refine lnow 6 (.int .i64 v) (some 161) ?_
        refine lnow 7 (.int .i64 1) (some 162) ?_
        refine lnow 8 (.int .i64 (IntKind.i64.wrap (v + 1))) (some 163) ?_
        rw [show IntKind.i64.wrap (v + 1) = v + m by rw [IntWalk.i64_in _ (by have := G0.out; omega)]; omega]
        refine lnow 9 (.int .i64 deep) (some 164) ?_
        refine lnow 10 (.int .i64 1) (some 165) ?_
        refine lnow 11 (.int .i64 (IntKind.i64.wrap (deep + 1))) (some 166) ?_
        rw [show IntKind.i64.wrap (deep + 1) = deep + m by rw [IntWalk.i64_in _ (by have := G0.out; omega)]; omega]
        refine lcal 12 73 #[.agg cx.toArray, .int .i64 p, .int .i64 (v + m), .int .i64 (deep + m)] (some 167) _ (CALL wr (Below.refl _ _)) ?_
        rintro e w2 ⟨rfl, hb⟩
        refine ⟨_, rfl, ?_⟩
        have BE2 : Hid (Below w.heap.size w w2) := BE.out.trans (hb.mono BE.out.size)
        have BQ2 : Hid (Blk w2 q 25 CS) := BQ.out.below hb BQ.out.lt
        clear hb CALL
        refine lnow 13 (.bool true) (some 168) ?_
        refine ldn 14 ?_
        generalize hact : Act.put _ (some 168) _ = act
        simp only [Act.put, sA, sC, sZ] at hact
        subst hact
        go_wp2
        go_ret
        exact ⟨by rw [NO.out (fun h => by have h1 := (rights_at a 0).1 h.parts i x HX.out; rw [Nat.zero_add, hm.out, hrxx.out] at h1; cases h1)]; rfl, BE2.out⟩
       ·skip
        go_upto_region 20 with (fail)
        refine lbeg (opsOf Try.f73 20) ?_
        refine lnow 0 (.pointer (some ⟨q, 4, none⟩)) (some 155) ?_
        refine lcl 1 (.slice (some ⟨pb, po, none⟩) N ac) (some 156) 23 155 (q) 4 (BQ.out.cell (by rw [← hCS.out]; rfl)) Try.underlying23 ?_
        refine lnow 2 (.int .i64 (i : Int)) (some 157) ?_
        refine lix 3 (.pointer (some ⟨pb, po + 5 * i, none⟩)) (some 158) 23 156 157 (run_at_tm pb po N ac i hlt _) ?_
        refine lrl 4 cx (some 159) 25 158 pb (po + 5 * i) HRX.out Try.underlying25 (t5Size X5.out) ?_
        refine lnow 5 (.int .i64 p) (some 160) ?_
        refine lnow 6 (.int .i64 v) (some 161) ?_
        refine lnow 7 (.int .i64 1) (some 162) ?_
        refine lnow 8 (.int .i64 (IntKind.i64.wrap (v + 1))) (some 163) ?_
        rw [show IntKind.i64.wrap (v + 1) = v + m by rw [IntWalk.i64_in _ (by have := G0.out; omega)]; omega]
        refine lnow 9 (.int .i64 deep) (some 164) ?_
        refine lnow 10 (.int .i64 1) (some 165) ?_
        refine lnow 11 (.int .i64 (IntKind.i64.wrap (deep + 1))) (some 166) ?_
        rw [show IntKind.i64.wrap (deep + 1) = deep + m by rw [IntWalk.i64_in _ (by have := G0.out; omega)]; omega]
        refine lcal 12 73 #[.agg cx.toArray, .int .i64 p, .int .i64 (v + m), .int .i64 (deep + m)] (some 167) _ (CALL wr (Below.refl _ _)) ?_
        rintro e w2 ⟨rfl, hb⟩
        refine ⟨_, rfl, ?_⟩
        have BE2 : Hid (Below w.heap.size w w2) := BE.out.trans (hb.mono BE.out.size)
        have BQ2 : Hid (Blk w2 q 25 CS) := BQ.out.below hb BQ.out.lt
        clear hb CALL
        refine lnow 13 (.bool false) (some 168) ?_
        refine ldn 14 ?_
        generalize hact : Act.put _ (some 168) _ = act
        simp only [Act.put, sA, sC, sZ] at hact
        subst hact
        have NX : Hid (∀ (j : Nat) (y : Tm), j < i + 1 → a[j]? = some y → rightT wordB p (v + moreT k j) (deep + moreT k j) y = true) := fun j y hj hy => by
         by_cases e : j = i
         ·subst e; rw [HX.out] at hy; cases hy; rw [hm.out]; exact hrxx.out
         ·exact AL2.out j y (by omega) hy
        clear AL2 HX HRX X5 XM hm hrxx BQ BE hm01
        have bl := sa
        go_wp2
        go_roundw
        case rel => exact ⟨i + 1, by omega, by go_num, NX, BQ2, BE2⟩
        case measure => simp [intOf]; omega
      ·skip
       go_upto_region 18 with (fail)
       refine lbeg (opsOf Try.f73 18) ?_
       refine lnow 0 (.pointer (some ⟨q, 0, none⟩)) (some 151) ?_
       refine lcl 1 (.int .i64 k) (some 152) 3 151 (q) 0 (BQ.out.cell (by rw [← hCS.out]; rfl)) Try.underlying3 ?_
       refine lnow 2 (.int .i64 (i : Int)) (some 153) ?_
       refine lcal 3 96 #[.int .i64 k, .int .i64 (i : Int)] (some 154) _ (BW wr) ?_
       rintro e w' ⟨rfl, hw'⟩
       obtain rfl := hw'.symm
       refine ⟨_, rfl, ?_⟩
       rw [show decide (m = 1) = false from decide_eq_false hm1]
       refine ldn 4 ?_
       generalize hact : Act.put _ (some 154) _ = act
       simp only [Act.put, sA, sC, sZ] at hact
       subst hact
       clear BW
       cases rx
       ·skip
        go_upto_region 20 with (fail)
        refine lbeg (opsOf Try.f73 20) ?_
        refine lnow 0 (.pointer (some ⟨q, 4, none⟩)) (some 155) ?_
        refine lcl 1 (.slice (some ⟨pb, po, none⟩) N ac) (some 156) 23 155 (q) 4 (BQ.out.cell (by rw [← hCS.out]; rfl)) Try.underlying23 ?_
        refine lnow 2 (.int .i64 (i : Int)) (some 157) ?_
        refine lix 3 (.pointer (some ⟨pb, po + 5 * i, none⟩)) (some 158) 23 156 157 (run_at_tm pb po N ac i hlt _) ?_
        refine lrl 4 cx (some 159) 25 158 pb (po + 5 * i) HRX.out Try.underlying25 (t5Size X5.out) ?_
        refine lnow 5 (.int .i64 p) (some 160) ?_
        refine lnow 6 (.int .i64 v) (some 161) ?_
        refine lnow 7 (.int .i64 0) (some 162) ?_
        refine lnow 8 (.int .i64 (IntKind.i64.wrap (v + 0))) (some 163) ?_
        rw [show IntKind.i64.wrap (v + 0) = v + m by rw [IntWalk.i64_in _ (by have := G0.out; omega)]; omega]
        refine lnow 9 (.int .i64 deep) (some 164) ?_
        refine lnow 10 (.int .i64 0) (some 165) ?_
        refine lnow 11 (.int .i64 (IntKind.i64.wrap (deep + 0))) (some 166) ?_
        rw [show IntKind.i64.wrap (deep + 0) = deep + m by rw [IntWalk.i64_in _ (by have := G0.out; omega)]; omega]
        refine lcal 12 73 #[.agg cx.toArray, .int .i64 p, .int .i64 (v + m), .int .i64 (deep + m)] (some 167) _ (CALL wr (Below.refl _ _)) ?_
        rintro e w2 ⟨rfl, hb⟩
        refine ⟨_, rfl, ?_⟩
        have BE2 : Hid (Below w.heap.size w w2) := BE.out.trans (hb.mono BE.out.size)
        have BQ2 : Hid (Blk w2 q 25 CS) := BQ.out.below hb BQ.out.lt
        clear hb CALL
        refine lnow 13 (.bool true) (some 168) ?_
        refine ldn 14 ?_
        generalize hact : Act.put _ (some 168) _ = act
        simp only [Act.put, sA, sC, sZ] at hact
        subst hact
        go_wp2
        go_ret
        exact ⟨by rw [NO.out (fun h => by have h1 := (rights_at a 0).1 h.parts i x HX.out; rw [Nat.zero_add, hm.out, hrxx.out] at h1; cases h1)]; rfl, BE2.out⟩
       ·skip
        go_upto_region 20 with (fail)
        refine lbeg (opsOf Try.f73 20) ?_
        refine lnow 0 (.pointer (some ⟨q, 4, none⟩)) (some 155) ?_
        refine lcl 1 (.slice (some ⟨pb, po, none⟩) N ac) (some 156) 23 155 (q) 4 (BQ.out.cell (by rw [← hCS.out]; rfl)) Try.underlying23 ?_
        refine lnow 2 (.int .i64 (i : Int)) (some 157) ?_
        refine lix 3 (.pointer (some ⟨pb, po + 5 * i, none⟩)) (some 158) 23 156 157 (run_at_tm pb po N ac i hlt _) ?_
        refine lrl 4 cx (some 159) 25 158 pb (po + 5 * i) HRX.out Try.underlying25 (t5Size X5.out) ?_
        refine lnow 5 (.int .i64 p) (some 160) ?_
        refine lnow 6 (.int .i64 v) (some 161) ?_
        refine lnow 7 (.int .i64 0) (some 162) ?_
        refine lnow 8 (.int .i64 (IntKind.i64.wrap (v + 0))) (some 163) ?_
        rw [show IntKind.i64.wrap (v + 0) = v + m by rw [IntWalk.i64_in _ (by have := G0.out; omega)]; omega]
        refine lnow 9 (.int .i64 deep) (some 164) ?_
        refine lnow 10 (.int .i64 0) (some 165) ?_
        refine lnow 11 (.int .i64 (IntKind.i64.wrap (deep + 0))) (some 166) ?_
        rw [show IntKind.i64.wrap (deep + 0) = deep + m by rw [IntWalk.i64_in _ (by have := G0.out; omega)]; omega]
        refine lcal 12 73 #[.agg cx.toArray, .int .i64 p, .int .i64 (v + m), .int .i64 (deep + m)] (some 167) _ (CALL wr (Below.refl _ _)) ?_
        rintro e w2 ⟨rfl, hb⟩
        refine ⟨_, rfl, ?_⟩
        have BE2 : Hid (Below w.heap.size w w2) := BE.out.trans (hb.mono BE.out.size)
        have BQ2 : Hid (Blk w2 q 25 CS) := BQ.out.below hb BQ.out.lt
        clear hb CALL
        refine lnow 13 (.bool false) (some 168) ?_
        refine ldn 14 ?_
        generalize hact : Act.put _ (some 168) _ = act
        simp only [Act.put, sA, sC, sZ] at hact
        subst hact
        have NX : Hid (∀ (j : Nat) (y : Tm), j < i + 1 → a[j]? = some y → rightT wordB p (v + moreT k j) (deep + moreT k j) y = true) := fun j y hj hy => by
         by_cases e : j = i
         ·subst e; rw [HX.out] at hy; cases hy; rw [hm.out]; exact hrxx.out
         ·exact AL2.out j y (by omega) hy
        clear AL2 HX HRX X5 XM hm hrxx BQ BE hm01
        have bl := sa
        go_wp2
        go_roundw
        case rel => exact ⟨i + 1, by omega, by go_num, NX, BQ2, BE2⟩
        case measure => simp [intOf]; omega
  have cl : (i : Int) < (L : Int) := by omega
  obtain ⟨x, hx⟩ : ∃ x, ls[i]? = some x := ⟨_, List.getElem?_eq_getElem (by have := hL.out; omega)⟩
  have HX := Lib.hid hx
  have LVr : LvsOff F wr (.slice la L lc) ls := H1.out.step (Step.of_below BE.out (Nat.le_refl _))
  obtain ⟨x4, pb, po, rfl, hpb⟩ := LVr.at hx
  have hrx := Lib.hid (LVr.rng hx)
  clear LVr hx hpb
  go_upto_region 5 with (fail)
  refine lbeg (opsOf Try.f73 5) ?_
  refine lnow 0 (.int .i64 (i : Int)) (some 57) ?_
  refine lnow 1 (.pointer (some ⟨q, 3, none⟩)) (some 58) ?_
  refine lcl 2 (.slice (some ⟨pb, po, none⟩) L lc) (some 59) 22 58 (q) 3 (BQ.out.cell (by rw [← hCS.out]; rfl)) Try.underlying22 ?_
  refine lnow 3 (.int .i64 (L : Int)) (some 60) ?_
  refine lnow 4 (.bool (decide ((i : Int) < (L : Int)))) (some 61) ?_
  rw [show decide ((i : Int) < (L : Int)) = true from decide_eq_true cl]
  refine ldn 5 ?_
  generalize hact : Act.put _ (some 61) _ = act
  simp only [Act.put, sA, sC, sZ] at hact
  subst hact
  have RW := rright7_walk x x4 wr
  obtain ⟨rx, hrxx⟩ : ∃ y, Hid (rightL x = y) := ⟨_, rfl⟩
  rw [hrxx.out] at RW
  have XM : Hid (x ∈ ls) := List.mem_of_getElem? HX.out
  cases rx
  ·skip
   go_upto_region 7 with (fail)
   refine lbeg (opsOf Try.f73 7) ?_
   refine lnow 0 (.pointer (some ⟨q, 3, none⟩)) (some 64) ?_
   refine lcl 1 (.slice (some ⟨pb, po, none⟩) L lc) (some 65) 22 64 (q) 3 (BQ.out.cell (by rw [← hCS.out]; rfl)) Try.underlying22 ?_
   refine lnow 2 (.int .i64 (i : Int)) (some 66) ?_
   refine lix 3 (.pointer (some ⟨pb, po + 5 * i, none⟩)) (some 67) 22 65 66 (run_at_lv pb po L lc i hlt _) ?_
   refine lrl 4 (ints .i64 x.zs) (some 68) 80 67 pb (po + 5 * i) hrx.out Try.underlying80 (lvSize x4) ?_
   refine lcal 5 94 #[.agg (ints .i64 x.zs).toArray] (some 69) _ (RW) ?_
   rintro e w2 ⟨rfl, hb⟩
   refine ⟨_, rfl, ?_⟩
   have BE2 : Hid (Below w.heap.size w w2) := BE.out.trans (hb.mono BE.out.size)
   have BQ2 : Hid (Blk w2 q 25 CS) := BQ.out.below hb BQ.out.lt
   refine lnow 6 (.bool true) (some 70) ?_
   refine lnow 7 (.bool true) (some 71) ?_
   clear hb
   refine lpas 8 (some 72) ?_
   refine lpas 9 (some 73) ?_
   refine lpas 10 (some 74) ?_
   refine lpas 11 (some 75) ?_
   refine lpas 12 (some 76) ?_
   refine lpas 13 (some 77) ?_
   refine lpas 14 (some 78) ?_
   refine lpas 15 (some 79) ?_
   refine lnow 16 (.bool true) (some 80) ?_
   refine ldn 17 ?_
   generalize hact : Act.put _ (some 80) _ = act
   simp only [Act.put, sA, sC, sZ] at hact
   subst hact
   go_wp2
   go_ret
   exact ⟨by rw [NO.out (fun h => by have := (h.lv x XM.out).1; rw [hrxx.out] at this; cases this)]; rfl, BE2.out⟩
  have WW : ∀ w, Calls Try.prog 95 #[.agg (ints .i64 x.zs).toArray] w fun e w' => e = .returned (.int .i64 (widthL x : Int)) ∧ Below w.heap.size w w' := fun w => rwidth_walk x x4 hrxx.out w
  obtain ⟨wx, hwx⟩ : ∃ y, Hid (widthL x = y) := ⟨_, rfl⟩
  rw [hwx.out] at WW
  by_cases hwp : (wx : Int) > p
  ·skip
   go_upto_region 7 with (fail)
   refine lbeg (opsOf Try.f73 7) ?_
   refine lnow 0 (.pointer (some ⟨q, 3, none⟩)) (some 64) ?_
   refine lcl 1 (.slice (some ⟨pb, po, none⟩) L lc) (some 65) 22 64 (q) 3 (BQ.out.cell (by rw [← hCS.out]; rfl)) Try.underlying22 ?_
   refine lnow 2 (.int .i64 (i : Int)) (some 66) ?_
   refine lix 3 (.pointer (some ⟨pb, po + 5 * i, none⟩)) (some 67) 22 65 66 (run_at_lv pb po L lc i hlt _) ?_
   refine lrl 4 (ints .i64 x.zs) (some 68) 80 67 pb (po + 5 * i) hrx.out Try.underlying80 (lvSize x4) ?_
   refine lcal 5 94 #[.agg (ints .i64 x.zs).toArray] (some 69) _ (RW) ?_
   rintro e w2 ⟨rfl, hb⟩
   refine ⟨_, rfl, ?_⟩
   have BE2 : Hid (Below w.heap.size w w2) := BE.out.trans (hb.mono BE.out.size)
   have BQ2 : Hid (Blk w2 q 25 CS) := BQ.out.below hb BQ.out.lt
   refine lnow 6 (.bool false) (some 70) ?_
   refine lnow 7 (.bool false) (some 71) ?_
   have hrx2 : Hid (w2.rangeAt pb (po + 5 * i) (ints .i64 x.zs)) := (H1.out.step (Step.of_below BE2.out (Nat.le_refl _))).rng HX.out
   clear hb
   refine lnow 8 (.pointer (some ⟨q, 3, none⟩)) (some 72) ?_
   refine lcl 9 (.slice (some ⟨pb, po, none⟩) L lc) (some 73) 22 72 (q) 3 (BQ2.out.cell (by rw [← hCS.out]; rfl)) Try.underlying22 ?_
   refine lnow 10 (.int .i64 (i : Int)) (some 74) ?_
   refine lix 11 (.pointer (some ⟨pb, po + 5 * i, none⟩)) (some 75) 22 73 74 (run_at_lv pb po L lc i hlt _) ?_
   refine lrl 12 (ints .i64 x.zs) (some 76) 80 75 pb (po + 5 * i) hrx2.out Try.underlying80 (lvSize x4) ?_
   refine lcal 13 95 #[.agg (ints .i64 x.zs).toArray] (some 77) _ (WW w2) ?_
   rintro e w3 ⟨rfl, hb⟩
   refine ⟨_, rfl, ?_⟩
   have BE3 : Hid (Below w.heap.size w w3) := BE2.out.trans (hb.mono BE2.out.size)
   have BQ3 : Hid (Blk w3 q 25 CS) := BQ2.out.below hb BQ2.out.lt
   clear hb
   refine lnow 14 (.int .i64 p) (some 78) ?_
   refine lnow 15 (.bool (decide ((wx : Int) > p))) (some 79) ?_
   rw [show decide ((wx : Int) > p) = true from decide_eq_true hwp]
   refine lnow 16 (.bool true) (some 80) ?_
   refine ldn 17 ?_
   generalize hact : Act.put _ (some 80) _ = act
   simp only [Act.put, sA, sC, sZ] at hact
   subst hact
   go_wp2
   go_ret
   exact ⟨by rw [NO.out (fun h => by have := (h.lv x XM.out).2; rw [hwx.out] at this; omega)]; rfl, BE3.out⟩
  ·skip
   go_upto_region 7 with (fail)
   refine lbeg (opsOf Try.f73 7) ?_
   refine lnow 0 (.pointer (some ⟨q, 3, none⟩)) (some 64) ?_
   refine lcl 1 (.slice (some ⟨pb, po, none⟩) L lc) (some 65) 22 64 (q) 3 (BQ.out.cell (by rw [← hCS.out]; rfl)) Try.underlying22 ?_
   refine lnow 2 (.int .i64 (i : Int)) (some 66) ?_
   refine lix 3 (.pointer (some ⟨pb, po + 5 * i, none⟩)) (some 67) 22 65 66 (run_at_lv pb po L lc i hlt _) ?_
   refine lrl 4 (ints .i64 x.zs) (some 68) 80 67 pb (po + 5 * i) hrx.out Try.underlying80 (lvSize x4) ?_
   refine lcal 5 94 #[.agg (ints .i64 x.zs).toArray] (some 69) _ (RW) ?_
   rintro e w2 ⟨rfl, hb⟩
   refine ⟨_, rfl, ?_⟩
   have BE2 : Hid (Below w.heap.size w w2) := BE.out.trans (hb.mono BE.out.size)
   have BQ2 : Hid (Blk w2 q 25 CS) := BQ.out.below hb BQ.out.lt
   refine lnow 6 (.bool false) (some 70) ?_
   refine lnow 7 (.bool false) (some 71) ?_
   have hrx2 : Hid (w2.rangeAt pb (po + 5 * i) (ints .i64 x.zs)) := (H1.out.step (Step.of_below BE2.out (Nat.le_refl _))).rng HX.out
   clear hb
   refine lnow 8 (.pointer (some ⟨q, 3, none⟩)) (some 72) ?_
   refine lcl 9 (.slice (some ⟨pb, po, none⟩) L lc) (some 73) 22 72 (q) 3 (BQ2.out.cell (by rw [← hCS.out]; rfl)) Try.underlying22 ?_
   refine lnow 10 (.int .i64 (i : Int)) (some 74) ?_
   refine lix 11 (.pointer (some ⟨pb, po + 5 * i, none⟩)) (some 75) 22 73 74 (run_at_lv pb po L lc i hlt _) ?_
   refine lrl 12 (ints .i64 x.zs) (some 76) 80 75 pb (po + 5 * i) hrx2.out Try.underlying80 (lvSize x4) ?_
   refine lcal 13 95 #[.agg (ints .i64 x.zs).toArray] (some 77) _ (WW w2) ?_
   rintro e w3 ⟨rfl, hb⟩
   refine ⟨_, rfl, ?_⟩
   have BE3 : Hid (Below w.heap.size w w3) := BE2.out.trans (hb.mono BE2.out.size)
   have BQ3 : Hid (Blk w3 q 25 CS) := BQ2.out.below hb BQ2.out.lt
   clear hb
   refine lnow 14 (.int .i64 p) (some 78) ?_
   refine lnow 15 (.bool (decide ((wx : Int) > p))) (some 79) ?_
   rw [show decide ((wx : Int) > p) = false from decide_eq_false hwp]
   refine lnow 16 (.bool false) (some 80) ?_
   refine ldn 17 ?_
   generalize hact : Act.put _ (some 80) _ = act
   simp only [Act.put, sA, sC, sZ] at hact
   subst hact
   have NX : Hid (∀ y ∈ ls.take (i + 1), rightL y = true ∧ (widthL y : Int) ≤ p) := fun y hy => by
    rw [List.take_add_one, HX.out] at hy
    rcases List.mem_append.1 hy with hy | hy
    ·exact AL.out y hy
    ·simp at hy; subst hy; exact ⟨hrxx.out, by rw [hwx.out]; omega⟩
   clear AL hrx hrx2 RW WW hrxx hwx XM HX BQ BE BQ2 BE2
   go_wp2
   go_roundw
   case rel => exact ⟨i + 1, by omega, by go_num, NX, BQ3, BE3⟩
   case measure => simp [intOf]; omega
set_option maxHeartbeats 4000000 in
theorem rR_walk {F : List Nat} (t : Tm) (cs : List Value) (w : World) (p v : Int) (ht : TmAt F w t cs) (hs : SmT t) : Calls Try.prog 47 #[.agg cs.toArray, .int .i64 p, .int .i64 v] w fun e w' => e = .returned (.bool (rightP p v t)) ∧ Below w.heap.size w w' := by
 have C5 := Lib.hid ht.len
 have HT := Lib.hid ht
 obtain ⟨q, hq⟩ : ∃ q, Hid (w.heap.size = q) := ⟨_, rfl⟩
 clear ht
 go_enter Try.func47, Try.ntmps47
 go_upto_region 0 with (fail)
 refine lbeg (opsOf Try.f47 0) ?_
 refine lbox 0 25 (.tmp 0) (cs) (q) (some 3) hq ?_
 intro w1 bw1 bew1 hsw1
 refine lnow 1 (.bool false) (some 6) ?_
 refine ldn 2 ?_
 generalize hact : Act.put _ (some 6) _ = act
 simp only [Act.put, sA, sC, sZ] at hact
 subst hact
 have BQ := Lib.hid bw1
 have BE : Hid (Below w.heap.size w w1) := by rw [Hid, hq.out]; exact bew1
 clear bw1 bew1 hsw1
 by_cases c1 : p ≥ 0
 rotate_left
 ·skip
  go_upto_region 1 with (fail)
  refine lbeg (opsOf Try.f47 1) ?_
  refine lnow 0 (.int .i64 p) (some 7) ?_
  refine lnow 1 (.bool (decide (p ≥ 0))) (some 8) ?_
  rw [show decide (p ≥ 0) = false from decide_eq_false c1]
  refine lnow 2 (.bool false) (some 9) ?_
  refine lpas 3 (some 10) ?_
  refine lpas 4 (some 11) ?_
  refine lnow 5 (.bool false) (some 12) ?_
  refine lnow 6 (.bool false) (some 13) ?_
  refine lpas 7 (some 14) ?_
  refine lpas 8 (some 15) ?_
  refine lnow 9 (.bool false) (some 16) ?_
  refine lnow 10 (.bool false) (some 17) ?_
  refine lpas 11 (some 18) ?_
  refine lpas 12 (some 19) ?_
  refine lnow 13 (.bool false) (some 20) ?_
  refine lnow 14 (.bool false) (some 21) ?_
  refine lpas 15 (some 22) ?_
  refine lpas 16 (some 23) ?_
  refine lpas 17 (some 24) ?_
  refine lnow 18 (.bool false) (some 25) ?_
  refine lnow 19 (.bool false) (some 26) ?_
  refine lpas 20 (some 27) ?_
  refine lpas 21 (some 28) ?_
  refine lpas 22 (some 29) ?_
  refine lpas 23 (some 30) ?_
  refine lnow 24 (.bool false) (some 31) ?_
  refine lnow 25 (.bool false) (some 6) ?_
  refine ldn 26 ?_
  generalize hact : Act.put _ (some 6) _ = act
  simp only [Act.put, sA, sC, sZ] at hact
  subst hact
  go_wp2
  go_ret
  exact ⟨by rw [show rightP p v t = false by unfold rightP; rw [decide_eq_false (show ¬ 0 ≤ p by omega)]; simp]; rfl, BE.out⟩
 by_cases c2 : p ≤ 4
 rotate_left
 ·skip
  go_upto_region 1 with (fail)
  refine lbeg (opsOf Try.f47 1) ?_
  refine lnow 0 (.int .i64 p) (some 7) ?_
  refine lnow 1 (.bool (decide (p ≥ 0))) (some 8) ?_
  rw [show decide (p ≥ 0) = true from decide_eq_true c1]
  refine lnow 2 (.bool true) (some 9) ?_
  refine lnow 3 (.int .i64 p) (some 10) ?_
  refine lnow 4 (.bool (decide (p ≤ 4))) (some 11) ?_
  rw [show decide (p ≤ 4) = false from decide_eq_false c2]
  refine lnow 5 (.bool false) (some 12) ?_
  refine lnow 6 (.bool false) (some 13) ?_
  refine lpas 7 (some 14) ?_
  refine lpas 8 (some 15) ?_
  refine lnow 9 (.bool false) (some 16) ?_
  refine lnow 10 (.bool false) (some 17) ?_
  refine lpas 11 (some 18) ?_
  refine lpas 12 (some 19) ?_
  refine lnow 13 (.bool false) (some 20) ?_
  refine lnow 14 (.bool false) (some 21) ?_
  refine lpas 15 (some 22) ?_
  refine lpas 16 (some 23) ?_
  refine lpas 17 (some 24) ?_
  refine lnow 18 (.bool false) (some 25) ?_
  refine lnow 19 (.bool false) (some 26) ?_
  refine lpas 20 (some 27) ?_
  refine lpas 21 (some 28) ?_
  refine lpas 22 (some 29) ?_
  refine lpas 23 (some 30) ?_
  refine lnow 24 (.bool false) (some 31) ?_
  refine lnow 25 (.bool false) (some 6) ?_
  refine ldn 26 ?_
  generalize hact : Act.put _ (some 6) _ = act
  simp only [Act.put, sA, sC, sZ] at hact
  subst hact
  go_wp2
  go_ret
  exact ⟨by rw [show rightP p v t = false by unfold rightP; rw [decide_eq_false (show ¬ p ≤ 4 by omega)]; simp]; rfl, BE.out⟩
 by_cases c3 : v ≥ 0
 rotate_left
 ·skip
  go_upto_region 1 with (fail)
  refine lbeg (opsOf Try.f47 1) ?_
  refine lnow 0 (.int .i64 p) (some 7) ?_
  refine lnow 1 (.bool (decide (p ≥ 0))) (some 8) ?_
  rw [show decide (p ≥ 0) = true from decide_eq_true c1]
  refine lnow 2 (.bool true) (some 9) ?_
  refine lnow 3 (.int .i64 p) (some 10) ?_
  refine lnow 4 (.bool (decide (p ≤ 4))) (some 11) ?_
  rw [show decide (p ≤ 4) = true from decide_eq_true c2]
  refine lnow 5 (.bool true) (some 12) ?_
  refine lnow 6 (.bool true) (some 13) ?_
  refine lnow 7 (.int .i64 v) (some 14) ?_
  refine lnow 8 (.bool (decide (v ≥ 0))) (some 15) ?_
  rw [show decide (v ≥ 0) = false from decide_eq_false c3]
  refine lnow 9 (.bool false) (some 16) ?_
  refine lnow 10 (.bool false) (some 17) ?_
  refine lpas 11 (some 18) ?_
  refine lpas 12 (some 19) ?_
  refine lnow 13 (.bool false) (some 20) ?_
  refine lnow 14 (.bool false) (some 21) ?_
  refine lpas 15 (some 22) ?_
  refine lpas 16 (some 23) ?_
  refine lpas 17 (some 24) ?_
  refine lnow 18 (.bool false) (some 25) ?_
  refine lnow 19 (.bool false) (some 26) ?_
  refine lpas 20 (some 27) ?_
  refine lpas 21 (some 28) ?_
  refine lpas 22 (some 29) ?_
  refine lpas 23 (some 30) ?_
  refine lnow 24 (.bool false) (some 31) ?_
  refine lnow 25 (.bool false) (some 6) ?_
  refine ldn 26 ?_
  generalize hact : Act.put _ (some 6) _ = act
  simp only [Act.put, sA, sC, sZ] at hact
  subst hact
  go_wp2
  go_ret
  exact ⟨by rw [show rightP p v t = false by unfold rightP; rw [decide_eq_false (show ¬ 0 ≤ v by omega)]; simp]; rfl, BE.out⟩
 by_cases c4 : v ≤ 1099511627776
 rotate_left
 ·skip
  go_upto_region 1 with (fail)
  refine lbeg (opsOf Try.f47 1) ?_
  refine lnow 0 (.int .i64 p) (some 7) ?_
  refine lnow 1 (.bool (decide (p ≥ 0))) (some 8) ?_
  rw [show decide (p ≥ 0) = true from decide_eq_true c1]
  refine lnow 2 (.bool true) (some 9) ?_
  refine lnow 3 (.int .i64 p) (some 10) ?_
  refine lnow 4 (.bool (decide (p ≤ 4))) (some 11) ?_
  rw [show decide (p ≤ 4) = true from decide_eq_true c2]
  refine lnow 5 (.bool true) (some 12) ?_
  refine lnow 6 (.bool true) (some 13) ?_
  refine lnow 7 (.int .i64 v) (some 14) ?_
  refine lnow 8 (.bool (decide (v ≥ 0))) (some 15) ?_
  rw [show decide (v ≥ 0) = true from decide_eq_true c3]
  refine lnow 9 (.bool true) (some 16) ?_
  refine lnow 10 (.bool true) (some 17) ?_
  refine lnow 11 (.int .i64 v) (some 18) ?_
  refine lnow 12 (.bool (decide (v ≤ 1099511627776))) (some 19) ?_
  rw [show decide (v ≤ 1099511627776) = false from decide_eq_false c4]
  refine lnow 13 (.bool false) (some 20) ?_
  refine lnow 14 (.bool false) (some 21) ?_
  refine lpas 15 (some 22) ?_
  refine lpas 16 (some 23) ?_
  refine lpas 17 (some 24) ?_
  refine lnow 18 (.bool false) (some 25) ?_
  refine lnow 19 (.bool false) (some 26) ?_
  refine lpas 20 (some 27) ?_
  refine lpas 21 (some 28) ?_
  refine lpas 22 (some 29) ?_
  refine lpas 23 (some 30) ?_
  refine lnow 24 (.bool false) (some 31) ?_
  refine lnow 25 (.bool false) (some 6) ?_
  refine ldn 26 ?_
  generalize hact : Act.put _ (some 6) _ = act
  simp only [Act.put, sA, sC, sZ] at hact
  subst hact
  go_wp2
  go_ret
  exact ⟨by rw [show rightP p v t = false by unfold rightP; rw [decide_eq_false (show ¬ v ≤ 1099511627776 by omega)]; simp]; rfl, BE.out⟩
 have CALL := tnodes_walk t cs w1 3000 F (HT.out.below BE.out) hs (by omega)
 obtain ⟨m, hm⟩ : ∃ m : Int, Hid (((min (nodesT t) (3000 + 1) : Nat) : Int) = m) := ⟨_, rfl⟩
 rw [hm.out] at CALL
 have RP : Hid (rightP p v t = (decide (nodesT t ≤ 3000) && rightT wordB p v 0 t)) := by unfold rightP; rw [Hid, decide_eq_true (show 0 ≤ p by omega), decide_eq_true (show p ≤ 4 by omega), decide_eq_true (show 0 ≤ v by omega), decide_eq_true (show v ≤ 1099511627776 by omega)]; rfl
 have hmo := hm.out
 by_cases c5 : m ≤ 3000
 rotate_left
 ·skip
  go_upto_region 1 with (fail)
  refine lbeg (opsOf Try.f47 1) ?_
  refine lnow 0 (.int .i64 p) (some 7) ?_
  refine lnow 1 (.bool (decide (p ≥ 0))) (some 8) ?_
  rw [show decide (p ≥ 0) = true from decide_eq_true c1]
  refine lnow 2 (.bool true) (some 9) ?_
  refine lnow 3 (.int .i64 p) (some 10) ?_
  refine lnow 4 (.bool (decide (p ≤ 4))) (some 11) ?_
  rw [show decide (p ≤ 4) = true from decide_eq_true c2]
  refine lnow 5 (.bool true) (some 12) ?_
  refine lnow 6 (.bool true) (some 13) ?_
  refine lnow 7 (.int .i64 v) (some 14) ?_
  refine lnow 8 (.bool (decide (v ≥ 0))) (some 15) ?_
  rw [show decide (v ≥ 0) = true from decide_eq_true c3]
  refine lnow 9 (.bool true) (some 16) ?_
  refine lnow 10 (.bool true) (some 17) ?_
  refine lnow 11 (.int .i64 v) (some 18) ?_
  refine lnow 12 (.bool (decide (v ≤ 1099511627776))) (some 19) ?_
  rw [show decide (v ≤ 1099511627776) = true from decide_eq_true c4]
  refine lnow 13 (.bool true) (some 20) ?_
  refine lnow 14 (.bool true) (some 21) ?_
  refine lrl 15 (cs) (some 22) 25 3 (q) 0 (BQ.out).whole Try.underlying25 (t5Size C5.out) ?_
  refine lcal 16 29 #[.agg cs.toArray, .int .i64 3000] (some 23) _ (CALL) ?_
  rintro e w2 ⟨rfl, hb⟩
  refine ⟨_, rfl, ?_⟩
  have BE2 : Hid (Below w.heap.size w w2) := BE.out.trans (hb.mono BE.out.size)
  have BQ2 : Hid (Blk w2 q 25 cs) := BQ.out.below hb BQ.out.lt
  clear hb
  refine lnow 17 (.bool (decide (m ≤ 3000))) (some 24) ?_
  rw [show decide (m ≤ 3000) = false from decide_eq_false c5]
  refine lnow 18 (.bool false) (some 25) ?_
  refine lnow 19 (.bool false) (some 26) ?_
  refine lpas 20 (some 27) ?_
  refine lpas 21 (some 28) ?_
  refine lpas 22 (some 29) ?_
  refine lpas 23 (some 30) ?_
  refine lnow 24 (.bool false) (some 31) ?_
  refine lnow 25 (.bool false) (some 6) ?_
  refine ldn 26 ?_
  generalize hact : Act.put _ (some 6) _ = act
  simp only [Act.put, sA, sC, sZ] at hact
  subst hact
  go_wp2
  go_ret
  exact ⟨by rw [RP.out, decide_eq_false (show ¬ nodesT t ≤ 3000 by omega)]; rfl, BE2.out⟩
 go_upto_region 1 with (fail)
 refine lbeg (opsOf Try.f47 1) ?_
 refine lnow 0 (.int .i64 p) (some 7) ?_
 refine lnow 1 (.bool (decide (p ≥ 0))) (some 8) ?_
 rw [show decide (p ≥ 0) = true from decide_eq_true c1]
 refine lnow 2 (.bool true) (some 9) ?_
 refine lnow 3 (.int .i64 p) (some 10) ?_
 refine lnow 4 (.bool (decide (p ≤ 4))) (some 11) ?_
 rw [show decide (p ≤ 4) = true from decide_eq_true c2]
 refine lnow 5 (.bool true) (some 12) ?_
 refine lnow 6 (.bool true) (some 13) ?_
 refine lnow 7 (.int .i64 v) (some 14) ?_
 refine lnow 8 (.bool (decide (v ≥ 0))) (some 15) ?_
 rw [show decide (v ≥ 0) = true from decide_eq_true c3]
 refine lnow 9 (.bool true) (some 16) ?_
 refine lnow 10 (.bool true) (some 17) ?_
 refine lnow 11 (.int .i64 v) (some 18) ?_
 refine lnow 12 (.bool (decide (v ≤ 1099511627776))) (some 19) ?_
 rw [show decide (v ≤ 1099511627776) = true from decide_eq_true c4]
 refine lnow 13 (.bool true) (some 20) ?_
 refine lnow 14 (.bool true) (some 21) ?_
 refine lrl 15 (cs) (some 22) 25 3 (q) 0 (BQ.out).whole Try.underlying25 (t5Size C5.out) ?_
 refine lcal 16 29 #[.agg cs.toArray, .int .i64 3000] (some 23) _ (CALL) ?_
 rintro e w2 ⟨rfl, hb⟩
 refine ⟨_, rfl, ?_⟩
 have BE2 : Hid (Below w.heap.size w w2) := BE.out.trans (hb.mono BE.out.size)
 have BQ2 : Hid (Blk w2 q 25 cs) := BQ.out.below hb BQ.out.lt
 clear hb
 refine lnow 17 (.bool (decide (m ≤ 3000))) (some 24) ?_
 rw [show decide (m ≤ 3000) = true from decide_eq_true c5]
 refine lnow 18 (.bool true) (some 25) ?_
 refine lnow 19 (.bool true) (some 26) ?_
 refine lrl 20 (cs) (some 27) 25 3 (q) 0 (BQ2.out).whole Try.underlying25 (t5Size C5.out) ?_
 refine lnow 21 (.int .i64 p) (some 28) ?_
 refine lnow 22 (.int .i64 v) (some 29) ?_
 refine lcal 23 73 #[.agg cs.toArray, .int .i64 p, .int .i64 v, .int .i64 0] (some 30) _ (rr_walk t cs w2 p v 0 F (HT.out.below BE2.out) hs (by omega) (by omega) (by omega)) ?_
 rintro e w3 ⟨rfl, hb⟩
 refine ⟨_, rfl, ?_⟩
 have BE3 : Hid (Below w.heap.size w w3) := BE2.out.trans (hb.mono BE2.out.size)
 clear hb
 refine lnow 24 (.bool (rightT wordB p v 0 t)) (some 31) ?_
 refine lnow 25 (.bool (rightT wordB p v 0 t)) (some 6) ?_
 refine ldn 26 ?_
 generalize hact : Act.put _ (some 6) _ = act
 simp only [Act.put, sA, sC, sZ] at hact
 subst hact
 go_wp2
 go_ret
 exact ⟨by rw [RP.out, decide_eq_true (show nodesT t ≤ 3000 by omega)]; rfl, BE3.out⟩
set_option maxHeartbeats 4000000 in
theorem any_walk {F : List Nat} (t : Tm) (cs : List Value) (w : World) (ht : TmAt F w t cs) (hs : SmT t) : Calls Try.prog 36 #[.agg cs.toArray] w fun e w' => e = .returned (.bool (rightP 4 1099511627776 t)) ∧ Below w.heap.size w w' := by
 have C5 := Lib.hid ht.len
 have HT := Lib.hid ht
 obtain ⟨q, hq⟩ : ∃ q, Hid (w.heap.size = q) := ⟨_, rfl⟩
 clear ht
 go_enter Try.func36, Try.ntmps36
 go_upto_region 0 with (fail)
 refine lbeg (opsOf Try.f36 0) ?_
 refine lbox 0 25 (.tmp 0) (cs) (q) (some 1) hq ?_
 intro w1 bw1 bew1 hsw1
 refine lnow 1 (.bool false) (some 2) ?_
 refine ldn 2 ?_
 generalize hact : Act.put _ (some 2) _ = act
 simp only [Act.put, sA, sC, sZ] at hact
 subst hact
 have BQ := Lib.hid bw1
 have BE : Hid (Below w.heap.size w w1) := by rw [Hid, hq.out]; exact bew1
 clear bw1 bew1 hsw1
 go_upto_region 1 with (fail)
 refine lbeg (opsOf Try.f36 1) ?_
 refine lrl 0 (cs) (some 3) 25 1 (q) 0 (BQ.out).whole Try.underlying25 (t5Size C5.out) ?_
 refine lcal 1 47 #[.agg cs.toArray, .int .i64 4, .int .i64 1099511627776] (some 4) _ (rR_walk t cs w1 4 1099511627776 (HT.out.below BE.out) hs) ?_
 rintro e w2 ⟨rfl, hb⟩
 refine ⟨_, rfl, ?_⟩
 have BE2 : Hid (Below w.heap.size w w2) := BE.out.trans (hb.mono BE.out.size)
 clear hb
 refine lnow 2 (.bool (rightP 4 1099511627776 t)) (some 2) ?_
 refine ldn 3 ?_
 generalize hact : Act.put _ (some 2) _ = act
 simp only [Act.put, sA, sC, sZ] at hact
 subst hact
 go_wp2
 go_ret
 exact ⟨rfl, BE2.out⟩
end Go.Proofs.Yteohjbggicchgaa
