/- Is a term right, how many variables does it need, how often does one stand in it: by package term. -/
import Derived.Test.YtmceocgddaaohaaGreatDoorQGenT
import Derived.Test.YtmceocgddaaohaaGreatDoorQTrmF
namespace Go.Proofs.YtmceocgddaaohaaGreatDoor
open Go Go.RowKit
set_option maxRecDepth 100000
def okN (p v : Int) (x : Tm × Int) : Bool := decide (x.2 ≤ 200) && fitsB p (v + x.2) x.1
theorem head_fits (p v d k n : Int) (s : List UInt8) (l : List Lv) (a : List Tm) : okN p v (.mk k n s l a, d) = (headT wordB p d k n s l a.length && (decide (k ≠ 1) || decide (n < v + d))) := by
 unfold okN fitsB headT
 dsimp only [Tm.kind, Tm.n, Tm.name, Tm.levels, Tm.args]
 unfold fitsK
 generalize l.all (fun x => rightL x && decide ((widthL x : Int) ≤ p)) = lb
 generalize l.length = L
 generalize a.length = N
 generalize wordB s = W
 generalize decide (s = []) = e
 by_cases h1 : k = 1
 ·subst h1; cases lb <;> cases W <;> cases e <;> (rw [Bool.eq_iff_iff]; simp [shapeT, argsOf]) <;> omega
 by_cases h2 : k = 2
 ·subst h2; cases lb <;> cases W <;> cases e <;> (rw [Bool.eq_iff_iff]; simp [shapeT, argsOf]) <;> omega
 by_cases h3 : k = 3
 ·subst h3; cases lb <;> cases W <;> cases e <;> (rw [Bool.eq_iff_iff]; simp [shapeT, argsOf]) <;> omega
 by_cases h4 : k = 4
 ·subst h4; cases lb <;> cases W <;> cases e <;> (rw [Bool.eq_iff_iff]; simp [shapeT, argsOf]) <;> omega
 by_cases h5 : k = 5
 ·subst h5; cases lb <;> cases W <;> cases e <;> (rw [Bool.eq_iff_iff]; simp [shapeT, argsOf]) <;> omega
 by_cases h6 : k = 6
 ·subst h6; cases lb <;> cases W <;> cases e <;> (rw [Bool.eq_iff_iff]; simp [shapeT, argsOf]) <;> omega
 by_cases h7 : k = 7
 ·subst h7; cases lb <;> cases W <;> cases e <;> (rw [Bool.eq_iff_iff]; simp [shapeT, argsOf]) <;> omega
 by_cases h8 : k = 8
 ·subst h8; cases lb <;> cases W <;> cases e <;> (rw [Bool.eq_iff_iff]; simp [shapeT, argsOf]) <;> omega
 by_cases h9 : k = 9
 ·subst h9; cases lb <;> cases W <;> cases e <;> (rw [Bool.eq_iff_iff]; simp [shapeT, argsOf]) <;> omega
 cases lb <;> cases W <;> cases e <;> (rw [Bool.eq_iff_iff]; simp [shapeT, h1, h2, h3, h4, h5, h6, h7, h8, h9]) <;> omega
theorem head_args {p d k n : Int} {s : List UInt8} {l : List Lv} {N : Nat} (h : headT wordB p d k n s l N = true) : N = argsOf k := by
 simp only [headT, Bool.and_eq_true, decide_eq_true_eq] at h
 exact h.1.1.1.1.1.2
theorem more_same {k : Int} {N : Nat} (h : N = argsOf k) (i : Nat) : moreD k i N = moreT k i := by
 unfold moreD moreT
 subst h
 unfold argsOf
 by_cases h6 : k = 6
 ·subst h6; simp
 by_cases h7 : k = 7
 ·subst h7; simp
 by_cases h8 : k = 8
 ·subst h8; simp
 simp [h6, h7, h8]
mutual
theorem all_right (p v : Int) : ∀ (t : Tm) (d : Int), (walkT t d).all (okN p v) = rightT wordB p (v + d) d t
 | .mk k n s l a, d => by
  rw [walkT, rightT, List.all_cons, head_fits]
  by_cases h : (headT wordB p d k n s l a.length && (decide (k ≠ 1) || decide (n < v + d))) = true
  ·rw [h, Bool.true_and, Bool.true_and]
   exact alls_right p v a k d a.length 0 (head_args (Bool.and_eq_true_iff.1 h).1)
  ·rw [Bool.eq_false_iff.2 h]
   simp
theorem alls_right (p v : Int) : ∀ (ts : List Tm) (k d : Int) (N i : Nat), N = argsOf k → (walkTs k d N i ts).all (okN p v) = rightTs wordB p (v + d) d k i ts
 | [], k, d, N, i, _ => by simp [walkTs, rightTs]
 | t :: ts, k, d, N, i, h => by
  rw [walkTs, rightTs, List.all_append, all_right p v t, alls_right p v ts k d N (i + 1) h, more_same h, Int.add_assoc]
end
/-- Right, as a plain function. -/
def rightP (p v : Int) (t : Tm) : Bool := (decide (0 ≤ p) && decide (p ≤ 4) && decide (0 ≤ v) && decide (v ≤ 1099511627776)) && (decide (nodesT t ≤ 3000) && rightT wordB p v 0 t)
theorem rightP_list (p v : Int) (t : Tm) (hp : 0 ≤ p ∧ p ≤ 4 ∧ 0 ≤ v ∧ v ≤ 1099511627776) : rightP p v t = (decide (nodesT t ≤ 3000) && (walkT t 0).all (okN p v)) := by
 unfold rightP
 rw [all_right, Int.add_zero, decide_eq_true hp.1, decide_eq_true hp.2.1, decide_eq_true hp.2.2.1, decide_eq_true hp.2.2.2]
 rfl
/-- So far every node is right. -/
def okPre {G : List Nat} {w : World} (p v : Int) (l : List (Nd G w)) : Bool := decide (wN l ≤ 3000) && (l.map Nd.pr).all (okN p v)
theorem okPre_snoc {G : List Nat} {w : World} (p v : Int) (l : List (Nd G w)) (x : Nd G w) (h : okPre p v l = true) : okPre p v (l ++ [x]) = (decide (wN l + (1 + x.t.levels.length) ≤ 3000) && okN p v x.pr) := by
 unfold okPre at h ⊢
 simp only [Bool.and_eq_true, decide_eq_true_eq] at h
 rw [wN_snoc, List.map_append, List.all_append, h.2]
 simp
theorem okPre_le {G : List Nat} {w : World} {p v : Int} {l : List (Nd G w)} (h : okPre p v l = true) : wN l ≤ 3000 := by
 unfold okPre at h
 simp only [Bool.and_eq_true, decide_eq_true_eq] at h
 exact h.1
theorem okPre_pre {G : List Nat} {w : World} {p v : Int} {a b : List (Nd G w)} (h : a <+: b) (hb : okPre p v b = true) : okPre p v a = true := by
 have h1 := wN_pre h
 obtain ⟨z, rfl⟩ := h
 unfold okPre at hb ⊢
 simp only [Bool.and_eq_true, decide_eq_true_eq, List.map_append, List.all_append] at hb ⊢
 exact ⟨by omega, hb.2.1⟩
set_option maxHeartbeats 8000000 in
theorem right_walk8 {F : List Nat} (t : Tm) (cs : List Value) (p v : Int) (w : World) (ht : TmAt F w t cs) (hs : SmT t) (hn : nodesT t ≤ 100000000000) : Calls Tryz.prog 23 #[.agg cs.toArray, .int .i64 p, .int .i64 v] w fun e w' => e = .returned (.bool (rightP p v t)) ∧ Below w.heap.size w w' := by
 obtain ⟨xs, hxs, hstops⟩ := nodes_stops [w.heap.size + 3, w.heap.size + 4] w t cs (TmAt.sub (fun k hk => Or.inr (by simp at hk; omega)) t cs ht) hs (by omega)
 have C5 := Lib.hid ht.len
 have C1 := Lib.hid ht.one
 clear ht
 obtain ⟨q, hq⟩ : ∃ q, w.heap.size = q := ⟨_, rfl⟩
 have HQ : Hid (w.heap.size = q) := hq
 revert hstops hxs xs
 rw [hq]
 intro xs hxs hstops
 have XS := Lib.hid hxs
 have STOPS := Lib.hid hstops
 clear hstops hxs hq
 obtain ⟨G, hGd⟩ : ∃ G, Hid (([q + 3, q + 4] : List Nat) = G) := ⟨_, rfl⟩
 revert STOPS XS xs
 rw [hGd.out]
 intro xs XS STOPS
 have M3 : Hid (q + 3 ∈ G) := by rw [Hid, ← hGd.out]; simp
 have M4 : Hid (q + 4 ∈ G) := by rw [Hid, ← hGd.out]; simp
 have GB : Hid (∀ g ∈ G, q ≤ g ∧ g < q + 5) := fun g hg => by rw [← hGd.out] at hg; simp at hg; omega
 clear hGd
 refine calls_of_marks Tryz.func23 rfl ?_
 simp only [Tryz.ntmps23, List.size_toArray, List.length_cons, List.length_nil, Nat.reduceAdd, Nat.reduceSub, Array.replicate_succ, Array.replicate_zero, List.push_toArray, List.append_toArray, List.nil_append, List.cons_append]
 go_upto_region 0 with (fail)
 refine lbeg (opsOf Tryz.f23 0) ?_
 refine lbox 0 25 (.tmp 0) (cs) (q) (some 3) HQ ?_
 intro w1 bw1 bew1 hsw1
 refine lin_box1 1 3 (.tmp 1) (.int .i64 p) (q + 1) (some 4) (by kernel_rfl) (by kernel_rfl) (by kernel_rfl) (by kernel_rfl) (by rfl) hsw1 ?_
 intro w2 bw2 bew2 hsw2
 refine lin_box1 2 3 (.tmp 2) (.int .i64 v) (q + 1 + 1) (some 5) (by kernel_rfl) (by kernel_rfl) (by kernel_rfl) (by kernel_rfl) (by rfl) hsw2 ?_
 intro w3 bw3 bew3 hsw3
 refine lin_alloc1 3 4 (.bool false) (q + 1 + 1 + 1) (some 6) (by kernel_rfl) (by kernel_rfl) (by kernel_rfl) (by kernel_rfl) (by rfl) hsw3 ?_
 intro w4 bw4 bew4 hsw4
 refine ldn 4 ?_
 generalize hact : Act.put _ (some 6) _ = act
 simp only [Act.put, sA, sC, sZ] at hact
 subst hact
 have B0 : Hid (Blk w4 q 25 cs) := ((bw1.below bew2 (by omega)).below bew3 (by omega)).below bew4 (by omega)
 have B1 : Hid (IntAt w4 (q + 1) p) := (bw2.below bew3 (by omega)).below bew4 (by omega)
 have B2 : Hid (IntAt w4 (q + 2) v) := bw3.below bew4 (by omega)
 have B3 : Hid (Blk w4 (q + 3) 4 [.bool false]) := bw4
 have BE : Hid (Below q w w4) := ((bew1.trans (bew2.mono (by omega))).trans (bew3.mono (by omega))).trans (bew4.mono (by omega))
 have S4 : Hid (w4.heap.size = q + 4) := hsw4
 clear bw1 bew1 hsw1 bw2 bew2 hsw2 bw3 bew3 hsw3 bw4 bew4 hsw4
 by_cases hc1 : p < 0
 ·have r1 : decide (p < 0) = true := decide_eq_true hc1
  go_upto_region 1 with (fail)
  refine lbeg (opsOf Tryz.f23 1) ?_
  refine lcl 0 (.int .i64 p) (some 10) 3 4 (q + 1) 0 (B1.out.cell rfl) Tryz.underlying3 ?_
  refine lnow 1 (.bool (decide (p < 0))) (some 11) ?_
  rw [r1]
  refine lnow 2 (.bool true) (some 12) ?_
  refine lpas 3 (some 13) ?_
  refine lpas 4 (some 14) ?_
  refine lnow 5 (.bool true) (some 15) ?_
  refine lnow 6 (.bool true) (some 16) ?_
  refine lpas 7 (some 17) ?_
  refine lpas 8 (some 18) ?_
  refine lnow 9 (.bool true) (some 19) ?_
  refine lnow 10 (.bool true) (some 20) ?_
  refine lpas 11 (some 21) ?_
  refine lpas 12 (some 22) ?_
  refine lnow 13 (.bool true) (some 23) ?_
  refine ldn 14 ?_
  generalize hact : Act.put _ (some 23) _ = act
  simp only [Act.put, sA, sC, sZ] at hact
  subst hact
  go_upto_region 2 with (fail)
  refine lbeg (opsOf Tryz.f23 2) ?_
  refine lin_put1 0 4 (.tmp 6) (Operand.const (.bool false)) (q + 3) _ (.bool false) (.bool false) (by kernel_rfl) (by kernel_rfl) (by kernel_rfl) (by kernel_rfl) (by kernel_rfl) B3.out (by kernel_rfl) (by rfl) (by rfl) ?_
  intro w5 bw5 uw5
  refine ldn 1 ?_
  generalize hact : Act.put _ none _ = act
  simp only [Act.put] at hact
  subst hact
  go_wp2
  refine ret_plain (results_bool rfl _ _ (q + 3) false rfl bw5) rfl ⟨by rw [show rightP p v t = false by unfold rightP; rw [decide_eq_false (show ¬ 0 ≤ p by omega)]; simp], uw5.below BE.out (by omega) (by have := S4.out; omega)⟩
 have r1 : decide (p < 0) = false := decide_eq_false hc1
 by_cases hc2 : p > 4
 ·have r2 : decide (p > 4) = true := decide_eq_true hc2
  go_upto_region 1 with (fail)
  refine lbeg (opsOf Tryz.f23 1) ?_
  refine lcl 0 (.int .i64 p) (some 10) 3 4 (q + 1) 0 (B1.out.cell rfl) Tryz.underlying3 ?_
  refine lnow 1 (.bool (decide (p < 0))) (some 11) ?_
  rw [r1]
  refine lnow 2 (.bool false) (some 12) ?_
  refine lcl 3 (.int .i64 p) (some 13) 3 4 (q + 1) 0 (B1.out.cell rfl) Tryz.underlying3 ?_
  refine lnow 4 (.bool (decide (p > 4))) (some 14) ?_
  rw [r2]
  refine lnow 5 (.bool true) (some 15) ?_
  refine lnow 6 (.bool true) (some 16) ?_
  refine lpas 7 (some 17) ?_
  refine lpas 8 (some 18) ?_
  refine lnow 9 (.bool true) (some 19) ?_
  refine lnow 10 (.bool true) (some 20) ?_
  refine lpas 11 (some 21) ?_
  refine lpas 12 (some 22) ?_
  refine lnow 13 (.bool true) (some 23) ?_
  refine ldn 14 ?_
  generalize hact : Act.put _ (some 23) _ = act
  simp only [Act.put, sA, sC, sZ] at hact
  subst hact
  go_upto_region 2 with (fail)
  refine lbeg (opsOf Tryz.f23 2) ?_
  refine lin_put1 0 4 (.tmp 6) (Operand.const (.bool false)) (q + 3) _ (.bool false) (.bool false) (by kernel_rfl) (by kernel_rfl) (by kernel_rfl) (by kernel_rfl) (by kernel_rfl) B3.out (by kernel_rfl) (by rfl) (by rfl) ?_
  intro w5 bw5 uw5
  refine ldn 1 ?_
  generalize hact : Act.put _ none _ = act
  simp only [Act.put] at hact
  subst hact
  go_wp2
  refine ret_plain (results_bool rfl _ _ (q + 3) false rfl bw5) rfl ⟨by rw [show rightP p v t = false by unfold rightP; rw [decide_eq_false (show ¬ p ≤ 4 by omega)]; simp], uw5.below BE.out (by omega) (by have := S4.out; omega)⟩
 have r2 : decide (p > 4) = false := decide_eq_false hc2
 by_cases hc3 : v < 0
 ·have r3 : decide (v < 0) = true := decide_eq_true hc3
  go_upto_region 1 with (fail)
  refine lbeg (opsOf Tryz.f23 1) ?_
  refine lcl 0 (.int .i64 p) (some 10) 3 4 (q + 1) 0 (B1.out.cell rfl) Tryz.underlying3 ?_
  refine lnow 1 (.bool (decide (p < 0))) (some 11) ?_
  rw [r1]
  refine lnow 2 (.bool false) (some 12) ?_
  refine lcl 3 (.int .i64 p) (some 13) 3 4 (q + 1) 0 (B1.out.cell rfl) Tryz.underlying3 ?_
  refine lnow 4 (.bool (decide (p > 4))) (some 14) ?_
  rw [r2]
  refine lnow 5 (.bool false) (some 15) ?_
  refine lnow 6 (.bool false) (some 16) ?_
  refine lcl 7 (.int .i64 v) (some 17) 3 5 (q + 2) 0 (B2.out.cell rfl) Tryz.underlying3 ?_
  refine lnow 8 (.bool (decide (v < 0))) (some 18) ?_
  rw [r3]
  refine lnow 9 (.bool true) (some 19) ?_
  refine lnow 10 (.bool true) (some 20) ?_
  refine lpas 11 (some 21) ?_
  refine lpas 12 (some 22) ?_
  refine lnow 13 (.bool true) (some 23) ?_
  refine ldn 14 ?_
  generalize hact : Act.put _ (some 23) _ = act
  simp only [Act.put, sA, sC, sZ] at hact
  subst hact
  go_upto_region 2 with (fail)
  refine lbeg (opsOf Tryz.f23 2) ?_
  refine lin_put1 0 4 (.tmp 6) (Operand.const (.bool false)) (q + 3) _ (.bool false) (.bool false) (by kernel_rfl) (by kernel_rfl) (by kernel_rfl) (by kernel_rfl) (by kernel_rfl) B3.out (by kernel_rfl) (by rfl) (by rfl) ?_
  intro w5 bw5 uw5
  refine ldn 1 ?_
  generalize hact : Act.put _ none _ = act
  simp only [Act.put] at hact
  subst hact
  go_wp2
  refine ret_plain (results_bool rfl _ _ (q + 3) false rfl bw5) rfl ⟨by rw [show rightP p v t = false by unfold rightP; rw [decide_eq_false (show ¬ 0 ≤ v by omega)]; simp], uw5.below BE.out (by omega) (by have := S4.out; omega)⟩
 have r3 : decide (v < 0) = false := decide_eq_false hc3
 by_cases hc4 : v > 1099511627776
 ·have r4 : decide (v > 1099511627776) = true := decide_eq_true hc4
  go_upto_region 1 with (fail)
  refine lbeg (opsOf Tryz.f23 1) ?_
  refine lcl 0 (.int .i64 p) (some 10) 3 4 (q + 1) 0 (B1.out.cell rfl) Tryz.underlying3 ?_
  refine lnow 1 (.bool (decide (p < 0))) (some 11) ?_
  rw [r1]
  refine lnow 2 (.bool false) (some 12) ?_
  refine lcl 3 (.int .i64 p) (some 13) 3 4 (q + 1) 0 (B1.out.cell rfl) Tryz.underlying3 ?_
  refine lnow 4 (.bool (decide (p > 4))) (some 14) ?_
  rw [r2]
  refine lnow 5 (.bool false) (some 15) ?_
  refine lnow 6 (.bool false) (some 16) ?_
  refine lcl 7 (.int .i64 v) (some 17) 3 5 (q + 2) 0 (B2.out.cell rfl) Tryz.underlying3 ?_
  refine lnow 8 (.bool (decide (v < 0))) (some 18) ?_
  rw [r3]
  refine lnow 9 (.bool false) (some 19) ?_
  refine lnow 10 (.bool false) (some 20) ?_
  refine lcl 11 (.int .i64 v) (some 21) 3 5 (q + 2) 0 (B2.out.cell rfl) Tryz.underlying3 ?_
  refine lnow 12 (.bool (decide (v > 1099511627776))) (some 22) ?_
  rw [r4]
  refine lnow 13 (.bool true) (some 23) ?_
  refine ldn 14 ?_
  generalize hact : Act.put _ (some 23) _ = act
  simp only [Act.put, sA, sC, sZ] at hact
  subst hact
  go_upto_region 2 with (fail)
  refine lbeg (opsOf Tryz.f23 2) ?_
  refine lin_put1 0 4 (.tmp 6) (Operand.const (.bool false)) (q + 3) _ (.bool false) (.bool false) (by kernel_rfl) (by kernel_rfl) (by kernel_rfl) (by kernel_rfl) (by kernel_rfl) B3.out (by kernel_rfl) (by rfl) (by rfl) ?_
  intro w5 bw5 uw5
  refine ldn 1 ?_
  generalize hact : Act.put _ none _ = act
  simp only [Act.put] at hact
  subst hact
  go_wp2
  refine ret_plain (results_bool rfl _ _ (q + 3) false rfl bw5) rfl ⟨by rw [show rightP p v t = false by unfold rightP; rw [decide_eq_false (show ¬ v ≤ 1099511627776 by omega)]; simp], uw5.below BE.out (by omega) (by have := S4.out; omega)⟩
 have r4 : decide (v > 1099511627776) = false := decide_eq_false hc4
 go_upto_region 1 with (fail)
 refine lbeg (opsOf Tryz.f23 1) ?_
 refine lcl 0 (.int .i64 p) (some 10) 3 4 (q + 1) 0 (B1.out.cell rfl) Tryz.underlying3 ?_
 refine lnow 1 (.bool (decide (p < 0))) (some 11) ?_
 rw [r1]
 refine lnow 2 (.bool false) (some 12) ?_
 refine lcl 3 (.int .i64 p) (some 13) 3 4 (q + 1) 0 (B1.out.cell rfl) Tryz.underlying3 ?_
 refine lnow 4 (.bool (decide (p > 4))) (some 14) ?_
 rw [r2]
 refine lnow 5 (.bool false) (some 15) ?_
 refine lnow 6 (.bool false) (some 16) ?_
 refine lcl 7 (.int .i64 v) (some 17) 3 5 (q + 2) 0 (B2.out.cell rfl) Tryz.underlying3 ?_
 refine lnow 8 (.bool (decide (v < 0))) (some 18) ?_
 rw [r3]
 refine lnow 9 (.bool false) (some 19) ?_
 refine lnow 10 (.bool false) (some 20) ?_
 refine lcl 11 (.int .i64 v) (some 21) 3 5 (q + 2) 0 (B2.out.cell rfl) Tryz.underlying3 ?_
 refine lnow 12 (.bool (decide (v > 1099511627776))) (some 22) ?_
 rw [r4]
 refine lnow 13 (.bool false) (some 23) ?_
 refine ldn 14 ?_
 generalize hact : Act.put _ (some 23) _ = act
 simp only [Act.put, sA, sC, sZ] at hact
 subst hact
 have RP : Hid (rightP p v t = (decide (nodesT t ≤ 3000) && (walkT t 0).all (okN p v))) := rightP_list p v t (by omega)
 have VB : Hid (0 ≤ v ∧ v ≤ 1099511627776) := by rw [Hid]; omega
 have OKX : Hid (okPre p v xs = rightP p v t) := by
  rw [Hid, RP.out]
  unfold okPre
  rw [wN, XS.out, wsum_walk]
 clear r1 r2 r3 r4 RP
 go_upto_region 3 with (fail)
 refine lbeg (opsOf Tryz.f23 3) ?_
 refine lin_alloc1 0 3 (.int .i64 0) (q + 4) (some 7) (by kernel_rfl) (by kernel_rfl) (by kernel_rfl) (by kernel_rfl) (by rfl) S4 ?_
 intro w5 bw5 bew5 hsw5
 refine lin_put1 1 3 (.tmp 7) (Operand.const (.int .i64 0)) (q + 4) _ (.int .i64 0) (.int .i64 0) (by kernel_rfl) (by kernel_rfl) (by kernel_rfl) (by kernel_rfl) (by kernel_rfl) bw5 (by kernel_rfl) (by rfl) (by rfl) ?_
 intro w6 bw6 uw6
 refine ldn 2 ?_
 generalize hact : Act.put _ none _ = act
 simp only [Act.put, sA, sC, sZ] at hact
 subst hact
 have B0b : Hid (Blk w6 q 25 cs) := uw6.blk (B0.out.below bew5 (by omega)) (by omega)
 have B1b : Hid (IntAt w6 (q + 1) p) := uw6.blk (B1.out.below bew5 (by omega)) (by omega)
 have B2b : Hid (IntAt w6 (q + 2) v) := uw6.blk (B2.out.below bew5 (by omega)) (by omega)
 have B3b : Hid (Blk w6 (q + 3) 4 [.bool false]) := uw6.blk (B3.out.below bew5 (by omega)) (by omega)
 have B4b : Hid (IntAt w6 (q + 4) 0) := bw6
 have BEb : Hid (Below q w w6) := uw6.below (BE.out.trans (bew5.mono (by omega))) (by omega) (by have := hsw5.out; omega)
 have S6 : Hid (q + 5 ≤ w6.heap.size) := by have := uw6.size; have := hsw5.out; rw [Hid]; omega
 clear bw5 bew5 hsw5 bw6 uw6 B0 B1 B2 B3 BE S4
 go_upto_region 4 with (fail)
 refine lbeg (opsOf Tryz.f23 4) ?_
 refine lrl 0 (cs) (some 24) 25 3 (q) 0 (B0b.out).whole Tryz.underlying25 (t5Size C5.out) ?_
 refine lcal 1 44 #[.agg cs.toArray] (some 25) _ (iter_walk cs w6) ?_
 rintro e w5 ⟨rfl, hb5, hbe5, hs5⟩
 refine ⟨_, rfl, ?_⟩
 refine ldn 2 ?_
 generalize hact : Act.put _ (some 25) _ = act
 simp only [Act.put, sA, sC, sZ] at hact
 subst hact
 obtain ⟨bt, hbt⟩ : ∃ bt, Hid (w6.heap.size = bt) := ⟨_, rfl⟩
 rw [hbt.out] at hb5 hbe5 hs5 S6 ⊢
 have L5 : Hid (q + 5 ≤ w5.heap.size) := by have := hs5.out; have := S6.out; rw [Hid]; omega
 have S6o := S6.out
 have C0 : Hid (Blk w5 q 25 cs) := B0b.out.below hbe5 (by omega)
 have C_1 : Hid (IntAt w5 (q + 1) p) := B1b.out.below hbe5 (by omega)
 have C2 : Hid (IntAt w5 (q + 2) v) := B2b.out.below hbe5 (by omega)
 have C3 : Hid (Blk w5 (q + 3) 4 [.bool false]) := B3b.out.below hbe5 (by omega)
 have C4 : Hid (IntAt w5 (q + 4) 0) := B4b.out.below hbe5 (by omega)
 have BE5 : Hid (Below q w w5) := BEb.out.trans (hbe5.mono (by omega))
 have B54 := Lib.hid hb5
 clear hb5 hbe5 hs5 S6 S6o B0b B1b B2b B3b B4b BEb
 go_wp2
 refine range_nodes G w w q bt xs (by kernel_rfl) (STOPS.out w5 bt B54.out (KeepC.of_below (by rw [HQ.out]; exact BE5.out)) (fun g hg => by have := GB.out g hg; have := L5.out; omega)) (KeepC.of_below (by rw [HQ.out]; exact BE5.out)) BE5.out (by have := L5.out; omega) (fun g hg => by have := GB.out g hg; have := L5.out; omega) (fun g hg => (GB.out g hg).1)
  (fun pre W => IntAt W (q + 1) p ∧ IntAt W (q + 2) v ∧ Blk W (q + 3) 4 [.bool false] ∧ IntAt W (q + 4) ((wN pre : Nat) : Int) ∧ Hid (okPre p v pre = true)) (fun c pre W => c = .ret ∧ Blk W (q + 3) 4 [.bool false] ∧ Hid (okPre p v pre = false))
  (fun s A B row h hg hr => ⟨own_blk_any (β := Unit) _ _ _ _ () A B row h.1 hg hr, own_blk_any (β := Unit) _ _ _ _ () A B row h.2.1 hg hr, own_blk_any (β := Unit) _ _ _ _ () A B row h.2.2.1 hg hr, own_blk_any (β := Unit) _ _ _ _ () A B row h.2.2.2.1 hg hr, h.2.2.2.2⟩) (fun c s A B row h hg hr => ⟨h.1, own_blk_any (β := Unit) _ _ _ _ () A B row h.2.1 hg hr, h.2.2⟩)
  ⟨C_1.out, C2.out, C3.out, C4.out, by rw [Hid]; simp [okPre, wN, wsum]⟩ (fun x nb => { tmps := #[.agg cs.toArray, .int .i64 p, .int .i64 v, .pointer (some ⟨q, 0, none⟩), .pointer (some ⟨q + 1, 0, none⟩), .pointer (some ⟨q + 1 + 1, 0, none⟩), .pointer (some ⟨q + 1 + 1 + 1, 0, none⟩), .pointer (some ⟨q + 4, 0, none⟩), .pointer (some ⟨nb, 0, none⟩), .int .i64 x.d, .int .i64 p, .bool false, .bool false, .int .i64 p, .bool false, .bool false, .bool false, .int .i64 v, .bool false, .bool false, .bool false, .int .i64 v, .bool false, .bool false, .agg cs.toArray, .func (.func 72) #[] #[.pointer (some ⟨bt, 0, none⟩)], .agg x.cs.toArray, .int .i64 x.d, undef, undef, undef, undef, undef, undef, undef, undef, undef, undef, undef, undef, undef, undef, undef, undef, undef, undef, undef], defers := [] }) ?_ ?_ ?_ ?_
 ·intro l x W K hK
  obtain ⟨q2, hq2⟩ : ∃ q2, Hid (W.heap.size = q2) := ⟨_, rfl⟩
  rw [hq2.out] at hK
  refine wpIn_seq ?_
  refine rin_lin (opsOf Tryz.f23 5) (by kernel_rfl) (by kernel_rfl) (fun ⟨_, _, h⟩ => h) ?_
  refine lall 0 25 z5T (q2) (some 8) hq2 ?_
  intro wa bwa bewa hswa
  refine lput 1 25 (.tmp 8) (.tmp 26) (q2) _ (z5T) (x.cs) bwa (x.at_.len.trans (rfl : z5T.length = 5).symm) (t5Size x.at_.len) (by simpa using x.at_.one) ?_
  intro wb bwb uwb
  refine ldn 2 ?_
  generalize hact : Act.put _ none _ = act
  simp only [Act.put, sA, sC, sZ] at hact
  subst hact
  refine then_normal ?_
  refine rin_lin (opsOf Tryz.f23 6) (by kernel_rfl) (by kernel_rfl) (fun ⟨_, _, h⟩ => h) ?_
  refine lnow 0 (.int .i64 x.d) (some 9) ?_
  refine ldn 1 ?_
  generalize hact : Act.put _ (some 9) _ = act
  simp only [Act.put, sA, sC, sZ] at hact
  subst hact
  exact hK wb bwb (uwb.below bewa (Nat.le_refl _) (by have := bewa.size; have := hq2.out; omega))
 ·rintro l pre x nb W ⟨hp1, hp2, hi1, hi2, hi3⟩ hnb hxb hxt hbl hnW hlen
  have sl := level_bound x.sm
  have X5 := Lib.hid x.at_.len
  have NB : Hid (nb ≠ q + 4 ∧ nb ≠ q + 3) := by have := L5.out; rw [Hid]; omega
  have WE := weight_walk x.t x.cs W.drew (hxt.below (Below.refl _ _).drew) x.sm
  have PA : Hid (IntAt W.drew (q + 1) p) := hp1
  have PB : Hid (IntAt W.drew (q + 2) v) := hp2
  have D1 : Hid (Blk W.drew (q + 3) 4 [.bool false]) := hi1
  have D2 : Hid (IntAt W.drew (q + 4) ((wN pre : Nat) : Int)) := hi2
  have D3 : Blk W.drew nb 25 x.cs := hxb
  have KD := Lib.hid (Keeps.drew G W)
  have XT : Hid (TmAt G W.drew x.t x.cs) := hxt.below (Below.refl _ _).drew
  have HV := okPre_snoc p v pre x hi3.out
  have OL := okPre_le hi3.out
  have HW := wN_snoc pre x
  obtain ⟨L, hL⟩ : ∃ L, Hid (x.t.levels.length = L) := ⟨_, rfl⟩
  rw [hL.out] at WE HV HW sl
  obtain ⟨u, hu⟩ : ∃ u, Hid (wN pre = u) := ⟨_, rfl⟩
  rw [hu.out] at HV HW D2 OL
  have HV2 := Lib.hid HV
  have HW2 := Lib.hid HW
  have OL2 := Lib.hid OL
  have OKP := Lib.hid hi3
  clear hp1 hp2 hi1 hi2 hi3 hxb hnb hxt hbl hnW HV HW OL hlen
  refine wpIn_block ?_
  refine wpIn_seq ?_
  refine rin_draw (opsOf Tryz.f23 7) (fun W' => Blk W' nb 25 x.cs) (by kernel_rfl) (by kernel_rfl) (by kernel_rfl) 5 (by kernel_rfl) ?_
  intro Q' hQN hN
  generalize W.drew = wr at PA PB D1 D2 D3 KD XT WE ⊢
  refine reg_nowIf 1 (.agg (x.cs).toArray) (some 29) hQN D3 (by kernel_rfl) (by kernel_rfl) (fun w' hw => exec_load_mid 25 (.tmp 8) (by kernel_rfl) (nb) 0 (by kernel_rfl) (x.cs) _ hw.whole Tryz.underlying25 rfl (t5Size X5.out)) ?_
  refine reg_lc 0 2 (.int .i64 (u : Int)) 28 30 45 #[.agg x.cs.toArray] _ D3 (fun w1 hb1 => D3.below hb1 D3.lt) (by kernel_rfl) (by kernel_rfl) (by kernel_rfl) (by decide) (by decide) (exec_load_cell 3 (.tmp 7) (by kernel_rfl) (q + 4) 0 (by kernel_rfl) _ (D2.out.cell rfl) _ Tryz.underlying3 rfl) (fun vj w1 hb1 => exec_load_cell 3 (.tmp 7) (by kernel_rfl) (q + 4) 0 (by kernel_rfl) _ ((D2.out.below hb1 D2.out.lt).cell rfl) _ Tryz.underlying3 rfl) (by kernel_rfl) (by kernel_rfl) (WE) ?_
  rintro e w6 ⟨rfl, hb6⟩
  refine ⟨hb6, _, rfl, ?_⟩
  have EA := Lib.hid (PA.out.below hb6 PA.out.lt)
  have EB := Lib.hid (PB.out.below hb6 PB.out.lt)
  have E1 := Lib.hid (D1.out.below hb6 D1.out.lt)
  have E2 := Lib.hid (D2.out.below hb6 D2.out.lt)
  have E3 := D3.below hb6 D3.lt
  have XE := Lib.hid (XT.out.below hb6)
  have KE : Hid (Keeps G W w6) := KD.out.trans (Keeps.of_below hb6)
  clear hb6 PA PB D1 D2 D3 KD WE XT
  refine reg_now 3 (.int .i64 (IntKind.i64.wrap ((u : Int) + ((1 + L : Nat) : Int)))) (some 31) hQN E3 (by kernel_rfl) (by kernel_rfl) (fun w => by kernel_rfl) ?_
  rw [show IntKind.i64.wrap ((u : Int) + ((1 + L : Nat) : Int)) = ((u + (1 + L) : Nat) : Int) from (IntWalk.i64_in _ (by have := OL2.out; omega)).trans (by omega)]
  obtain ⟨v2, hv2⟩ : ∃ x, Hid (u + (1 + L) = x) := ⟨_, rfl⟩
  rw [hv2.out]
  rw [hv2.out] at HV2 HW2
  refine reg_put1 4 3 (.tmp 7) (.tmp 31) (q + 4) _ (.int .i64 (u : Int)) (.int .i64 (v2 : Int)) (by kernel_rfl) (by kernel_rfl) (by kernel_rfl) (by kernel_rfl) (by kernel_rfl) E2.out (by kernel_rfl) (by rfl) (by rfl) ?_
  intro w7 bw7 uw7
  refine ⟨uw7.blk E3 NB.out.1, ?_⟩
  refine reg_done (by kernel_rfl) (hN _ _ ?_)
  have FA : Hid (IntAt w7 (q + 1) p) := uw7.blk EA.out (by omega)
  have FB : Hid (IntAt w7 (q + 2) v) := uw7.blk EB.out (by omega)
  have F1 : Hid (Blk w7 (q + 3) 4 [.bool false]) := uw7.blk E1.out (by omega)
  have F2 : Hid (IntAt w7 (q + 4) (v2 : Int)) := bw7
  have F3 : Hid (Blk w7 nb 25 x.cs) := uw7.blk E3 NB.out.1
  have KF : Hid (Keeps G W w7) := KE.out.upd uw7 (.inl M4.out)
  have XF : Hid (TmAt G w7 x.t x.cs) := TmAt.step (Step.of_upd uw7 M4.out) _ _ XE.out
  clear EA EB E1 E2 E3 KE bw7 uw7 hv2 XE
  generalize hact : Act.put _ none _ = act
  simp only [Act.put, sA, sC, sZ] at hact
  subst hact
  refine then_normal ?_
  refine wpIn_seq ?_
  by_cases hgt : 3000 < v2
  ·have r1 : decide ((v2 : Int) > 3000) = true := by simp; omega
   refine rin_lin (opsOf Tryz.f23 8) (by kernel_rfl) (by kernel_rfl) (fun ⟨_, _, h⟩ => h) ?_
   refine lcl 0 (.int .i64 (v2 : Int)) (some 32) 3 7 (q + 4) 0 (F2.out.cell rfl) Tryz.underlying3 ?_
   refine lnow 1 (.bool (decide ((v2 : Int) > 3000))) (some 33) ?_
   rw [r1]
   refine lnow 2 (.bool true) (some 34) ?_
   refine lpas 3 (some 35) ?_
   refine lpas 4 (some 36) ?_
   refine lnow 5 (.bool true) (some 37) ?_
   refine lnow 6 (.bool true) (some 38) ?_
   refine lpas 7 (some 39) ?_
   refine lpas 8 (some 40) ?_
   refine lpas 9 (some 41) ?_
   refine lpas 10 (some 42) ?_
   refine lpas 11 (some 43) ?_
   refine lpas 12 (some 44) ?_
   refine lpas 13 (some 45) ?_
   refine lnow 14 (.bool true) (some 46) ?_
   refine ldn 15 ?_
   generalize hact : Act.put _ (some 46) _ = act
   simp only [Act.put, sA, sC, sZ] at hact
   subst hact
   refine then_normal ?_
   refine wpIn_cond_true (by kernel_rfl) ?_
   refine wpIn_seq ?_
   refine rin_lin (opsOf Tryz.f23 9) (by kernel_rfl) (by kernel_rfl) (fun ⟨_, _, h⟩ => h) ?_
   refine lin_put1 0 4 (.tmp 6) (Operand.const (.bool false)) (q + 3) _ (.bool false) (.bool false) (by kernel_rfl) (by kernel_rfl) (by kernel_rfl) (by kernel_rfl) (by kernel_rfl) F1.out (by kernel_rfl) (by rfl) (by rfl) ?_
   intro w8 bw8 uw8
   refine ldn 1 ?_
   refine then_normal ?_
   refine wpIn_ret ?_
   exact ⟨KF.out.upd uw8 (.inl M3.out), rfl, bw8, by rw [Hid, HV2.out]; rw [decide_eq_false (show ¬ v2 ≤ 3000 by omega)]; rfl⟩
  have r1 : decide ((v2 : Int) > 3000) = false := by simp; omega
  have HV3 : Hid (okPre p v (pre ++ [x]) = okN p v x.pr) := by rw [Hid, HV2.out, decide_eq_true (show v2 ≤ 3000 by omega)]; rfl
  clear HV2
  have HV2 := HV3
  clear HV3
  by_cases hd : x.d > 200
  ·have r2 : decide (x.d > 200) = true := decide_eq_true hd
   refine rin_lin (opsOf Tryz.f23 8) (by kernel_rfl) (by kernel_rfl) (fun ⟨_, _, h⟩ => h) ?_
   refine lcl 0 (.int .i64 (v2 : Int)) (some 32) 3 7 (q + 4) 0 (F2.out.cell rfl) Tryz.underlying3 ?_
   refine lnow 1 (.bool (decide ((v2 : Int) > 3000))) (some 33) ?_
   rw [r1]
   refine lnow 2 (.bool false) (some 34) ?_
   refine lnow 3 (.int .i64 x.d) (some 35) ?_
   refine lnow 4 (.bool (decide (x.d > 200))) (some 36) ?_
   rw [r2]
   refine lnow 5 (.bool true) (some 37) ?_
   refine lnow 6 (.bool true) (some 38) ?_
   refine lpas 7 (some 39) ?_
   refine lpas 8 (some 40) ?_
   refine lpas 9 (some 41) ?_
   refine lpas 10 (some 42) ?_
   refine lpas 11 (some 43) ?_
   refine lpas 12 (some 44) ?_
   refine lpas 13 (some 45) ?_
   refine lnow 14 (.bool true) (some 46) ?_
   refine ldn 15 ?_
   generalize hact : Act.put _ (some 46) _ = act
   simp only [Act.put, sA, sC, sZ] at hact
   subst hact
   refine then_normal ?_
   refine wpIn_cond_true (by kernel_rfl) ?_
   refine wpIn_seq ?_
   refine rin_lin (opsOf Tryz.f23 9) (by kernel_rfl) (by kernel_rfl) (fun ⟨_, _, h⟩ => h) ?_
   refine lin_put1 0 4 (.tmp 6) (Operand.const (.bool false)) (q + 3) _ (.bool false) (.bool false) (by kernel_rfl) (by kernel_rfl) (by kernel_rfl) (by kernel_rfl) (by kernel_rfl) F1.out (by kernel_rfl) (by rfl) (by rfl) ?_
   intro w8 bw8 uw8
   refine ldn 1 ?_
   refine then_normal ?_
   refine wpIn_ret ?_
   exact ⟨KF.out.upd uw8 (.inl M3.out), rfl, bw8, by rw [Hid, HV2.out]; unfold okN Nd.pr; dsimp only; rw [decide_eq_false (show ¬ x.d ≤ 200 by omega)]; rfl⟩
  have r2 : decide (x.d > 200) = false := decide_eq_false hd
  obtain ⟨fb, hfb⟩ : ∃ y, Hid (fitsB p (v + x.d) x.t = y) := ⟨_, rfl⟩
  have HV3 : Hid (okPre p v (pre ++ [x]) = fb) := by rw [Hid, HV2.out]; unfold okN Nd.pr; dsimp only; rw [decide_eq_true (show x.d ≤ 200 by omega), hfb.out]; rfl
  clear HV2
  have HV2 := HV3
  clear HV3
  cases fb
  ·skip
   refine rin_lin (opsOf Tryz.f23 8) (by kernel_rfl) (by kernel_rfl) (fun ⟨_, _, h⟩ => h) ?_
   refine lcl 0 (.int .i64 (v2 : Int)) (some 32) 3 7 (q + 4) 0 (F2.out.cell rfl) Tryz.underlying3 ?_
   refine lnow 1 (.bool (decide ((v2 : Int) > 3000))) (some 33) ?_
   rw [r1]
   refine lnow 2 (.bool false) (some 34) ?_
   refine lnow 3 (.int .i64 x.d) (some 35) ?_
   refine lnow 4 (.bool (decide (x.d > 200))) (some 36) ?_
   rw [r2]
   refine lnow 5 (.bool false) (some 37) ?_
   refine lnow 6 (.bool false) (some 38) ?_
   refine lrl 7 (x.cs) (some 39) 25 8 (nb) 0 (F3.out).whole Tryz.underlying25 (t5Size X5.out) ?_
   refine lcl 8 (.int .i64 p) (some 40) 3 4 (q + 1) 0 (FA.out.cell rfl) Tryz.underlying3 ?_
   refine lcl 9 (.int .i64 v) (some 41) 3 5 (q + 2) 0 (FB.out.cell rfl) Tryz.underlying3 ?_
   refine lnow 10 (.int .i64 x.d) (some 42) ?_
   refine lnow 11 (.int .i64 (IntKind.i64.wrap (v + x.d))) (some 43) ?_
   rw [show IntKind.i64.wrap (v + x.d) = v + x.d from IntWalk.i64_in _ (by have := VB.out; have := x.d0; omega)]
   refine lcal 12 46 #[.agg x.cs.toArray, .int .i64 p, .int .i64 (v + x.d)] (some 44) _ (fits_walk x.t x.cs p (v + x.d) w7 XF.out x.sm) ?_
   rintro e w8 ⟨rfl, hb8⟩
   rw [hfb.out]
   refine ⟨_, rfl, ?_⟩
   have KG : Hid (Keeps G W w8) := KF.out.below (hb8.mono KF.out.size)
   have F1b := Lib.hid (F1.out.below hb8 F1.out.lt)
   have FAb := Lib.hid (FA.out.below hb8 FA.out.lt)
   have FBb := Lib.hid (FB.out.below hb8 FB.out.lt)
   have F2b := Lib.hid (F2.out.below hb8 F2.out.lt)
   clear hb8
   refine lnow 13 (.bool true) (some 45) ?_
   refine lnow 14 (.bool true) (some 46) ?_
   refine ldn 15 ?_
   generalize hact : Act.put _ (some 46) _ = act
   simp only [Act.put, sA, sC, sZ] at hact
   subst hact
   refine then_normal ?_
   refine wpIn_cond_true (by kernel_rfl) ?_
   refine wpIn_seq ?_
   refine rin_lin (opsOf Tryz.f23 9) (by kernel_rfl) (by kernel_rfl) (fun ⟨_, _, h⟩ => h) ?_
   refine lin_put1 0 4 (.tmp 6) (Operand.const (.bool false)) (q + 3) _ (.bool false) (.bool false) (by kernel_rfl) (by kernel_rfl) (by kernel_rfl) (by kernel_rfl) (by kernel_rfl) F1b.out (by kernel_rfl) (by rfl) (by rfl) ?_
   intro w8 bw8 uw8
   refine ldn 1 ?_
   refine then_normal ?_
   refine wpIn_ret ?_
   exact ⟨KG.out.upd uw8 (.inl M3.out), rfl, bw8, HV2⟩
  refine rin_lin (opsOf Tryz.f23 8) (by kernel_rfl) (by kernel_rfl) (fun ⟨_, _, h⟩ => h) ?_
  refine lcl 0 (.int .i64 (v2 : Int)) (some 32) 3 7 (q + 4) 0 (F2.out.cell rfl) Tryz.underlying3 ?_
  refine lnow 1 (.bool (decide ((v2 : Int) > 3000))) (some 33) ?_
  rw [r1]
  refine lnow 2 (.bool false) (some 34) ?_
  refine lnow 3 (.int .i64 x.d) (some 35) ?_
  refine lnow 4 (.bool (decide (x.d > 200))) (some 36) ?_
  rw [r2]
  refine lnow 5 (.bool false) (some 37) ?_
  refine lnow 6 (.bool false) (some 38) ?_
  refine lrl 7 (x.cs) (some 39) 25 8 (nb) 0 (F3.out).whole Tryz.underlying25 (t5Size X5.out) ?_
  refine lcl 8 (.int .i64 p) (some 40) 3 4 (q + 1) 0 (FA.out.cell rfl) Tryz.underlying3 ?_
  refine lcl 9 (.int .i64 v) (some 41) 3 5 (q + 2) 0 (FB.out.cell rfl) Tryz.underlying3 ?_
  refine lnow 10 (.int .i64 x.d) (some 42) ?_
  refine lnow 11 (.int .i64 (IntKind.i64.wrap (v + x.d))) (some 43) ?_
  rw [show IntKind.i64.wrap (v + x.d) = v + x.d from IntWalk.i64_in _ (by have := VB.out; have := x.d0; omega)]
  refine lcal 12 46 #[.agg x.cs.toArray, .int .i64 p, .int .i64 (v + x.d)] (some 44) _ (fits_walk x.t x.cs p (v + x.d) w7 XF.out x.sm) ?_
  rintro e w8 ⟨rfl, hb8⟩
  rw [hfb.out]
  refine ⟨_, rfl, ?_⟩
  have KG : Hid (Keeps G W w8) := KF.out.below (hb8.mono KF.out.size)
  have F1b := Lib.hid (F1.out.below hb8 F1.out.lt)
  have FAb := Lib.hid (FA.out.below hb8 FA.out.lt)
  have FBb := Lib.hid (FB.out.below hb8 FB.out.lt)
  have F2b := Lib.hid (F2.out.below hb8 F2.out.lt)
  clear hb8
  refine lnow 13 (.bool false) (some 45) ?_
  refine lnow 14 (.bool false) (some 46) ?_
  refine ldn 15 ?_
  generalize hact : Act.put _ (some 46) _ = act
  simp only [Act.put, sA, sC, sZ] at hact
  subst hact
  refine then_normal ?_
  refine wpIn_cond_false (by kernel_rfl) ?_
  refine wpIn_skip ?_
  exact ⟨KG.out, FAb.out, FBb.out, F1b.out, by rw [HW2.out]; exact F2b.out, HV2⟩
 ·rintro D W ⟨hp1, hp2, hi1, hi2, hi3⟩ hD hK hb
  have OKX2 := OKX.out
  rw [hi3.out] at OKX2
  have HX := Lib.hid OKX2
  have HD : Hid (q + 5 ≤ D) := by have := L5.out; rw [Hid]; omega
  have HK := Lib.hid hK
  have HB := Lib.hid hb
  have HI1 := Lib.hid hi1
  clear hp1 hp2 hi1 hi2 hi3 hD hK hb OKX2
  dsimp only [Act.marked]
  go_upto_region 10 with (fail)
  refine lbeg (opsOf Tryz.f23 10) ?_
  refine lin_put1 0 4 (.tmp 6) (Operand.const (.bool true)) (q + 3) _ (.bool false) (.bool true) (by kernel_rfl) (by kernel_rfl) (by kernel_rfl) (by kernel_rfl) (by kernel_rfl) HI1.out (by kernel_rfl) (by rfl) (by rfl) ?_
  intro w9 bw9 uw9
  refine ldn 1 ?_
  generalize hact : Act.put _ none _ = act
  simp only [Act.put] at hact
  subst hact
  go_wp2
  have KD : w9.heap[D]? = some (.deferred (some [])) := (uw9.block D (Array.getElem?_eq_some_iff.1 HK.out).1 (by have := HD.out; omega)).trans HK.out
  refine ret_marks rfl KD (results_bool rfl _ _ (q + 3) true rfl (blk_put bw9 (by have := HD.out; omega))) ⟨by rw [← HX.out], below_put (uw9.below HB.out (by omega) (by have := HB.out.size; have := HQ.out; omega)) (by have := HD.out; omega) (Array.getElem?_eq_some_iff.1 KD).1⟩
 ·rintro D c pre W hp ⟨rfl, hi1, hi2⟩ hD hK hb
  have HX : rightP p v t = false := by
   rw [← OKX.out, Bool.eq_false_iff]
   intro hc
   have := okPre_pre hp hc
   rw [hi2.out] at this
   cases this
  refine wp_ret ?_
  dsimp only [Act.marked]
  have HD : Hid (q + 5 ≤ D) := by have := L5.out; rw [Hid]; omega
  refine ret_marks rfl hK (results_bool rfl _ _ (q + 3) false rfl (blk_put hi1 (by have := HD.out; omega))) ⟨by rw [HX], below_put hb (by have := HD.out; omega) (Array.getElem?_eq_some_iff.1 hK).1⟩
end Go.Proofs.YtmceocgddaaohaaGreatDoor
