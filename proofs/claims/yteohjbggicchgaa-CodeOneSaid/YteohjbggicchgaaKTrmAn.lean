/- The document's own shape and binds; its Right and Width of a level. -/
import Derived.Test.YteohjbggicchgaaKGenT
import Derived.Test.YteohjbggicchgaaKTrmRw
namespace Go.Proofs.Yteohjbggicchgaa
open Go Go.RowKit
set_option maxRecDepth 100000
theorem binds_walk (k i : Int) (w : World) : Calls Try.prog 96 #[.int .i64 k, .int .i64 i] w fun e w' => e = .returned (.bool (decide (((k = 6 ∨ k = 7) ∧ i = 1) ∨ (k = 8 ∧ i = 2)))) ∧ w' = w := by
 by_cases h6 : k = 6 <;> by_cases h7 : k = 7 <;> by_cases h1 : i = 1 <;> by_cases h8 : k = 8 <;> by_cases h2 : i = 2 <;> first | omega |
  (go_enter Try.func96, Try.ntmps96
   go_wp2
   go_ret
   exact ⟨by simp [h6, h7, h1, h8, h2], rfl⟩)
def shL (k : Int) : Int := if k = 3 then 1 else if k = 4 then -1 else 0
theorem shape_walk8 (k : Int) (w : World) : Calls Try.prog 93 #[.int .i64 k] w fun e w' => e = .returned (.tuple #[.int .i64 ((argsOf k : Nat) : Int), .int .i64 (shL k)]) ∧ w' = w := by
 by_cases h3 : k = 3 <;> by_cases h4 : k = 4 <;> by_cases h5 : k = 5 <;> by_cases h6 : k = 6 <;> by_cases h7 : k = 7 <;> by_cases h8 : k = 8 <;> by_cases h9 : k = 9 <;> first | omega |
  (go_enter Try.func93, Try.ntmps93
   go_wp2
   exact bodyPost_ret (results_tmp2 rfl _ _ _) rfl ⟨by simp [argsOf, shL, h3, h4, h5, h6, h7, h8, h9], rfl⟩)
theorem rightL_b {l : Lv} {z : Int} (h : l.b = z) (hz : z < 0 ∨ z > 100) : rightL l = false := by
 cases e : rightL l with
 | false => rfl
 | true => have := right_b e; omega
theorem rightL_x {l : Lv} {z x : Int} {k : Nat} (h : l.b = z) (hx : l.p[k]? = some x) (hz : x < -1 ∨ x > z) : rightL l = false := by
 cases e : rightL l with
 | false => rfl
 | true => have := right_p e (List.mem_of_getElem? hx); omega
theorem plus_at {w : World} {q : Nat} {l : Lv} {k : Nat} {x : Int} (h : Blk w q 80 (ints .i64 l.zs)) (hx : l.p[k]? = some x) : w.cell? ⟨q, 1 + k, none⟩ = some (.int .i64 x) := h.plus k _ (by unfold ints; rw [List.getElem?_map, hx]; rfl)
set_option maxHeartbeats 2000000 in
theorem rwidth_walk (l : Lv) (hl : l.p.length = 4) (hr : rightL l = true) (w : World) : Calls Try.prog 95 #[.agg (ints .i64 l.zs).toArray] w fun e w' => e = .returned (.int .i64 (widthL l : Int)) ∧ Below w.heap.size w w' := by
 obtain ⟨q, hq⟩ : ∃ q, Hid (w.heap.size = q) := ⟨_, rfl⟩
 have HL := Lib.hid hl
 have HR := Lib.hid hr
 clear hl hr
 go_enter Try.func95, Try.ntmps95
 go_upto_region 0 with (fail)
 refine lbeg (opsOf Try.f95 0) ?_
 refine lbox 0 80 (.tmp 0) (ints .i64 l.zs) q (some 1) hq ?_
 intro w1 b1 be1 hs1
 refine lnow 1 (.int .i64 0) (some 2) ?_
 refine ldn 2 ?_
 have B1 := Lib.hid b1
 have BE : Hid (Below w.heap.size w w1) := by rw [Hid, hq.out]; exact be1
 clear b1 be1 hs1
 generalize hact : Act.put _ (some 2) _ = act
 simp only [Act.put, sA, sC, sZ] at hact
 subst hact
 go_upto_region 1 with (fail)
 refine lbeg (opsOf Try.f95 1) ?_
 refine lnow 0 (.int .i64 0) (some 3) ?_
 refine ldn 1 ?_
 generalize hact : Act.put _ (some 3) _ = act
 simp only [Act.put, sA, sC, sZ] at hact
 subst hact
 go_upto_region 2 with (fail)
 refine lbeg (opsOf Try.f95 2) ?_
 refine lnow 0 (.int .i64 0) (some 4) ?_
 refine ldn 1 ?_
 generalize hact : Act.put _ (some 4) _ = act
 simp only [Act.put, sA, sC, sZ] at hact
 subst hact
 go_wp2
 go_loop [3, 4] (fun wv iv => ∃ k : Nat, k ≤ 4 ∧ iv = .int .i64 (k : Int) ∧ wv = .int .i64 (widthUp l k : Int)) (fun _ iv => 4 - (intOf iv).toNat)
 case atStart => exact ⟨0, Nat.zero_le _, rfl, rfl⟩
 case round =>
  obtain ⟨k, hk, rfl, rfl⟩ := hrel
  by_cases hlt : k < 4
  rotate_left
  ·have r1 : ¬ (k : Int) < 4 := by omega
   obtain rfl : k = 4 := by omega
   go_wp2
   go_ret
   exact ⟨rfl, BE.out⟩
  have r1 : (k : Int) < 4 := by omega
  obtain ⟨x, hx⟩ : ∃ x, l.p[k]? = some x := ⟨_, List.getElem?_eq_getElem (by have := HL.out; omega)⟩
  have hm := right_p HR.out (List.mem_of_getElem? hx)
  have hc := plus_at B1.out hx
  have hD : l.p.getD k 0 = x := by rw [List.getD_eq_getElem?_getD, hx]; rfl
  have HD := Lib.hid hD
  clear hx hD
  obtain ⟨u, hu⟩ : ∃ x, Hid (widthUp l k = x) := ⟨_, rfl⟩
  rw [hu.out]
  by_cases h2 : x ≥ 0
  ·have e2 : Hid (widthUp l (k + 1) = k + 1) := by rw [Hid, widthUp, HD.out, if_neg (by omega)]
   go_upto_region 5 with (fail)
   refine lbeg (opsOf Try.f95 5) ?_
   refine lnow 0 (.int .i64 (k : Int)) (some 9) ?_
   refine lnow 1 (.pointer (some ⟨q, 1, none⟩)) (some 10) ?_
   refine lix 2 (.pointer (some ⟨q, 1 + k, none⟩)) (some 11) 78 10 9 (run_at_arr4 q 1 k hlt _) ?_
   refine lcl 3 (.int .i64 x) (some 12) 3 11 q (1 + k) hc Try.underlying3 ?_
   refine lnow 4 (.bool (decide (x ≥ 0))) (some 13) ?_
   rw [decide_eq_true h2]
   refine ldn 5 ?_
   generalize hact : Act.put _ (some 13) _ = act
   simp only [Act.put, sA, sC, sZ] at hact
   subst hact
   go_wp2
   go_round
   case rel => exact ⟨k + 1, by omega, by go_num, by rw [e2.out]; go_num⟩
   case measure => simp [intOf]; omega
  have e2 : Hid (widthUp l (k + 1) = u) := by rw [Hid, widthUp, HD.out, if_pos (by omega), hu.out]
  go_upto_region 5 with (fail)
  refine lbeg (opsOf Try.f95 5) ?_
  refine lnow 0 (.int .i64 (k : Int)) (some 9) ?_
  refine lnow 1 (.pointer (some ⟨q, 1, none⟩)) (some 10) ?_
  refine lix 2 (.pointer (some ⟨q, 1 + k, none⟩)) (some 11) 78 10 9 (run_at_arr4 q 1 k hlt _) ?_
  refine lcl 3 (.int .i64 x) (some 12) 3 11 q (1 + k) hc Try.underlying3 ?_
  refine lnow 4 (.bool (decide (x ≥ 0))) (some 13) ?_
  rw [decide_eq_false h2]
  refine ldn 5 ?_
  generalize hact : Act.put _ (some 13) _ = act
  simp only [Act.put, sA, sC, sZ] at hact
  subst hact
  go_wp2
  go_round
  case rel => exact ⟨k + 1, by omega, by go_num, by rw [e2.out]⟩
  case measure => simp [intOf]; omega
set_option maxHeartbeats 4000000 in
theorem rright7_walk (l : Lv) (hl : l.p.length = 4) (w : World) : Calls Try.prog 94 #[.agg (ints .i64 l.zs).toArray] w fun e w' => e = .returned (.bool (rightL l)) ∧ Below w.heap.size w w' := by
 obtain ⟨q, hq⟩ : ∃ q, Hid (w.heap.size = q) := ⟨_, rfl⟩
 have HL := Lib.hid hl
 clear hl
 go_enter Try.func94, Try.ntmps94
 go_upto_region 0 with (fail)
 refine lbeg (opsOf Try.f94 0) ?_
 refine lbox 0 80 (.tmp 0) (ints .i64 l.zs) q (some 1) hq ?_
 intro w1 b1 be1 hs1
 refine lnow 1 (.bool false) (some 2) ?_
 refine ldn 2 ?_
 have B1 := Lib.hid b1
 have BE : Hid (Below w.heap.size w w1) := by rw [Hid, hq.out]; exact be1
 have c0 : w1.cell? ⟨q, 0, none⟩ = some (.int .i64 l.b) := b1.cell rfl
 have C0 := Lib.hid c0
 clear b1 be1 hs1 c0
 generalize hact : Act.put _ (some 2) _ = act
 simp only [Act.put, sA, sC, sZ] at hact
 subst hact
 obtain ⟨z, hz⟩ : ∃ z, Hid (l.b = z) := ⟨_, rfl⟩
 rw [hz.out] at C0
 by_cases hz0 : z < 0
 ·have RZ : decide (z < 0) = true := decide_eq_true hz0
  go_upto_region 1 with (fail)
  refine lbeg (opsOf Try.f94 1) ?_
  refine lnow 0 (.pointer (some ⟨q, 0, none⟩)) (some 4) ?_
  refine lcl 1 (.int .i64 z) (some 5) 3 4 (q) 0 (C0.out) Try.underlying3 ?_
  refine lnow 2 (.bool (decide (z < 0))) (some 6) ?_
  rw [RZ]
  refine lnow 3 (.bool true) (some 7) ?_
  refine lpas 4 (some 8) ?_
  refine lpas 5 (some 9) ?_
  refine lpas 6 (some 10) ?_
  refine lnow 7 (.bool true) (some 11) ?_
  refine ldn 8 ?_
  generalize hact : Act.put _ (some 11) _ = act
  simp only [Act.put, sA, sC, sZ] at hact
  subst hact
  go_wp2
  go_ret
  exact ⟨by rw [rightL_b hz.out (by omega)]; rfl, BE.out⟩
 have RZ : decide (z < 0) = false := decide_eq_false hz0
 by_cases hz1 : z > 100
 ·have RH : decide (z > 100) = true := decide_eq_true hz1
  go_upto_region 1 with (fail)
  refine lbeg (opsOf Try.f94 1) ?_
  refine lnow 0 (.pointer (some ⟨q, 0, none⟩)) (some 4) ?_
  refine lcl 1 (.int .i64 z) (some 5) 3 4 (q) 0 (C0.out) Try.underlying3 ?_
  refine lnow 2 (.bool (decide (z < 0))) (some 6) ?_
  rw [RZ]
  refine lnow 3 (.bool false) (some 7) ?_
  refine lnow 4 (.pointer (some ⟨q, 0, none⟩)) (some 8) ?_
  refine lcl 5 (.int .i64 z) (some 9) 3 8 (q) 0 (C0.out) Try.underlying3 ?_
  refine lnow 6 (.bool (decide (z > 100))) (some 10) ?_
  rw [RH]
  refine lnow 7 (.bool true) (some 11) ?_
  refine ldn 8 ?_
  generalize hact : Act.put _ (some 11) _ = act
  simp only [Act.put, sA, sC, sZ] at hact
  subst hact
  go_wp2
  go_ret
  exact ⟨by rw [rightL_b hz.out (by omega)]; rfl, BE.out⟩
 have RH : decide (z > 100) = false := decide_eq_false hz1
 go_upto_region 1 with (fail)
 refine lbeg (opsOf Try.f94 1) ?_
 refine lnow 0 (.pointer (some ⟨q, 0, none⟩)) (some 4) ?_
 refine lcl 1 (.int .i64 z) (some 5) 3 4 (q) 0 (C0.out) Try.underlying3 ?_
 refine lnow 2 (.bool (decide (z < 0))) (some 6) ?_
 rw [RZ]
 refine lnow 3 (.bool false) (some 7) ?_
 refine lnow 4 (.pointer (some ⟨q, 0, none⟩)) (some 8) ?_
 refine lcl 5 (.int .i64 z) (some 9) 3 8 (q) 0 (C0.out) Try.underlying3 ?_
 refine lnow 6 (.bool (decide (z > 100))) (some 10) ?_
 rw [RH]
 refine lnow 7 (.bool false) (some 11) ?_
 refine ldn 8 ?_
 generalize hact : Act.put _ (some 11) _ = act
 simp only [Act.put, sA, sC, sZ] at hact
 subst hact
 clear RZ RH
 go_upto_region 3 with (fail)
 refine lbeg (opsOf Try.f94 3) ?_
 refine lnow 0 (.int .i64 0) (some 3) ?_
 refine ldn 1 ?_
 generalize hact : Act.put _ (some 3) _ = act
 simp only [Act.put, sA, sC, sZ] at hact
 subst hact
 go_wp2
 go_loopw [3] (fun iv wr => ∃ k : Nat, k ≤ 4 ∧ iv = .int .i64 (k : Int) ∧ Hid (∀ (j : Nat) (x : Int), j < k → l.p[j]? = some x → -1 ≤ x ∧ x ≤ z) ∧ Hid (Blk wr q 80 (ints .i64 l.zs)) ∧ Hid (Below w.heap.size w wr)) (fun iv _ => 4 - (intOf iv).toNat)
 case atStart => exact ⟨0, Nat.zero_le _, rfl, fun j x hj => absurd hj (Nat.not_lt_zero _), B1, BE⟩
 case round =>
  obtain ⟨k, hk, rfl, AL, BR, BE⟩ := hrel
  by_cases hlt : k < 4
  rotate_left
  ·have r1 : ¬ (k : Int) < 4 := by omega
   have FIN : Hid (rightL l = true) := by
    rw [Hid, rightL, hz.out]
    simp only [Bool.and_eq_true, decide_eq_true_eq, List.all_eq_true]
    refine ⟨⟨by omega, by omega⟩, fun x hx => ?_⟩
    obtain ⟨j, hj, rfl⟩ := List.getElem_of_mem hx
    exact AL.out j _ (by have := HL.out; omega) (List.getElem?_eq_getElem hj)
   go_wp2
   go_ret
   exact ⟨by rw [FIN.out]; rfl, BE.out⟩
  have r1 : (k : Int) < 4 := by omega
  obtain ⟨x, hx⟩ : ∃ x, l.p[k]? = some x := ⟨_, List.getElem?_eq_getElem (by have := HL.out; omega)⟩
  have HX := Lib.hid hx
  have hc : wr.drew.cell? ⟨q, 1 + k, none⟩ = some (.int .i64 x) := plus_at BR.out hx
  have hc0 : wr.drew.cell? ⟨q, 0, none⟩ = some (.int .i64 z) := by have h : wr.cell? ⟨q, 0, none⟩ = some (.int .i64 l.b) := BR.out.cell rfl; rw [← hz.out]; exact h
  have BD : Hid (Below w.heap.size w wr.drew) := BE.out.drew
  have BRD : Hid (Blk wr.drew q 80 (ints .i64 l.zs)) := BR.out
  clear hx
  by_cases h1 : x < -1
  ·have Q1 : decide (x < -1) = true := decide_eq_true h1
   go_upto_region 6 with (fail)
   refine region_begin (opsOf Try.f94 6) (fun W' => W' = wr.drew) (by kernel_rfl) (by kernel_rfl) 21 (by kernel_rfl) ?_
   intro Q' hQN hN
   have HSd : wr.drew = wr.drew := rfl
   refine reg_now 0 (.int .i64 (k : Int)) (some 16) hQN HSd (by kernel_rfl) (by kernel_rfl) (fun w => by kernel_rfl) ?_
   refine reg_now 1 (.pointer (some ⟨q, 1, none⟩)) (some 17) hQN HSd (by kernel_rfl) (by kernel_rfl) (fun w => by kernel_rfl) ?_
   refine reg_now 2 (.pointer (some ⟨q, 1 + k, none⟩)) (some 18) hQN HSd (by kernel_rfl) (by kernel_rfl) (fun w' => exec_indexAt 78 (.tmp 17) (.tmp 16) (by kernel_rfl) _ _ _ (by kernel_rfl) (by kernel_rfl) (run_at_arr4 q 1 k hlt w')) ?_
   refine reg_nowIf 3 (.int .i64 x) (some 19) hQN HSd (by kernel_rfl) (by kernel_rfl) (fun w' hw => by subst hw; exact exec_load_cell 3 (.tmp 18) (by kernel_rfl) q (1 + k) (by kernel_rfl) _ hc _ Try.underlying3 rfl) ?_
   refine reg_now 4 (.bool (decide (x < -1))) (some 20) hQN HSd (by kernel_rfl) (by kernel_rfl) (fun w => by kernel_rfl) ?_
   rw [Q1]
   refine reg_now 5 (.bool true) (some 21) hQN HSd (by kernel_rfl) (by kernel_rfl) (fun w => by kernel_rfl) ?_
   refine reg_pass 6 (some 22) hQN HSd (by kernel_rfl) (by kernel_rfl) ?_
   refine reg_pass 7 (some 23) hQN HSd (by kernel_rfl) (by kernel_rfl) ?_
   refine reg_pass 8 (some 24) hQN HSd (by kernel_rfl) (by kernel_rfl) ?_
   refine reg_pass 9 (some 25) hQN HSd (by kernel_rfl) (by kernel_rfl) ?_
   refine reg_pass 10 (some 26) hQN HSd (by kernel_rfl) (by kernel_rfl) ?_
   refine reg_now 11 (.bool true) (some 27) hQN HSd (by kernel_rfl) (by kernel_rfl) (fun w => by kernel_rfl) ?_
   refine reg_now 12 (.bool true) (some 28) hQN HSd (by kernel_rfl) (by kernel_rfl) (fun w => by kernel_rfl) ?_
   refine reg_pass 13 (some 29) hQN HSd (by kernel_rfl) (by kernel_rfl) ?_
   refine reg_pass 14 (some 30) hQN HSd (by kernel_rfl) (by kernel_rfl) ?_
   refine reg_pass 15 (some 31) hQN HSd (by kernel_rfl) (by kernel_rfl) ?_
   refine reg_pass 16 (some 32) hQN HSd (by kernel_rfl) (by kernel_rfl) ?_
   refine reg_pass 17 (some 33) hQN HSd (by kernel_rfl) (by kernel_rfl) ?_
   refine reg_pass 18 (some 34) hQN HSd (by kernel_rfl) (by kernel_rfl) ?_
   refine reg_pass 19 (some 35) hQN HSd (by kernel_rfl) (by kernel_rfl) ?_
   refine reg_now 20 (.bool true) (some 36) hQN HSd (by kernel_rfl) (by kernel_rfl) (fun w => by kernel_rfl) ?_
   refine reg_done (by kernel_rfl) (hN _ _ ?_)
   generalize hact : Act.put _ (some 36) _ = act
   simp only [Act.put, sA, sC, sZ] at hact
   subst hact
   go_wp2
   go_ret
   exact ⟨by rw [rightL_x hz.out HX.out (by omega)]; rfl, BD.out⟩
  have Q1 : decide (x < -1) = false := decide_eq_false h1
  by_cases h2 : x > 100
  ·have Q2 : decide (x > 100) = true := decide_eq_true h2
   go_upto_region 6 with (fail)
   refine region_begin (opsOf Try.f94 6) (fun W' => W' = wr.drew) (by kernel_rfl) (by kernel_rfl) 21 (by kernel_rfl) ?_
   intro Q' hQN hN
   have HSd : wr.drew = wr.drew := rfl
   refine reg_now 0 (.int .i64 (k : Int)) (some 16) hQN HSd (by kernel_rfl) (by kernel_rfl) (fun w => by kernel_rfl) ?_
   refine reg_now 1 (.pointer (some ⟨q, 1, none⟩)) (some 17) hQN HSd (by kernel_rfl) (by kernel_rfl) (fun w => by kernel_rfl) ?_
   refine reg_now 2 (.pointer (some ⟨q, 1 + k, none⟩)) (some 18) hQN HSd (by kernel_rfl) (by kernel_rfl) (fun w' => exec_indexAt 78 (.tmp 17) (.tmp 16) (by kernel_rfl) _ _ _ (by kernel_rfl) (by kernel_rfl) (run_at_arr4 q 1 k hlt w')) ?_
   refine reg_nowIf 3 (.int .i64 x) (some 19) hQN HSd (by kernel_rfl) (by kernel_rfl) (fun w' hw => by subst hw; exact exec_load_cell 3 (.tmp 18) (by kernel_rfl) q (1 + k) (by kernel_rfl) _ hc _ Try.underlying3 rfl) ?_
   refine reg_now 4 (.bool (decide (x < -1))) (some 20) hQN HSd (by kernel_rfl) (by kernel_rfl) (fun w => by kernel_rfl) ?_
   rw [Q1]
   refine reg_now 5 (.bool false) (some 21) hQN HSd (by kernel_rfl) (by kernel_rfl) (fun w => by kernel_rfl) ?_
   refine reg_now 6 (.int .i64 (k : Int)) (some 22) hQN HSd (by kernel_rfl) (by kernel_rfl) (fun w => by kernel_rfl) ?_
   refine reg_now 7 (.pointer (some ⟨q, 1, none⟩)) (some 23) hQN HSd (by kernel_rfl) (by kernel_rfl) (fun w => by kernel_rfl) ?_
   refine reg_now 8 (.pointer (some ⟨q, 1 + k, none⟩)) (some 24) hQN HSd (by kernel_rfl) (by kernel_rfl) (fun w' => exec_indexAt 78 (.tmp 23) (.tmp 22) (by kernel_rfl) _ _ _ (by kernel_rfl) (by kernel_rfl) (run_at_arr4 q 1 k hlt w')) ?_
   refine reg_nowIf 9 (.int .i64 x) (some 25) hQN HSd (by kernel_rfl) (by kernel_rfl) (fun w' hw => by subst hw; exact exec_load_cell 3 (.tmp 24) (by kernel_rfl) q (1 + k) (by kernel_rfl) _ hc _ Try.underlying3 rfl) ?_
   refine reg_now 10 (.bool (decide (x > 100))) (some 26) hQN HSd (by kernel_rfl) (by kernel_rfl) (fun w => by kernel_rfl) ?_
   rw [Q2]
   refine reg_now 11 (.bool true) (some 27) hQN HSd (by kernel_rfl) (by kernel_rfl) (fun w => by kernel_rfl) ?_
   refine reg_now 12 (.bool true) (some 28) hQN HSd (by kernel_rfl) (by kernel_rfl) (fun w => by kernel_rfl) ?_
   refine reg_pass 13 (some 29) hQN HSd (by kernel_rfl) (by kernel_rfl) ?_
   refine reg_pass 14 (some 30) hQN HSd (by kernel_rfl) (by kernel_rfl) ?_
   refine reg_pass 15 (some 31) hQN HSd (by kernel_rfl) (by kernel_rfl) ?_
   refine reg_pass 16 (some 32) hQN HSd (by kernel_rfl) (by kernel_rfl) ?_
   refine reg_pass 17 (some 33) hQN HSd (by kernel_rfl) (by kernel_rfl) ?_
   refine reg_pass 18 (some 34) hQN HSd (by kernel_rfl) (by kernel_rfl) ?_
   refine reg_pass 19 (some 35) hQN HSd (by kernel_rfl) (by kernel_rfl) ?_
   refine reg_now 20 (.bool true) (some 36) hQN HSd (by kernel_rfl) (by kernel_rfl) (fun w => by kernel_rfl) ?_
   refine reg_done (by kernel_rfl) (hN _ _ ?_)
   generalize hact : Act.put _ (some 36) _ = act
   simp only [Act.put, sA, sC, sZ] at hact
   subst hact
   go_wp2
   go_ret
   exact ⟨by rw [rightL_x hz.out HX.out (by omega)]; rfl, BD.out⟩
  have Q2 : decide (x > 100) = false := decide_eq_false h2
  by_cases h3 : x > z
  ·have Q3 : decide (x > z) = true := decide_eq_true h3
   go_upto_region 6 with (fail)
   refine region_begin (opsOf Try.f94 6) (fun W' => W' = wr.drew) (by kernel_rfl) (by kernel_rfl) 21 (by kernel_rfl) ?_
   intro Q' hQN hN
   have HSd : wr.drew = wr.drew := rfl
   refine reg_now 0 (.int .i64 (k : Int)) (some 16) hQN HSd (by kernel_rfl) (by kernel_rfl) (fun w => by kernel_rfl) ?_
   refine reg_now 1 (.pointer (some ⟨q, 1, none⟩)) (some 17) hQN HSd (by kernel_rfl) (by kernel_rfl) (fun w => by kernel_rfl) ?_
   refine reg_now 2 (.pointer (some ⟨q, 1 + k, none⟩)) (some 18) hQN HSd (by kernel_rfl) (by kernel_rfl) (fun w' => exec_indexAt 78 (.tmp 17) (.tmp 16) (by kernel_rfl) _ _ _ (by kernel_rfl) (by kernel_rfl) (run_at_arr4 q 1 k hlt w')) ?_
   refine reg_nowIf 3 (.int .i64 x) (some 19) hQN HSd (by kernel_rfl) (by kernel_rfl) (fun w' hw => by subst hw; exact exec_load_cell 3 (.tmp 18) (by kernel_rfl) q (1 + k) (by kernel_rfl) _ hc _ Try.underlying3 rfl) ?_
   refine reg_now 4 (.bool (decide (x < -1))) (some 20) hQN HSd (by kernel_rfl) (by kernel_rfl) (fun w => by kernel_rfl) ?_
   rw [Q1]
   refine reg_now 5 (.bool false) (some 21) hQN HSd (by kernel_rfl) (by kernel_rfl) (fun w => by kernel_rfl) ?_
   refine reg_now 6 (.int .i64 (k : Int)) (some 22) hQN HSd (by kernel_rfl) (by kernel_rfl) (fun w => by kernel_rfl) ?_
   refine reg_now 7 (.pointer (some ⟨q, 1, none⟩)) (some 23) hQN HSd (by kernel_rfl) (by kernel_rfl) (fun w => by kernel_rfl) ?_
   refine reg_now 8 (.pointer (some ⟨q, 1 + k, none⟩)) (some 24) hQN HSd (by kernel_rfl) (by kernel_rfl) (fun w' => exec_indexAt 78 (.tmp 23) (.tmp 22) (by kernel_rfl) _ _ _ (by kernel_rfl) (by kernel_rfl) (run_at_arr4 q 1 k hlt w')) ?_
   refine reg_nowIf 9 (.int .i64 x) (some 25) hQN HSd (by kernel_rfl) (by kernel_rfl) (fun w' hw => by subst hw; exact exec_load_cell 3 (.tmp 24) (by kernel_rfl) q (1 + k) (by kernel_rfl) _ hc _ Try.underlying3 rfl) ?_
   refine reg_now 10 (.bool (decide (x > 100))) (some 26) hQN HSd (by kernel_rfl) (by kernel_rfl) (fun w => by kernel_rfl) ?_
   rw [Q2]
   refine reg_now 11 (.bool false) (some 27) hQN HSd (by kernel_rfl) (by kernel_rfl) (fun w => by kernel_rfl) ?_
   refine reg_now 12 (.bool false) (some 28) hQN HSd (by kernel_rfl) (by kernel_rfl) (fun w => by kernel_rfl) ?_
   refine reg_now 13 (.int .i64 (k : Int)) (some 29) hQN HSd (by kernel_rfl) (by kernel_rfl) (fun w => by kernel_rfl) ?_
   refine reg_now 14 (.pointer (some ⟨q, 1, none⟩)) (some 30) hQN HSd (by kernel_rfl) (by kernel_rfl) (fun w => by kernel_rfl) ?_
   refine reg_now 15 (.pointer (some ⟨q, 1 + k, none⟩)) (some 31) hQN HSd (by kernel_rfl) (by kernel_rfl) (fun w' => exec_indexAt 78 (.tmp 30) (.tmp 29) (by kernel_rfl) _ _ _ (by kernel_rfl) (by kernel_rfl) (run_at_arr4 q 1 k hlt w')) ?_
   refine reg_nowIf 16 (.int .i64 x) (some 32) hQN HSd (by kernel_rfl) (by kernel_rfl) (fun w' hw => by subst hw; exact exec_load_cell 3 (.tmp 31) (by kernel_rfl) q (1 + k) (by kernel_rfl) _ hc _ Try.underlying3 rfl) ?_
   refine reg_now 17 (.pointer (some ⟨q, 0, none⟩)) (some 33) hQN HSd (by kernel_rfl) (by kernel_rfl) (fun w => by kernel_rfl) ?_
   refine reg_nowIf 18 (.int .i64 z) (some 34) hQN HSd (by kernel_rfl) (by kernel_rfl) (fun w' hw => by subst hw; exact exec_load_cell 3 (.tmp 33) (by kernel_rfl) q 0 (by kernel_rfl) _ hc0 _ Try.underlying3 rfl) ?_
   refine reg_now 19 (.bool (decide (x > z))) (some 35) hQN HSd (by kernel_rfl) (by kernel_rfl) (fun w => by kernel_rfl) ?_
   rw [Q3]
   refine reg_now 20 (.bool true) (some 36) hQN HSd (by kernel_rfl) (by kernel_rfl) (fun w => by kernel_rfl) ?_
   refine reg_done (by kernel_rfl) (hN _ _ ?_)
   generalize hact : Act.put _ (some 36) _ = act
   simp only [Act.put, sA, sC, sZ] at hact
   subst hact
   go_wp2
   go_ret
   exact ⟨by rw [rightL_x hz.out HX.out (by omega)]; rfl, BD.out⟩
  have Q3 : decide (x > z) = false := decide_eq_false h3
  have NX : Hid (∀ (j : Nat) (y : Int), j < k + 1 → l.p[j]? = some y → -1 ≤ y ∧ y ≤ z) := fun j y hj hy => by
   by_cases e : j = k
   ·subst e; rw [HX.out] at hy; cases hy; exact ⟨by omega, by omega⟩
   ·exact AL.out j y (by omega) hy
  go_upto_region 6 with (fail)
  refine region_begin (opsOf Try.f94 6) (fun W' => W' = wr.drew) (by kernel_rfl) (by kernel_rfl) 21 (by kernel_rfl) ?_
  intro Q' hQN hN
  have HSd : wr.drew = wr.drew := rfl
  refine reg_now 0 (.int .i64 (k : Int)) (some 16) hQN HSd (by kernel_rfl) (by kernel_rfl) (fun w => by kernel_rfl) ?_
  refine reg_now 1 (.pointer (some ⟨q, 1, none⟩)) (some 17) hQN HSd (by kernel_rfl) (by kernel_rfl) (fun w => by kernel_rfl) ?_
  refine reg_now 2 (.pointer (some ⟨q, 1 + k, none⟩)) (some 18) hQN HSd (by kernel_rfl) (by kernel_rfl) (fun w' => exec_indexAt 78 (.tmp 17) (.tmp 16) (by kernel_rfl) _ _ _ (by kernel_rfl) (by kernel_rfl) (run_at_arr4 q 1 k hlt w')) ?_
  refine reg_nowIf 3 (.int .i64 x) (some 19) hQN HSd (by kernel_rfl) (by kernel_rfl) (fun w' hw => by subst hw; exact exec_load_cell 3 (.tmp 18) (by kernel_rfl) q (1 + k) (by kernel_rfl) _ hc _ Try.underlying3 rfl) ?_
  refine reg_now 4 (.bool (decide (x < -1))) (some 20) hQN HSd (by kernel_rfl) (by kernel_rfl) (fun w => by kernel_rfl) ?_
  rw [Q1]
  refine reg_now 5 (.bool false) (some 21) hQN HSd (by kernel_rfl) (by kernel_rfl) (fun w => by kernel_rfl) ?_
  refine reg_now 6 (.int .i64 (k : Int)) (some 22) hQN HSd (by kernel_rfl) (by kernel_rfl) (fun w => by kernel_rfl) ?_
  refine reg_now 7 (.pointer (some ⟨q, 1, none⟩)) (some 23) hQN HSd (by kernel_rfl) (by kernel_rfl) (fun w => by kernel_rfl) ?_
  refine reg_now 8 (.pointer (some ⟨q, 1 + k, none⟩)) (some 24) hQN HSd (by kernel_rfl) (by kernel_rfl) (fun w' => exec_indexAt 78 (.tmp 23) (.tmp 22) (by kernel_rfl) _ _ _ (by kernel_rfl) (by kernel_rfl) (run_at_arr4 q 1 k hlt w')) ?_
  refine reg_nowIf 9 (.int .i64 x) (some 25) hQN HSd (by kernel_rfl) (by kernel_rfl) (fun w' hw => by subst hw; exact exec_load_cell 3 (.tmp 24) (by kernel_rfl) q (1 + k) (by kernel_rfl) _ hc _ Try.underlying3 rfl) ?_
  refine reg_now 10 (.bool (decide (x > 100))) (some 26) hQN HSd (by kernel_rfl) (by kernel_rfl) (fun w => by kernel_rfl) ?_
  rw [Q2]
  refine reg_now 11 (.bool false) (some 27) hQN HSd (by kernel_rfl) (by kernel_rfl) (fun w => by kernel_rfl) ?_
  refine reg_now 12 (.bool false) (some 28) hQN HSd (by kernel_rfl) (by kernel_rfl) (fun w => by kernel_rfl) ?_
  refine reg_now 13 (.int .i64 (k : Int)) (some 29) hQN HSd (by kernel_rfl) (by kernel_rfl) (fun w => by kernel_rfl) ?_
  refine reg_now 14 (.pointer (some ⟨q, 1, none⟩)) (some 30) hQN HSd (by kernel_rfl) (by kernel_rfl) (fun w => by kernel_rfl) ?_
  refine reg_now 15 (.pointer (some ⟨q, 1 + k, none⟩)) (some 31) hQN HSd (by kernel_rfl) (by kernel_rfl) (fun w' => exec_indexAt 78 (.tmp 30) (.tmp 29) (by kernel_rfl) _ _ _ (by kernel_rfl) (by kernel_rfl) (run_at_arr4 q 1 k hlt w')) ?_
  refine reg_nowIf 16 (.int .i64 x) (some 32) hQN HSd (by kernel_rfl) (by kernel_rfl) (fun w' hw => by subst hw; exact exec_load_cell 3 (.tmp 31) (by kernel_rfl) q (1 + k) (by kernel_rfl) _ hc _ Try.underlying3 rfl) ?_
  refine reg_now 17 (.pointer (some ⟨q, 0, none⟩)) (some 33) hQN HSd (by kernel_rfl) (by kernel_rfl) (fun w => by kernel_rfl) ?_
  refine reg_nowIf 18 (.int .i64 z) (some 34) hQN HSd (by kernel_rfl) (by kernel_rfl) (fun w' hw => by subst hw; exact exec_load_cell 3 (.tmp 33) (by kernel_rfl) q 0 (by kernel_rfl) _ hc0 _ Try.underlying3 rfl) ?_
  refine reg_now 19 (.bool (decide (x > z))) (some 35) hQN HSd (by kernel_rfl) (by kernel_rfl) (fun w => by kernel_rfl) ?_
  rw [Q3]
  refine reg_now 20 (.bool false) (some 36) hQN HSd (by kernel_rfl) (by kernel_rfl) (fun w => by kernel_rfl) ?_
  refine reg_done (by kernel_rfl) (hN _ _ ?_)
  generalize hact : Act.put _ (some 36) _ = act
  simp only [Act.put, sA, sC, sZ] at hact
  subst hact
  go_wp2
  go_roundw
  case rel => exact ⟨k + 1, by omega, by go_num, NX, BRD, BD⟩
  case measure => simp [intOf]; omega
end Go.Proofs.Yteohjbggicchgaa
