/- The law's alike: terms that differ in their places alone. -/
import Derived.Test.YtdacmogedchnaaaQGenT
import Derived.Test.YtdacmogedchnaaaQPrsQ
import Derived.Test.YtdacmogedchnaaaQPrsM
namespace Go.Proofs.Ytdacmogedchnaaa
open Go Go.RowKit
set_option maxRecDepth 100000
theorem shRs_len (k : Nat) : ∀ a : List Rw, (shRs k a).length = a.length
 | [] => rfl
 | t :: a => by rw [shRs, List.length_cons, List.length_cons, shRs_len k a]
theorem shRs_get (k : Nat) : ∀ (a : List Rw) (i : Nat), (shRs k a)[i]? = (a[i]?).map (shR k)
 | [], i => by rw [shRs]; simp
 | t :: a, 0 => by rw [shRs]; rfl
 | t :: a, i + 1 => by rw [shRs, List.getElem?_cons_succ, List.getElem?_cons_succ, shRs_get k a i]
mutual
theorem shR_zero : ∀ t : Rw, shR 0 t = t
 | .mk d n p s l a => by
  rw [shR, shRs_zero a]
  cases p <;> rfl
theorem shRs_zero : ∀ a : List Rw, shRs 0 a = a
 | [] => by rw [shRs]
 | t :: a => by rw [shRs, shR_zero t, shRs_zero a]
end
set_option maxHeartbeats 8000000 in
theorem alike_walk (K1 K2 : Nat → Nat) (k : Nat) : ∀ (t : Rw) (F1 F2 : List Nat) (cs1 cs2 : List Value) (w : World), RwAt K1 F1 w t cs1 → RwAt K2 F2 w (shR k t) cs2 → nodesR t ≤ 1000000000 → Calls Try.prog 10 #[.agg cs1.toArray, .agg cs2.toArray] w fun e w' => e = .returned (.bool true) ∧ Below w.heap.size w w' := by
 refine Rw.byParts fun d n p s l a ih F1 F2 cs1 cs2 w h1 h2 hn => ?_
 obtain ⟨B, hB⟩ : ∃ B, Hid (w.heap.size = B) := ⟨_, rfl⟩
 rw [hB.out]
 rw [shR] at h2
 rw [RwAt] at h1 h2
 obtain ⟨lv, av, rfl, hlv, hav⟩ := h1
 obtain ⟨lv2, av2, rfl, hlv2, hav2⟩ := h2
 obtain ⟨la, lc, rfl⟩ := hlv.slice
 obtain ⟨la2, lc2, rfl⟩ := hlv2.slice
 obtain ⟨aa, ac, rfl⟩ := hav.slice
 obtain ⟨aa2, ac2, haa2⟩ := hav2.slice
 rw [shRs_len] at haa2
 subst haa2
 obtain ⟨N, hN⟩ : ∃ N, Hid (a.length = N) := ⟨_, rfl⟩
 rw [hN.out] at hav hav2 ⊢
 have LenB : Hid (N ≤ 1000000000) := by have := nodesRs_len a; have := hN.out; rw [nodesR] at hn; rw [Hid]; omega
 replace ih : ∀ x ∈ a, ∀ (F1 F2 : List Nat) (cs1 cs2 : List Value) (w : World), RwAt K1 F1 w x cs1 → RwAt K2 F2 w (shR k x) cs2 → Calls Try.prog 10 #[.agg cs1.toArray, .agg cs2.toArray] w fun e w' => e = .returned (.bool true) ∧ Below w.heap.size w w' := fun x hx F1 F2 cs1 cs2 w h1 h2 => ih x hx F1 F2 cs1 cs2 w h1 h2 (by have := nodesRs_mem hx; rw [nodesR] at hn; omega)
 have HA := Lib.hid hav
 have HA2 := Lib.hid hav2
 obtain ⟨x1, hx1⟩ : ∃ y, Hid ((atK K1 p : Int) = y) := ⟨_, rfl⟩
 obtain ⟨x2, hx2⟩ : ∃ y, Hid ((atK K2 (p.map (· + k)) : Int) = y) := ⟨_, rfl⟩
 rw [hx1.out, hx2.out]
 clear hlv hav hlv2 hav2 hx1 hx2
 go_enter Try.func10, Try.ntmps10
 go_upto_region 0 with (fail)
 refine lbeg (opsOf Try.f10 0) ?_
 refine lbox 0 33 (.tmp 0) ([.int .i64 (d : Int), .int .i64 (n : Int), .int .i64 x1, sT s, .slice la l lc, .slice aa N ac]) (B) (some 2) hB ?_
 intro w1 b1 e1 s1
 refine lbox 1 33 (.tmp 1) ([.int .i64 (d : Int), .int .i64 (n : Int), .int .i64 x2, sT s, .slice la2 l lc2, .slice aa2 N ac2]) (B + 1) (some 3) s1 ?_
 intro w2 b2 e2 s2
 refine lnow 2 (.bool false) (some 4) ?_
 refine ldn 3 ?_
 generalize hact : Act.put _ (some 4) _ = act
 simp only [Act.put, sA, sC, sZ] at hact
 subst hact
 have BE : Hid (Below B w w2) := e1.trans (e2.mono (by omega))
 have B1 := Lib.hid (b1.below e2 (by omega))
 have B2 := Lib.hid b2
 replace HA := Lib.hid (HA.out.below (by rw [hB.out]; exact BE.out))
 replace HA2 := Lib.hid (HA2.out.below (by rw [hB.out]; exact BE.out))
 have SZ : Hid (B + 1 < w2.heap.size) := b2.lt
 clear b1 e1 s1 b2 e2 s2
 go_upto_region 1 with (fail)
 refine lbeg (opsOf Try.f10 1) ?_
 refine lnow 0 (.pointer (some ⟨B, 0, none⟩)) (some 6) ?_
 refine lcl 1 (.int .i64 (d : Int)) (some 7) 3 6 (B) (0) (B1.out.cell rfl) Try.underlying3 ?_
 refine lnow 2 (.pointer (some ⟨B + 1, 0, none⟩)) (some 8) ?_
 refine lcl 3 (.int .i64 (d : Int)) (some 9) 3 8 (B + 1) (0) (B2.out.cell rfl) Try.underlying3 ?_
 refine lnow 4 (.bool (!decide ((d : Int) = (d : Int)))) (some 10) ?_
 rw [decide_eq_true (rfl)]
 rw [show (!true) = false from rfl]
 refine lnow 5 (.bool false) (some 11) ?_
 refine lnow 6 (.pointer (some ⟨B, 1, none⟩)) (some 12) ?_
 refine lcl 7 (.int .i64 (n : Int)) (some 13) 3 12 (B) (1) (B1.out.cell rfl) Try.underlying3 ?_
 refine lnow 8 (.pointer (some ⟨B + 1, 1, none⟩)) (some 14) ?_
 refine lcl 9 (.int .i64 (n : Int)) (some 15) 3 14 (B + 1) (1) (B2.out.cell rfl) Try.underlying3 ?_
 refine lnow 10 (.bool (!decide ((n : Int) = (n : Int)))) (some 16) ?_
 rw [decide_eq_true (rfl)]
 rw [show (!true) = false from rfl]
 refine lnow 11 (.bool false) (some 17) ?_
 refine lnow 12 (.bool false) (some 18) ?_
 refine lnow 13 (.pointer (some ⟨B, 3, none⟩)) (some 19) ?_
 refine lcl 14 (sT s) (some 20) 9 19 (B) (3) (B1.out.cell rfl) Try.underlying9 ?_
 refine lnow 15 (.pointer (some ⟨B + 1, 3, none⟩)) (some 21) ?_
 refine lcl 16 (sT s) (some 22) 9 21 (B + 1) (3) (B2.out.cell rfl) Try.underlying9 ?_
 refine lnowP 17 (.bool (!decide (s = s))) (some 23) (exec_sNe 9 9 (.tmp 20) (.tmp 22) (by kernel_rfl) s s (by kernel_rfl) (by kernel_rfl) (fun _ => rfl)) ?_
 rw [decide_eq_true rfl]
 rw [show (!true) = false from rfl]
 refine lnow 18 (.bool false) (some 24) ?_
 refine lnow 19 (.bool false) (some 25) ?_
 refine lnow 20 (.pointer (some ⟨B, 4, none⟩)) (some 26) ?_
 refine lcl 21 (.slice la l lc) (some 27) 30 26 (B) (4) (B1.out.cell rfl) Try.underlying30 ?_
 refine lnow 22 (.int .i64 (l : Int)) (some 28) ?_
 refine lnow 23 (.pointer (some ⟨B + 1, 4, none⟩)) (some 29) ?_
 refine lcl 24 (.slice la2 l lc2) (some 30) 30 29 (B + 1) (4) (B2.out.cell rfl) Try.underlying30 ?_
 refine lnow 25 (.int .i64 (l : Int)) (some 31) ?_
 refine lnow 26 (.bool (!decide ((l : Int) = (l : Int)))) (some 32) ?_
 rw [decide_eq_true (rfl)]
 rw [show (!true) = false from rfl]
 refine lnow 27 (.bool false) (some 33) ?_
 refine lnow 28 (.bool false) (some 34) ?_
 refine lnow 29 (.pointer (some ⟨B, 5, none⟩)) (some 35) ?_
 refine lcl 30 (.slice aa N ac) (some 36) 31 35 (B) (5) (B1.out.cell rfl) Try.underlying31 ?_
 refine lnow 31 (.int .i64 (N : Int)) (some 37) ?_
 refine lnow 32 (.pointer (some ⟨B + 1, 5, none⟩)) (some 38) ?_
 refine lcl 33 (.slice aa2 N ac2) (some 39) 31 38 (B + 1) (5) (B2.out.cell rfl) Try.underlying31 ?_
 refine lnow 34 (.int .i64 (N : Int)) (some 40) ?_
 refine lnow 35 (.bool (!decide ((N : Int) = (N : Int)))) (some 41) ?_
 rw [decide_eq_true (rfl)]
 rw [show (!true) = false from rfl]
 refine lnow 36 (.bool false) (some 42) ?_
 refine ldn 37 ?_
 generalize hact : Act.put _ (some 42) _ = act
 simp only [Act.put, sA, sC, sZ] at hact
 subst hact
 go_upto_region 3 with (fail)
 refine lbeg (opsOf Try.f10 3) ?_
 refine lnow 0 (.int .i64 0) (some 5) ?_
 refine ldn 1 ?_
 generalize hact : Act.put _ (some 5) _ = act
 simp only [Act.put, sA, sC, sZ] at hact
 subst hact
 go_wp2
 go_loopw [5] (fun iv wr => ∃ i : Nat, i ≤ N ∧ iv = .int .i64 (i : Int) ∧ Hid (Below w2.heap.size w2 wr)) (fun iv _ => N - (intOf iv).toNat)
 case atStart => exact ⟨0, Nat.zero_le _, rfl, Below.refl _ _⟩
 case round =>
  obtain ⟨i, hi, rfl, BR⟩ := hrel
  have K15 : Hid (wr.cell? ⟨B, 5, none⟩ = some (.slice aa N ac)) := (B1.out.below BR.out B1.out.lt).cell rfl
  have K25 : Hid (wr.cell? ⟨B + 1, 5, none⟩ = some (.slice aa2 N ac2)) := (B2.out.below BR.out B2.out.lt).cell rfl
  by_cases hlt : i < N
  rotate_left
  ·skip
   go_upto_region 4 with (fail)
   refine lbeg (opsOf Try.f10 4) ?_
   refine lnow 0 (.int .i64 (i : Int)) (some 43) ?_
   refine lnow 1 (.pointer (some ⟨B, 5, none⟩)) (some 44) ?_
   refine lcl 2 (.slice aa N ac) (some 45) 31 44 B 5 K15.out Try.underlying31 ?_
   refine lnow 3 (.int .i64 (N : Int)) (some 46) ?_
   refine lnow 4 (.bool (decide ((i : Int) < (N : Int)))) (some 47) ?_
   rw [decide_eq_false (by omega : ¬ (i : Int) < (N : Int))]
   refine ldn 5 ?_
   generalize hact : Act.put _ (some 47) _ = act
   simp only [Act.put, sA, sC, sZ] at hact
   subst hact
   go_upto_region 8 with (fail)
   refine lbeg (opsOf Try.f10 8) ?_
   refine lnow 0 (.bool true) (some 4) ?_
   refine ldn 1 ?_
   generalize hact : Act.put _ (some 4) _ = act
   simp only [Act.put, sA, sC, sZ] at hact
   subst hact
   have FIN : Hid (Below B w wr) := BE.out.trans (BR.out.mono (by have := SZ.out; omega))
   go_wp2
   go_ret
   exact ⟨rfl, FIN.out⟩
  go_upto_region 4 with (fail)
  refine lbeg (opsOf Try.f10 4) ?_
  refine lnow 0 (.int .i64 (i : Int)) (some 43) ?_
  refine lnow 1 (.pointer (some ⟨B, 5, none⟩)) (some 44) ?_
  refine lcl 2 (.slice aa N ac) (some 45) 31 44 B 5 K15.out Try.underlying31 ?_
  refine lnow 3 (.int .i64 (N : Int)) (some 46) ?_
  refine lnow 4 (.bool (decide ((i : Int) < (N : Int)))) (some 47) ?_
  rw [decide_eq_true (by omega : (i : Int) < (N : Int))]
  refine ldn 5 ?_
  generalize hact : Act.put _ (some 47) _ = act
  simp only [Act.put, sA, sC, sZ] at hact
  subst hact
  obtain ⟨x, pb, po, cx, hx, hmem, haa, -, hpl, -, hrg, hxt⟩ := (HA.out.below BR.out).get hN.out hlt
  subst haa
  obtain ⟨y, qb, qo, cy, hy, -, haa2, -, hql, -, hrg2, hyt⟩ := (HA2.out.below BR.out).get (n := N) (by rw [shRs_len, hN.out]) hlt
  subst haa2
  rw [shRs_get, hx, Option.map_some] at hy
  obtain rfl : shR k x = y := Option.some.inj hy
  have IH := ih x hmem F1 F2 cx cy
  have RG := Lib.hid hrg
  have RG2 := Lib.hid hrg2
  have X6 := Lib.hid hxt.len
  have Y6 := Lib.hid hyt.len
  have PL : Hid (pb < wr.heap.size ∧ qb < wr.heap.size) := ⟨hpl, hql⟩
  have HX := Lib.hid (hxt.below (Below.drew (Below.refl _ _)))
  have HY := Lib.hid (hyt.below (Below.drew (Below.refl _ _)))
  have SB : Hid (B + 1 < wr.heap.size) := Nat.lt_of_lt_of_le SZ.out BR.out.size
  clear hrg hrg2 hxt hyt hx hy hpl hql
  go_upto_region 6 with (fail)
  refine region_begin (opsOf Try.f10 6) (fun w' => Below wr.heap.size wr w') (by kernel_rfl) (by kernel_rfl) 12 (by kernel_rfl) ?_
  intro Q' hQN hN
  have HS : Below wr.heap.size wr (World.drew wr) := (Below.refl _ _).drew
  refine reg_now 0 (.pointer (some ⟨B, 5, none⟩)) (some 50) hQN HS (by kernel_rfl) (by kernel_rfl) (fun w => by kernel_rfl) ?_
  refine reg_now 2 (.int .i64 (i : Int)) (some 52) hQN HS (by kernel_rfl) (by kernel_rfl) (fun w => by kernel_rfl) ?_
  refine reg_now 5 (.pointer (some ⟨B + 1, 5, none⟩)) (some 55) hQN HS (by kernel_rfl) (by kernel_rfl) (fun w => by kernel_rfl) ?_
  refine reg_now 7 (.int .i64 (i : Int)) (some 57) hQN HS (by kernel_rfl) (by kernel_rfl) (fun w => by kernel_rfl) ?_
  refine reg_nowIf 1 (.slice (some ⟨pb, po, none⟩) N ac) (some 51) hQN HS (by kernel_rfl) (by kernel_rfl) (fun w' hw => exec_load_cell 31 (.tmp 50) (by kernel_rfl) (B) 5 (by kernel_rfl) _ ((hw.cell (p := ⟨B, 5, none⟩) (show B < wr.heap.size by have := SB.out; omega)).trans K15.out) _ Try.underlying31 rfl) ?_
  refine reg_nowIf 6 (.slice (some ⟨qb, qo, none⟩) N ac2) (some 56) hQN HS (by kernel_rfl) (by kernel_rfl) (fun w' hw => exec_load_cell 31 (.tmp 55) (by kernel_rfl) (B + 1) 5 (by kernel_rfl) _ ((hw.cell (p := ⟨B + 1, 5, none⟩) (show B + 1 < wr.heap.size by have := SB.out; omega)).trans K25.out) _ Try.underlying31 rfl) ?_
  refine reg_now 3 (.pointer (some ⟨pb, po + 6 * i, none⟩)) (some 53) hQN HS (by kernel_rfl) (by kernel_rfl) (fun w' => exec_indexAt 31 (.tmp 51) (.tmp 52) (by kernel_rfl) _ _ _ (by kernel_rfl) (by kernel_rfl) (run_at_raw pb po N ac i hlt w')) ?_
  refine reg_now 8 (.pointer (some ⟨qb, qo + 6 * i, none⟩)) (some 58) hQN HS (by kernel_rfl) (by kernel_rfl) (fun w' => exec_indexAt 31 (.tmp 56) (.tmp 57) (by kernel_rfl) _ _ _ (by kernel_rfl) (by kernel_rfl) (run_at_raw qb qo N ac2 i hlt w')) ?_
  refine reg_nowIf 4 (.agg cx.toArray) (some 54) hQN HS (by kernel_rfl) (by kernel_rfl) (fun w' hw => exec_load_mid 33 (.tmp 53) (by kernel_rfl) pb (po + 6 * i) (by kernel_rfl) cx _ (rng_low RG.out hw PL.out.1) Try.underlying33 rfl (rwSize X6.out)) ?_
  refine reg_nowIf 9 (.agg cy.toArray) (some 59) hQN HS (by kernel_rfl) (by kernel_rfl) (fun w' hw => exec_load_mid 33 (.tmp 58) (by kernel_rfl) qb (qo + 6 * i) (by kernel_rfl) cy _ (rng_low RG2.out hw PL.out.2) Try.underlying33 rfl (rwSize Y6.out)) ?_
  refine reg_call 10 10 #[.agg cx.toArray, .agg cy.toArray] (some 60) _ (by kernel_rfl) (by kernel_rfl) (by kernel_rfl) (IH (World.drew wr) HX.out HY.out) ?_
  rintro e w5 ⟨rfl, hb5⟩
  have HS5 : Below wr.heap.size wr w5 := HS.trans (hb5.mono (Nat.le_refl _))
  refine ⟨_, rfl, HS5, ?_⟩
  have BR5 : Hid (Below w2.heap.size w2 w5) := BR.out.trans (HS5.mono BR.out.size)
  refine reg_now 11 (.bool false) (some 61) hQN HS5 (by kernel_rfl) (by kernel_rfl) (fun w => by kernel_rfl) ?_
  refine reg_done (by kernel_rfl) (hN _ _ ?_)
  generalize hact : Act.put _ (some 61) _ = act
  simp only [Act.put, sA, sC, sZ] at hact
  subst hact
  clear hQN hN HS HS5 hb5 RG RG2 HX HY IH
  go_upto_region 5 with (fail)
  refine lbeg (opsOf Try.f10 5) ?_
  refine lnow 0 (.int .i64 (i : Int)) (some 48) ?_
  refine lnow 1 (.int .i64 (IntKind.i64.wrap ((i : Int) + 1))) (some 49) ?_
  have NL := LenB.out
  rw [show IntKind.i64.wrap ((i : Int) + 1) = ((i + 1 : Nat) : Int) from (IntWalk.i64_in _ (by omega)).trans (by omega)]
  refine lnow 2 (.int .i64 ((i + 1 : Nat) : Int)) (some 5) ?_
  refine ldn 3 ?_
  generalize hact : Act.put _ (some 5) _ = act
  simp only [Act.put, sA, sC, sZ] at hact
  subst hact
  go_wp2
  go_roundw
  case rel => exact ⟨i + 1, by omega, rfl, BR5⟩
  case measure => simp [intOf]; omega
end Go.Proofs.Ytdacmogedchnaaa
