/- DeclNodes and law 10's Great. -/
import Derived.Test.YtmceocgddaaohaaGreatDoorQGenT
import Derived.Test.YtmceocgddaaohaaGreatDoorQCodSa
namespace Go.Proofs.YtmceocgddaaohaaGreatDoor
open Go Go.RowKit
set_option maxRecDepth 100000
/-- No term of a declaration has more than 8000 nodes. -/
structure NodD (d : Dc) : Prop where
 ty : nodesT d.ty ≤ 8000
 val : nodesT d.val ≤ 8000
 ctors : ∀ c ∈ d.ctors, nodesT c.2 ≤ 8000
theorem NodD.big {d : Dc} (h : NodD d) : BigD d := ⟨Nat.le_trans h.ty (by decide), Nat.le_trans h.val (by decide), fun c hc => Nat.le_trans (h.ctors c hc) (by decide)⟩
theorem take_next_all {α : Type} {p : α → Prop} {l : List α} {i : Nat} {x : α} (h : ∀ y ∈ l.take i, p y) (hx : l[i]? = some x) (hp : p x) : ∀ y ∈ l.take (i + 1), p y := fun y hy => by
 rw [List.take_add_one, hx] at hy
 rcases List.mem_append.1 hy with hy | hy
 ·exact h y hy
 ·obtain rfl : y = x := by simpa using hy
  exact hp
theorem nat_wrap {a : Int} {n : Nat} (h : a = (n : Int)) (hn : n ≤ 1000000000000000) : IntKind.i64.wrap a = (n : Int) := by
 subst h
 exact IntWalk.i64_in _ (by omega)
set_option maxHeartbeats 8000000 in
theorem declnodes_walk {F : List Nat} (d : Dc) (cs : List Value) (w : World) (hd : DcAt F w d cs) (hs : SmD d) : Calls Tryz.prog 32 #[.agg cs.toArray, .int .i64 8000] w fun e w' => ∃ r : Nat, e = .returned (.int .i64 (r : Int)) ∧ r ≤ 8001 ∧ (r ≤ 8000 → NodD d) ∧ Below w.heap.size w w' := by
 obtain ⟨tc, vc, cv, hform, hty, hval, hcts⟩ := id hd
 obtain ⟨ca, cc, rfl⟩ := hcts.slice
 have FM := Lib.hid hform
 have TY := Lib.hid hty
 have VA := Lib.hid hval
 have CT := Lib.hid hcts
 have SM := Lib.hid hs
 have hr : reachBytes = 140737488351232 := rfl
 have C15 := Lib.hid hd.len
 have ONE := Lib.hid hd.one
 obtain ⟨q, hq⟩ : ∃ q, Hid (w.heap.size = q) := ⟨_, rfl⟩
 obtain ⟨N, hN⟩ : ∃ N, Hid (d.ctors.length = N) := ⟨_, rfl⟩
 obtain ⟨NL, hNL⟩ : ∃ N, Hid (d.name.length = N) := ⟨_, rfl⟩
 have NLB : Hid (NL ≤ 140737488351232) := by have := SM.out.name; rw [Hid, ← hNL.out]; omega
 have NB : Hid (N ≤ 140737488351232) := by have := SM.out.num; rw [Hid, ← hN.out]; omega
 rw [hN.out] at FM CT
 clear hd hform hty hval hcts hs
 go_enter Tryz.func32, Tryz.ntmps32
 go_upto_region 0 with (fail)
 refine lbeg (opsOf Tryz.f32 0) ?_
 refine lbox 0 46 (.tmp 0) cs q (some 2) hq ?_
 intro w1 b1 be1 hs1
 refine lnow 1 (.int .i64 0) (some 4) ?_
 refine ldn 2 ?_
 generalize hact : Act.put _ (some 4) _ = act
 simp only [Act.put, sA, sC, sZ] at hact
 subst hact
 have BQ := Lib.hid b1
 have BE : Hid (Below q w w1) := be1
 have S1 : Hid (w1.heap.size = q + 1) := hs1
 have TY := Lib.hid (TY.out.below (by rw [hq.out]; exact BE.out))
 have VA := Lib.hid (VA.out.below (by rw [hq.out]; exact BE.out))
 have CT := Lib.hid (CT.out.below (by rw [hq.out]; exact BE.out))
 clear b1 be1 hs1
 go_upto_region 1 with (fail)
 refine region_begin (opsOf Tryz.f32 1) (fun W' => Below w1.heap.size w1 W') (by kernel_rfl) (by kernel_rfl) 14 (by kernel_rfl) ?_
 intro Q' hQN hN
 have HS : Below w1.heap.size w1 w1.drew := (Below.refl _ _).drew
 generalize w1.drew = W0 at HS ⊢
 refine reg_now 0 (.pointer (some ⟨q, 3, none⟩)) (some 7) hQN HS (by kernel_rfl) (by kernel_rfl) (fun w => by kernel_rfl) ?_
 refine reg_nowIf 1 (.agg tc.toArray) (some 8) hQN HS (by kernel_rfl) (by kernel_rfl) (fun w' hw => exec_load_mid 25 (.tmp 7) (by kernel_rfl) q 3 (by kernel_rfl) tc _ (FM.out.tr (BQ.out.below hw BQ.out.lt)) Tryz.underlying25 rfl (t5Size FM.out.t5)) ?_
 refine reg_now 2 (.int .i64 8000) (some 9) hQN HS (by kernel_rfl) (by kernel_rfl) (fun w => by kernel_rfl) ?_
 refine reg_now 4 (.pointer (some ⟨q, 8, none⟩)) (some 11) hQN HS (by kernel_rfl) (by kernel_rfl) (fun w => by kernel_rfl) ?_
 refine reg_nowIf 5 (.agg vc.toArray) (some 12) hQN HS (by kernel_rfl) (by kernel_rfl) (fun w' hw => exec_load_mid 25 (.tmp 11) (by kernel_rfl) q 8 (by kernel_rfl) vc _ (FM.out.vr (BQ.out.below hw BQ.out.lt)) Tryz.underlying25 rfl (t5Size FM.out.v5)) ?_
 refine reg_now 6 (.int .i64 8000) (some 13) hQN HS (by kernel_rfl) (by kernel_rfl) (fun w => by kernel_rfl) ?_
 refine reg_now 9 (.pointer (some ⟨q, 2, none⟩)) (some 16) hQN HS (by kernel_rfl) (by kernel_rfl) (fun w => by kernel_rfl) ?_
 refine reg_nowIf 10 (strT d.name) (some 17) hQN HS (by kernel_rfl) (by kernel_rfl) (fun w' hw => exec_load_cell 9 (.tmp 16) (by kernel_rfl) q 2 (by kernel_rfl) _ (FM.out.n (BQ.out.below hw BQ.out.lt)) _ Tryz.underlying9 rfl) ?_
 refine reg_now 11 (.int .i64 (d.name.length : Int)) (some 18) hQN HS (by kernel_rfl) (by kernel_rfl) (fun w => by kernel_rfl) ?_
 rw [hNL.out]
 refine reg_call 3 13 #[.agg tc.toArray, .int .i64 8000] (some 10) _ (by kernel_rfl) (by kernel_rfl) (by kernel_rfl) (tnodes_walk d.ty tc W0 8000 _ (TY.out.below HS) SM.out.ty (by decide)) ?_
 rintro e W1 ⟨rfl, hb⟩
 have HS2 : Below w1.heap.size w1 W1 := HS.trans (hb.mono HS.size)
 refine ⟨_, rfl, HS2, ?_⟩
 have HS := HS2
 clear hb HS2
 obtain ⟨a, ha⟩ : ∃ a, Hid (min (nodesT d.ty) (8000 + 1) = a) := ⟨_, rfl⟩
 rw [ha.out]
 refine reg_call 7 13 #[.agg vc.toArray, .int .i64 8000] (some 14) _ (by kernel_rfl) (by kernel_rfl) (by kernel_rfl) (tnodes_walk d.val vc W1 8000 _ (VA.out.below HS) SM.out.val (by decide)) ?_
 rintro e W2 ⟨rfl, hb⟩
 have HS2 : Below w1.heap.size w1 W2 := HS.trans (hb.mono HS.size)
 refine ⟨_, rfl, HS2, ?_⟩
 have HS := HS2
 clear hb HS2
 obtain ⟨b, hb⟩ : ∃ b, Hid (min (nodesT d.val) (8000 + 1) = b) := ⟨_, rfl⟩
 rw [hb.out]
 have A8 : a ≤ 8001 := by have := ha.out; omega
 have B8 : b ≤ 8001 := by have := hb.out; omega
 have nl := NLB.out
 refine reg_now 8 (.int .i64 (IntKind.i64.wrap ((a : Int) + (b : Int)))) (some 15) hQN HS (by kernel_rfl) (by kernel_rfl) (fun w => by kernel_rfl) ?_
 rw [nat_wrap (n := a + b) (by omega) (by omega)]
 refine reg_now 12 (.int .i64 (IntKind.i64.wrap (((a + b : Nat) : Int) + (NL : Int)))) (some 19) hQN HS (by kernel_rfl) (by kernel_rfl) (fun w => by kernel_rfl) ?_
 rw [nat_wrap (n := a + b + NL) (by omega) (by omega)]
 refine reg_now 13 (.int .i64 ((a + b + NL : Nat) : Int)) (some 5) hQN HS (by kernel_rfl) (by kernel_rfl) (fun w => by kernel_rfl) ?_
 have BQ := Lib.hid (BQ.out.below HS BQ.out.lt)
 have CT := Lib.hid (CT.out.below HS)
 have BE : Hid (Below q w W2) := BE.out.trans (HS.mono (by have := S1.out; omega))
 have SZ : Hid (q + 1 ≤ W2.heap.size) := by have := HS.size; have := S1.out; rw [Hid]; omega
 have V0 : Hid (a + b + NL ≤ 200000000000000) := by rw [Hid]; omega
 have K0 : Hid (a + b + NL ≤ 8000 → nodesT d.ty ≤ 8000 ∧ nodesT d.val ≤ 8000) := fun h => by have := ha.out; have := hb.out; omega
 obtain ⟨v0, hv0⟩ : ∃ v, a + b + NL = v := ⟨_, rfl⟩
 rw [hv0] at V0 K0 ⊢
 clear hv0 A8 B8 nl
 refine reg_done (by kernel_rfl) (hN _ _ ?_)
 generalize hact : Act.put _ (some 5) _ = act
 simp only [Act.put, sA, sC, sZ] at hact
 subst hact
 clear HS hQN hN TY VA ha hb S1
 go_upto_region 2 with (fail)
 refine lbeg (opsOf Tryz.f32 2) ?_
 refine lnow 0 (.int .i64 0) (some 6) ?_
 refine ldn 1 ?_
 generalize hact : Act.put _ (some 6) _ = act
 simp only [Act.put, sA, sC, sZ] at hact
 subst hact
 go_wp2
 go_loopw [5, 6] (fun vv iv wr => ∃ i v : Nat, i ≤ N ∧ iv = .int .i64 (i : Int) ∧ vv = .int .i64 (v : Int) ∧ Hid (v ≤ 200000000000000 + 200000000000000 * i) ∧ Hid (v ≤ 8000 → nodesT d.ty ≤ 8000 ∧ nodesT d.val ≤ 8000) ∧ Hid (v ≤ 8000 → ∀ c ∈ d.ctors.take i, nodesT c.2 ≤ 8000) ∧ Hid (Blk wr q 46 cs) ∧ Hid (CtsAt F wr d.ctors (.slice ca N cc)) ∧ Hid (Below q w wr) ∧ Hid (q + 1 ≤ wr.heap.size)) (fun _ iv _ => N - (intOf iv).toNat)
 case atStart => exact ⟨0, v0, Nat.zero_le _, rfl, rfl, by have := V0.out; rw [Hid]; omega, K0, fun _ c hc => by simp at hc, BQ, CT, BE, SZ⟩
 case round =>
  clear V0 K0 BQ CT BE SZ
  obtain ⟨i, v, hi, rfl, rfl, VB, K0, KI, BQ, CT, BE, SZ⟩ := hrel
  by_cases hlt : i < N ∧ v ≤ 8000
  rotate_left
  ·skip
   by_cases hl2 : i < N
   ·skip
    have KF : min v 8001 ≤ 8000 → NodD d := fun h => by omega
    go_upto_region 3 with (fail)
    refine lbeg (opsOf Tryz.f32 3) ?_
    refine lnow 0 (.int .i64 (i : Int)) (some 20) ?_
    refine lnow 1 (.pointer (some ⟨q, 14, none⟩)) (some 21) ?_
    refine lcl 2 (.slice ca N cc) (some 22) 44 21 (q) 14 (FM.out.c BQ.out) Tryz.underlying44 ?_
    refine lnow 3 (.int .i64 (N : Int)) (some 23) ?_
    refine lnow 4 (.bool (decide ((i : Int) < (N : Int)))) (some 24) ?_
    rw [decide_eq_true (show (i : Int) < (N : Int) by omega)]
    refine lnow 5 (.bool true) (some 25) ?_
    refine lnow 6 (.int .i64 (v : Int)) (some 26) ?_
    refine lnow 7 (.int .i64 8000) (some 27) ?_
    refine lnow 8 (.bool (decide ((v : Int) ≤ 8000))) (some 28) ?_
    rw [decide_eq_false (show ¬ (v : Int) ≤ 8000 by omega)]
    refine lnow 9 (.bool false) (some 29) ?_
    refine ldn 10 ?_
    generalize hact : Act.put _ (some 29) _ = act
    simp only [Act.put, sA, sC, sZ] at hact
    subst hact
    go_upto_region 6 with (fail)
    refine lbeg (opsOf Tryz.f32 6) ?_
    refine lnow 0 (.int .i64 (v : Int)) (some 51) ?_
    refine lnow 1 (.int .i64 8000) (some 52) ?_
    refine lnow 2 (.int .i64 8001) (some 53) ?_
    refine lnowP 3 (.int .i64 (min (v : Int) 8001)) (some 54) (exec_min #[3, 3] 3 (v : Int) 8001 (by kernel_rfl)) ?_
    rw [show (min (v : Int) 8001) = ((min v 8001 : Nat) : Int) by omega]
    refine lnow 4 (.int .i64 ((min v 8001 : Nat) : Int)) (some 4) ?_
    refine ldn 5 ?_
    generalize hact : Act.put _ (some 4) _ = act
    simp only [Act.put, sA, sC, sZ] at hact
    subst hact
    go_wp2
    go_ret
    exact ⟨min v 8001, rfl, by omega, KF, by rw [hq.out]; exact BE.out⟩
   have KF : min v 8001 ≤ 8000 → NodD d := fun h => ⟨(K0.out (by omega)).1, (K0.out (by omega)).2, fun c hc => KI.out (by omega) c (by rw [List.take_of_length_le (by have := hN.out; omega)]; exact hc)⟩
   go_upto_region 3 with (fail)
   refine lbeg (opsOf Tryz.f32 3) ?_
   refine lnow 0 (.int .i64 (i : Int)) (some 20) ?_
   refine lnow 1 (.pointer (some ⟨q, 14, none⟩)) (some 21) ?_
   refine lcl 2 (.slice ca N cc) (some 22) 44 21 (q) 14 (FM.out.c BQ.out) Tryz.underlying44 ?_
   refine lnow 3 (.int .i64 (N : Int)) (some 23) ?_
   refine lnow 4 (.bool (decide ((i : Int) < (N : Int)))) (some 24) ?_
   rw [decide_eq_false (show ¬ (i : Int) < (N : Int) by omega)]
   refine lnow 5 (.bool false) (some 25) ?_
   refine lpas 6 (some 26) ?_
   refine lpas 7 (some 27) ?_
   refine lpas 8 (some 28) ?_
   refine lnow 9 (.bool false) (some 29) ?_
   refine ldn 10 ?_
   generalize hact : Act.put _ (some 29) _ = act
   simp only [Act.put, sA, sC, sZ] at hact
   subst hact
   go_upto_region 6 with (fail)
   refine lbeg (opsOf Tryz.f32 6) ?_
   refine lnow 0 (.int .i64 (v : Int)) (some 51) ?_
   refine lnow 1 (.int .i64 8000) (some 52) ?_
   refine lnow 2 (.int .i64 8001) (some 53) ?_
   refine lnowP 3 (.int .i64 (min (v : Int) 8001)) (some 54) (exec_min #[3, 3] 3 (v : Int) 8001 (by kernel_rfl)) ?_
   rw [show (min (v : Int) 8001) = ((min v 8001 : Nat) : Int) by omega]
   refine lnow 4 (.int .i64 ((min v 8001 : Nat) : Int)) (some 4) ?_
   refine ldn 5 ?_
   generalize hact : Act.put _ (some 4) _ = act
   simp only [Act.put, sA, sC, sZ] at hact
   subst hact
   go_wp2
   go_ret
   exact ⟨min v 8001, rfl, by omega, KF, by rw [hq.out]; exact BE.out⟩
  obtain ⟨hlt, hle⟩ := hlt
  go_upto_region 3 with (fail)
  refine lbeg (opsOf Tryz.f32 3) ?_
  refine lnow 0 (.int .i64 (i : Int)) (some 20) ?_
  refine lnow 1 (.pointer (some ⟨q, 14, none⟩)) (some 21) ?_
  refine lcl 2 (.slice ca N cc) (some 22) 44 21 (q) 14 (FM.out.c BQ.out) Tryz.underlying44 ?_
  refine lnow 3 (.int .i64 (N : Int)) (some 23) ?_
  refine lnow 4 (.bool (decide ((i : Int) < (N : Int)))) (some 24) ?_
  rw [decide_eq_true (show (i : Int) < (N : Int) by omega)]
  refine lnow 5 (.bool true) (some 25) ?_
  refine lnow 6 (.int .i64 (v : Int)) (some 26) ?_
  refine lnow 7 (.int .i64 8000) (some 27) ?_
  refine lnow 8 (.bool (decide ((v : Int) ≤ 8000))) (some 28) ?_
  rw [decide_eq_true (show (v : Int) ≤ 8000 by omega)]
  refine lnow 9 (.bool true) (some 29) ?_
  refine ldn 10 ?_
  generalize hact : Act.put _ (some 29) _ = act
  simp only [Act.put, sA, sC, sZ] at hact
  subst hact
  obtain ⟨x, pb, po, xs, hx, hxm, hca, -, hpb, hrx, htx⟩ := CT.out.get hN.out hlt
  subst hca
  have X5 := Lib.hid htx.len
  have SX := Lib.hid (SM.out.ctors x hxm)
  go_upto_region 5 with (fail)
  refine region_begin (opsOf Tryz.f32 5) (fun W' => Below wr.heap.size wr W') (by kernel_rfl) (by kernel_rfl) 20 (by kernel_rfl) ?_
  intro Q' hQN hN
  have HS0 : Below wr.heap.size wr wr.drew := (Below.refl _ _).drew
  generalize wr.drew = wd at HS0 ⊢
  obtain ⟨XL, hXL⟩ : ∃ n, Hid (x.1.length = n) := ⟨_, rfl⟩
  have xl : XL ≤ 140737488351232 := by have := SX.out.1; rw [← hXL.out]; omega
  have nb := NB.out
  refine reg_now 0 (.int .i64 (v : Int)) (some 32) hQN HS0 (by kernel_rfl) (by kernel_rfl) (fun w => by kernel_rfl) ?_
  refine reg_now 1 (.pointer (some ⟨q, 14, none⟩)) (some 33) hQN HS0 (by kernel_rfl) (by kernel_rfl) (fun w => by kernel_rfl) ?_
  refine reg_nowIf 2 (.slice (some ⟨pb, po, none⟩) N cc) (some 34) hQN HS0 (by kernel_rfl) (by kernel_rfl) (fun w' hw => exec_load_cell 44 (.tmp 33) (by kernel_rfl) q 14 (by kernel_rfl) _ (FM.out.c (BQ.out.below hw BQ.out.lt)) _ Tryz.underlying44 rfl) ?_
  refine reg_now 3 (.int .i64 (i : Int)) (some 35) hQN HS0 (by kernel_rfl) (by kernel_rfl) (fun w => by kernel_rfl) ?_
  refine reg_now 4 (.pointer (some ⟨pb, po + 6 * i, none⟩)) (some 36) hQN HS0 (by kernel_rfl) (by kernel_rfl) (fun w' => exec_indexAt 44 (.tmp 34) (.tmp 35) (by kernel_rfl) _ _ _ (by kernel_rfl) (by kernel_rfl) (run_at_ct pb po N cc i hlt w')) ?_
  refine reg_now 5 (.pointer (some ⟨pb, po + 6 * i, none⟩)) (some 37) hQN HS0 (by kernel_rfl) (by kernel_rfl) (fun w => by kernel_rfl) ?_
  refine reg_nowIf 6 (strT x.1) (some 38) hQN HS0 (by kernel_rfl) (by kernel_rfl) (fun w' hw => exec_load_cell 9 (.tmp 37) (by kernel_rfl) pb (po + 6 * i) (by kernel_rfl) _ (ct_name (rangeBelow hw hpb hrx)) _ Tryz.underlying9 rfl) ?_
  refine reg_now 7 (.int .i64 (x.1.length : Int)) (some 39) hQN HS0 (by kernel_rfl) (by kernel_rfl) (fun w => by kernel_rfl) ?_
  rw [hXL.out]
  refine reg_now 8 (.int .i64 (IntKind.i64.wrap (1 + (XL : Int)))) (some 40) hQN HS0 (by kernel_rfl) (by kernel_rfl) (fun w => by kernel_rfl) ?_
  rw [nat_wrap (n := 1 + XL) (by omega) (by omega)]
  refine reg_now 9 (.pointer (some ⟨q, 14, none⟩)) (some 41) hQN HS0 (by kernel_rfl) (by kernel_rfl) (fun w => by kernel_rfl) ?_
  refine reg_nowIf 10 (.slice (some ⟨pb, po, none⟩) N cc) (some 42) hQN HS0 (by kernel_rfl) (by kernel_rfl) (fun w' hw => exec_load_cell 44 (.tmp 41) (by kernel_rfl) q 14 (by kernel_rfl) _ (FM.out.c (BQ.out.below hw BQ.out.lt)) _ Tryz.underlying44 rfl) ?_
  refine reg_now 11 (.int .i64 (i : Int)) (some 43) hQN HS0 (by kernel_rfl) (by kernel_rfl) (fun w => by kernel_rfl) ?_
  refine reg_now 12 (.pointer (some ⟨pb, po + 6 * i, none⟩)) (some 44) hQN HS0 (by kernel_rfl) (by kernel_rfl) (fun w' => exec_indexAt 44 (.tmp 42) (.tmp 43) (by kernel_rfl) _ _ _ (by kernel_rfl) (by kernel_rfl) (run_at_ct pb po N cc i hlt w')) ?_
  refine reg_now 13 (.pointer (some ⟨pb, po + 6 * i + 1, none⟩)) (some 45) hQN HS0 (by kernel_rfl) (by kernel_rfl) (fun w => by kernel_rfl) ?_
  refine reg_nowIf 14 (.agg xs.toArray) (some 46) hQN HS0 (by kernel_rfl) (by kernel_rfl) (fun w' hw => exec_load_mid 25 (.tmp 45) (by kernel_rfl) pb (po + 6 * i + 1) (by kernel_rfl) xs _ (ct_type (rangeBelow hw hpb hrx)) Tryz.underlying25 rfl (t5Size X5.out)) ?_
  refine reg_now 15 (.int .i64 8000) (some 47) hQN HS0 (by kernel_rfl) (by kernel_rfl) (fun w => by kernel_rfl) ?_
  refine reg_call 16 13 #[.agg xs.toArray, .int .i64 8000] (some 48) _ (by kernel_rfl) (by kernel_rfl) (by kernel_rfl) (tnodes_walk x.2 xs wd 8000 _ (htx.below HS0) SX.out.2 (by decide)) ?_
  rintro e w5 ⟨rfl, hb⟩
  have HS5 : Below wr.heap.size wr w5 := HS0.trans (hb.mono HS0.size)
  refine ⟨_, rfl, HS5, ?_⟩
  obtain ⟨a, ha⟩ : ∃ a, Hid (min (nodesT x.2) (8000 + 1) = a) := ⟨_, rfl⟩
  rw [ha.out]
  have A8 : a ≤ 8001 := by have := ha.out; omega
  refine reg_now 17 (.int .i64 (IntKind.i64.wrap (((1 + XL : Nat) : Int) + (a : Int)))) (some 49) hQN HS5 (by kernel_rfl) (by kernel_rfl) (fun w => by kernel_rfl) ?_
  rw [nat_wrap (n := 1 + XL + a) (by omega) (by omega)]
  refine reg_now 18 (.int .i64 (IntKind.i64.wrap ((v : Int) + ((1 + XL + a : Nat) : Int)))) (some 50) hQN HS5 (by kernel_rfl) (by kernel_rfl) (fun w => by kernel_rfl) ?_
  rw [nat_wrap (n := v + (1 + XL + a)) (by omega) (by omega)]
  refine reg_now 19 (.int .i64 ((v + (1 + XL + a) : Nat) : Int)) (some 5) hQN HS5 (by kernel_rfl) (by kernel_rfl) (fun w => by kernel_rfl) ?_
  have VB5 : Hid (v + (1 + XL + a) ≤ 200000000000000 + 200000000000000 * (i + 1)) := by have := VB.out; rw [Hid]; omega
  have K5 : Hid (v + (1 + XL + a) ≤ 8000 → nodesT d.ty ≤ 8000 ∧ nodesT d.val ≤ 8000) := fun h => K0.out (by omega)
  have KI5 : Hid (v + (1 + XL + a) ≤ 8000 → ∀ c ∈ d.ctors.take (i + 1), nodesT c.2 ≤ 8000) := fun h => take_next_all (KI.out (by omega)) hx (by have := ha.out; omega)
  have BQ := Lib.hid (BQ.out.below HS5 BQ.out.lt)
  have CT := Lib.hid (CT.out.below HS5)
  have BE5 : Hid (Below q w w5) := BE.out.trans (HS5.mono (by have := SZ.out; omega))
  have SZ5 : Hid (q + 1 ≤ w5.heap.size) := Nat.le_trans SZ.out HS5.size
  refine reg_done (by kernel_rfl) (hN _ _ ?_)
  generalize hact : Act.put _ (some 5) _ = act
  simp only [Act.put, sA, sC, sZ] at hact
  subst hact
  clear HS0 HS5 hb hrx htx hpb hx hxm hQN hN
  go_wp2
  go_roundw
  case rel => exact ⟨i + 1, _, by omega, by go_num, rfl, VB5, K5, KI5, BQ, CT, BE5, SZ5⟩
  case measure => simp [intOf]; omega
theorem DcForm.cr {d : Dc} {cs tc vc : List Value} {cv : Value} (h : DcForm d cs tc vc cv) {w : World} {b o : Nat} (hr : w.rangeAt b o cs) : w.cell? ⟨b, o + 14, none⟩ = some cv := by
 obtain ⟨_, _, _, _, _, _, _, _, _, _, -, -, e⟩ := h.open
 exact hr 14 cv (by rw [e]; rfl)
set_option maxHeartbeats 8000000 in
theorem great10_walk {F : List Nat} (ds : List Dc) (v : Value) (w : World) (hd : DcsAt F w ds v) (hs : ∀ d ∈ ds, SmD d) (hn : ds.length ≤ 140737488351232) : Calls Tryz.prog 14 #[v] w fun e w' => ∃ b : Bool, e = .returned (.bool b) ∧ Below w.heap.size w w' ∧ (b = false → ds.length ≤ 70 ∧ ∀ d ∈ ds, NodD d) := by
 obtain ⟨da, dc, rfl⟩ := hd.slice
 obtain ⟨L, hL⟩ : ∃ L, Hid (ds.length = L) := ⟨_, rfl⟩
 rw [hL.out] at hd hn ⊢
 have DL := Lib.hid hd
 have SM := Lib.hid hs
 have LB : Hid (L ≤ 140737488351232) := hn
 have hr : reachBytes = 140737488351232 := rfl
 clear hd hs hn
 go_enter Tryz.func14, Tryz.ntmps14
 go_upto_region 0 with (fail)
 refine lbeg (opsOf Tryz.f14 0) ?_
 refine lnow 0 (.bool false) (some 2) ?_
 refine ldn 1 ?_
 generalize hact : Act.put _ (some 2) _ = act
 simp only [Act.put, sA, sC, sZ] at hact
 subst hact
 go_upto_region 1 with (fail)
 refine lbeg (opsOf Tryz.f14 1) ?_
 refine lnow 0 (.slice da L dc) (some 5) ?_
 refine lnow 1 (.int .i64 (L : Int)) (some 6) ?_
 refine lnow 2 (.bool (decide (70 < (L : Int)))) (some 7) ?_
 by_cases h70 : L ≤ 70
 rotate_left
 ·skip
  rw [decide_eq_true (show (70 : Int) < (L : Int) by omega)]
  refine ldn 3 ?_
  generalize hact : Act.put _ (some 7) _ = act
  simp only [Act.put, sA, sC, sZ] at hact
  subst hact
  go_upto_region 2 with (fail)
  refine lbeg (opsOf Tryz.f14 2) ?_
  refine lnow 0 (.bool true) (some 2) ?_
  refine ldn 1 ?_
  generalize hact : Act.put _ (some 2) _ = act
  simp only [Act.put, sA, sC, sZ] at hact
  subst hact
  go_wp2
  go_ret
  exact ⟨true, rfl, Below.refl _ _, fun h => by cases h⟩
 rw [decide_eq_false (show ¬ (70 : Int) < (L : Int) by omega)]
 refine ldn 3 ?_
 generalize hact : Act.put _ (some 7) _ = act
 simp only [Act.put, sA, sC, sZ] at hact
 subst hact
 go_upto_region 3 with (fail)
 refine lbeg (opsOf Tryz.f14 3) ?_
 refine lnow 0 (.int .i64 0) (some 3) ?_
 refine ldn 1 ?_
 generalize hact : Act.put _ (some 3) _ = act
 simp only [Act.put, sA, sC, sZ] at hact
 subst hact
 go_upto_region 4 with (fail)
 refine lbeg (opsOf Tryz.f14 4) ?_
 refine lnow 0 (.int .i64 0) (some 4) ?_
 refine ldn 1 ?_
 generalize hact : Act.put _ (some 4) _ = act
 simp only [Act.put, sA, sC, sZ] at hact
 subst hact
 have L70 := Lib.hid h70
 clear h70
 obtain ⟨w0, hw0⟩ : ∃ y, Hid (w = y) := ⟨_, rfl⟩
 rw [hw0.out] at DL ⊢
 have BE : Hid (Below w0.heap.size w0 w0) := Below.refl _ _
 go_wp2
 go_loopw [3, 4] (fun vv iv wr => ∃ i v : Nat, i ≤ L ∧ iv = .int .i64 (i : Int) ∧ vv = .int .i64 (v : Int) ∧ Hid (v ≤ 8000) ∧ Hid (∀ d ∈ ds.take i, NodD d) ∧ Hid (DcsAt F wr ds (.slice da L dc)) ∧ Hid (Below w0.heap.size w0 wr)) (fun _ iv _ => L - (intOf iv).toNat)
 case atStart => exact ⟨0, 0, Nat.zero_le _, rfl, rfl, Nat.zero_le _, fun d hd => by simp at hd, DL, BE⟩
 case round =>
  clear DL BE
  obtain ⟨i, v, hi, rfl, rfl, VB, KI, DL, BE⟩ := hrel
  have l70 := L70.out
  by_cases hlt : i < L
  rotate_left
  ·skip
   go_upto_region 5 with (fail)
   refine lbeg (opsOf Tryz.f14 5) ?_
   refine lnow 0 (.int .i64 (i : Int)) (some 8) ?_
   refine lnow 1 (.slice da L dc) (some 9) ?_
   refine lnow 2 (.int .i64 (L : Int)) (some 10) ?_
   refine lnow 3 (.bool (decide ((i : Int) < (L : Int)))) (some 11) ?_
   rw [decide_eq_false (show ¬ (i : Int) < (L : Int) by omega)]
   refine ldn 4 ?_
   generalize hact : Act.put _ (some 11) _ = act
   simp only [Act.put, sA, sC, sZ] at hact
   subst hact
   go_upto_region 12 with (fail)
   refine lbeg (opsOf Tryz.f14 12) ?_
   refine lnow 0 (.bool false) (some 2) ?_
   refine ldn 1 ?_
   generalize hact : Act.put _ (some 2) _ = act
   simp only [Act.put, sA, sC, sZ] at hact
   subst hact
   go_wp2
   go_ret
   exact ⟨false, rfl, (by have h := BE.out; rw [← hw0.out] at h; exact h), fun _ => ⟨l70, fun d hd => KI.out d (by rw [List.take_of_length_le (by have := hL.out; omega)]; exact hd)⟩⟩
  go_upto_region 5 with (fail)
  refine lbeg (opsOf Tryz.f14 5) ?_
  refine lnow 0 (.int .i64 (i : Int)) (some 8) ?_
  refine lnow 1 (.slice da L dc) (some 9) ?_
  refine lnow 2 (.int .i64 (L : Int)) (some 10) ?_
  refine lnow 3 (.bool (decide ((i : Int) < (L : Int)))) (some 11) ?_
  rw [decide_eq_true (show (i : Int) < (L : Int) by omega)]
  refine ldn 4 ?_
  generalize hact : Act.put _ (some 11) _ = act
  simp only [Act.put, sA, sC, sZ] at hact
  subst hact
  obtain ⟨d, pb, po, cs, hx, hxm, hda, -, hpb, hrx, hdx⟩ := DL.out.get hL.out hlt
  subst hda
  obtain ⟨tc, vc, cv, hform, -, -, hcts⟩ := id hdx
  obtain ⟨ca, cc, rfl⟩ := hcts.slice
  have C15 := Lib.hid hdx.len
  have SX := Lib.hid (SM.out d hxm)
  have RX := Lib.hid hrx
  go_upto_region 7 with (fail)
  refine lbeg (opsOf Tryz.f14 7) ?_
  refine lnow 0 (.slice (some ⟨pb, po, none⟩) L dc) (some 14) ?_
  refine lnow 1 (.int .i64 (i : Int)) (some 15) ?_
  refine lix 2 (.pointer (some ⟨pb, po + 15 * i, none⟩)) (some 16) 40 14 15 (run_at_dc pb po L dc i hlt _) ?_
  refine lnow 3 (.pointer (some ⟨pb, po + 15 * i + 14, none⟩)) (some 17) ?_
  refine lcl 4 (.slice ca d.ctors.length cc) (some 18) 44 17 pb (po + 15 * i + 14) (hform.cr RX.out) Tryz.underlying44 ?_
  refine lnow 5 (.int .i64 (d.ctors.length : Int)) (some 19) ?_
  refine lnow 6 (.bool (decide (20 < (d.ctors.length : Int)))) (some 20) ?_
  by_cases h20 : d.ctors.length ≤ 20
  rotate_left
  ·skip
   rw [decide_eq_true (show (20 : Int) < (d.ctors.length : Int) by omega)]
   refine ldn 7 ?_
   generalize hact : Act.put _ (some 20) _ = act
   simp only [Act.put, sA, sC, sZ] at hact
   subst hact
   go_upto_region 8 with (fail)
   refine lbeg (opsOf Tryz.f14 8) ?_
   refine lnow 0 (.bool true) (some 2) ?_
   refine ldn 1 ?_
   generalize hact : Act.put _ (some 2) _ = act
   simp only [Act.put, sA, sC, sZ] at hact
   subst hact
   go_wp2
   go_ret
   exact ⟨true, rfl, (by have h := BE.out; rw [← hw0.out] at h; exact h), fun h => by cases h⟩
  rw [decide_eq_false (show ¬ (20 : Int) < (d.ctors.length : Int) by omega)]
  refine ldn 7 ?_
  generalize hact : Act.put _ (some 20) _ = act
  simp only [Act.put, sA, sC, sZ] at hact
  subst hact
  clear hform hcts h20
  go_upto_region 9 with (fail)
  refine lbeg (opsOf Tryz.f14 9) ?_
  refine lnow 0 (.int .i64 (v : Int)) (some 21) ?_
  refine lnow 1 (.slice (some ⟨pb, po, none⟩) L dc) (some 22) ?_
  refine lnow 2 (.int .i64 (i : Int)) (some 23) ?_
  refine lix 3 (.pointer (some ⟨pb, po + 15 * i, none⟩)) (some 24) 40 22 23 (run_at_dc pb po L dc i hlt _) ?_
  refine lrl 4 cs (some 25) 46 24 pb (po + 15 * i) RX.out Tryz.underlying46 (dcSize C15.out) ?_
  refine lcal 5 32 #[.agg cs.toArray, .int .i64 8000] (some 26) _ (declnodes_walk d cs wr hdx SX.out) ?_
  rintro e w5 ⟨r, rfl, hr8, hrn, hb⟩
  refine ⟨_, rfl, ?_⟩
  have vb := VB.out
  refine lnow 6 (.int .i64 (IntKind.i64.wrap ((v : Int) + (r : Int)))) (some 27) ?_
  rw [nat_wrap (n := v + r) (by omega) (by omega)]
  refine lnow 7 (.int .i64 ((v + r : Nat) : Int)) (some 3) ?_
  refine ldn 8 ?_
  generalize hact : Act.put _ (some 3) _ = act
  simp only [Act.put, sA, sC, sZ] at hact
  subst hact
  have BE5 : Hid (Below w0.heap.size w0 w5) := BE.out.trans (hb.mono BE.out.size)
  have DL5 := Lib.hid (DL.out.below hb)
  go_upto_region 10 with (fail)
  refine lbeg (opsOf Tryz.f14 10) ?_
  refine lnow 0 (.int .i64 ((v + r : Nat) : Int)) (some 28) ?_
  refine lnow 1 (.bool (decide (8000 < ((v + r : Nat) : Int)))) (some 29) ?_
  by_cases h8 : v + r ≤ 8000
  rotate_left
  ·skip
   rw [decide_eq_true (show (8000 : Int) < ((v + r : Nat) : Int) by omega)]
   refine ldn 2 ?_
   generalize hact : Act.put _ (some 29) _ = act
   simp only [Act.put, sA, sC, sZ] at hact
   subst hact
   go_upto_region 11 with (fail)
   refine lbeg (opsOf Tryz.f14 11) ?_
   refine lnow 0 (.bool true) (some 2) ?_
   refine ldn 1 ?_
   generalize hact : Act.put _ (some 2) _ = act
   simp only [Act.put, sA, sC, sZ] at hact
   subst hact
   go_wp2
   go_ret
   exact ⟨true, rfl, (by have h := BE5.out; rw [← hw0.out] at h; exact h), fun h => by cases h⟩
  rw [decide_eq_false (show ¬ (8000 : Int) < ((v + r : Nat) : Int) by omega)]
  refine ldn 2 ?_
  generalize hact : Act.put _ (some 29) _ = act
  simp only [Act.put, sA, sC, sZ] at hact
  subst hact
  have KI5 : Hid (∀ d ∈ ds.take (i + 1), NodD d) := take_next_all KI.out hx (hrn (by omega))
  have V5 := Lib.hid h8
  clear hx hxm hpb hrx hdx RX hrn hb vb h8 DL BE KI VB
  go_wp2
  go_roundw
  case rel => exact ⟨i + 1, v + r, by omega, by go_num, rfl, V5, KI5, DL5, BE5⟩
  case measure => simp [intOf]; omega
end Go.Proofs.YtmceocgddaaohaaGreatDoor
