import Derived.Test.YteohjbggicchgaaQGenT
import Derived.Test.YteohjbggicchgaaQCodSa
import Derived.Test.YteohjbggicchgaaQCodZ
import Derived.Test.YteohjbggicchgaaQCodAl
namespace Go.Proofs.Yteohjbggicchgaa
open Go Go.RowKit
set_option maxRecDepth 100000
structure NodD (d : Dc) : Prop where
 ty : nodesT d.ty ≤ 8000
 val : nodesT d.val ≤ 8000
 ctors : ∀ c ∈ d.ctors, nodesT c.2 ≤ 8000
theorem NodD.big {d : Dc} (h : NodD d) : BigD d := ⟨Nat.le_trans h.ty (by decide), Nat.le_trans h.val (by decide), fun c hc => Nat.le_trans (h.ctors c hc) (by decide)⟩
theorem take_next_all {α : Type} {p : α → Prop} {l : List α} {i : Nat} {x : α} (h : ∀ y ∈ l.take i, p y) (hx : l[i]? = some x) (hp : p x) : ∀ y ∈ l.take (i + 1), p y := fun y hy => by
 rw [List.take_add_one, hx] at hy
 rcases List.mem_append.1 hy with hy | hy
 ·exact h y hy
 ·obtain rfl : y = x := by simpa using hy
  exact hp
theorem nat_wrap {a : Int} {n : Nat} (h : a = (n : Int)) (hn : n ≤ 1000000000000000) : IntKind.i64.wrap a = (n : Int) := by
 subst h
 exact IntWalk.i64_in _ (by omega)
set_option maxHeartbeats 8000000 in
theorem declnodes_walk {F : List Nat} (d : Dc) (cs : List Value) (w : World) (hd : DcAt F w d cs) (hs : SmD d) : Calls Try.prog 30 #[.agg cs.toArray, .int .i64 8000] w fun e w' => ∃ r : Nat, e = .returned (.int .i64 (r : Int)) ∧ r ≤ 8001 ∧ (r ≤ 8000 → NodD d) ∧ Below w.heap.size w w' := by
 obtain ⟨tc, vc, cv, hform, hty, hval, hcts⟩ := id hd
 obtain ⟨ca, cc, rfl⟩ := hcts.slice
 have FM := Lib.hid hform
 have TY := Lib.hid hty
 have VA := Lib.hid hval
 have CT := Lib.hid hcts
 have SM := Lib.hid hs
 have hr : reachBytes = 140737488351232 := rfl
 have C15 := Lib.hid hd.len
 have ONE := Lib.hid hd.one
 obtain ⟨q, hq⟩ : ∃ q, Hid (w.heap.size = q) := ⟨_, rfl⟩
 obtain ⟨N, hN⟩ : ∃ N, Hid (d.ctors.length = N) := ⟨_, rfl⟩
 obtain ⟨NL, hNL⟩ : ∃ N, Hid (d.name.length = N) := ⟨_, rfl⟩
 have NLB : Hid (NL ≤ 140737488351232) := by have := SM.out.name; rw [Hid, ← hNL.out]; omega
 have NB : Hid (N ≤ 140737488351232) := by have := SM.out.num; rw [Hid, ← hN.out]; omega
 rw [hN.out] at FM CT
 clear hd hform hty hval hcts hs
 go_enter Try.func30, Try.ntmps30
 go_upto_region 0 with (fail)
 refine lbeg (opsOf Try.f30 0) ?_
 refine lbox 0 38 (.tmp 0) cs q (some 2) hq ?_
 intro w1 b1 be1 hs1
 refine lnow 1 (.int .i64 0) (some 4) ?_
 refine ldn 2 ?_
 generalize hact : Act.put _ (some 4) _ = act
 simp only [Act.put, sA, sC, sZ] at hact
 subst hact
 have BQ := Lib.hid b1
 have BE : Hid (Below q w w1) := be1
 have S1 : Hid (w1.heap.size = q + 1) := hs1
 have TY := Lib.hid (TY.out.below (by rw [hq.out]; exact BE.out))
 have VA := Lib.hid (VA.out.below (by rw [hq.out]; exact BE.out))
 have CT := Lib.hid (CT.out.below (by rw [hq.out]; exact BE.out))
 clear b1 be1 hs1
 go_upto_region 1 with (fail)
 refine region_begin (opsOf Try.f30 1) (fun W' => Below w1.heap.size w1 W') (by kernel_rfl) (by kernel_rfl) 14 (by kernel_rfl) ?_
 intro Q' hQN hN
 have HS : Below w1.heap.size w1 w1.drew := (Below.refl _ _).drew
 generalize w1.drew = W0 at HS ⊢
 refine reg_now 0 (.pointer (some ⟨q, 3, none⟩)) (some 7) hQN HS (by kernel_rfl) (by kernel_rfl) (fun w => by kernel_rfl) ?_
 refine reg_nowIf 1 (.agg tc.toArray) (some 8) hQN HS (by kernel_rfl) (by kernel_rfl) (fun w' hw => exec_load_mid 25 (.tmp 7) (by kernel_rfl) q 3 (by kernel_rfl) tc _ (FM.out.tr (BQ.out.below hw BQ.out.lt)) Try.underlying25 rfl (t5Size FM.out.t5)) ?_
 refine reg_now 2 (.int .i64 8000) (some 9) hQN HS (by kernel_rfl) (by kernel_rfl) (fun w => by kernel_rfl) ?_
 refine reg_now 4 (.pointer (some ⟨q, 8, none⟩)) (some 11) hQN HS (by kernel_rfl) (by kernel_rfl) (fun w => by kernel_rfl) ?_
 refine reg_nowIf 5 (.agg vc.toArray) (some 12) hQN HS (by kernel_rfl) (by kernel_rfl) (fun w' hw => exec_load_mid 25 (.tmp 11) (by kernel_rfl) q 8 (by kernel_rfl) vc _ (FM.out.vr (BQ.out.below hw BQ.out.lt)) Try.underlying25 rfl (t5Size FM.out.v5)) ?_
 refine reg_now 6 (.int .i64 8000) (some 13) hQN HS (by kernel_rfl) (by kernel_rfl) (fun w => by kernel_rfl) ?_
 refine reg_now 9 (.pointer (some ⟨q, 2, none⟩)) (some 16) hQN HS (by kernel_rfl) (by kernel_rfl) (fun w => by kernel_rfl) ?_
 refine reg_nowIf 10 (strT d.name) (some 17) hQN HS (by kernel_rfl) (by kernel_rfl) (fun w' hw => exec_load_cell 9 (.tmp 16) (by kernel_rfl) q 2 (by kernel_rfl) _ (FM.out.n (BQ.out.below hw BQ.out.lt)) _ Try.underlying9 rfl) ?_
 refine reg_now 11 (.int .i64 (d.name.length : Int)) (some 18) hQN HS (by kernel_rfl) (by kernel_rfl) (fun w => by kernel_rfl) ?_
 rw [hNL.out]
 refine reg_call 3 29 #[.agg tc.toArray, .int .i64 8000] (some 10) _ (by kernel_rfl) (by kernel_rfl) (by kernel_rfl) (tnodes_walk d.ty tc W0 8000 _ (TY.out.below HS) SM.out.ty (by decide)) ?_
 rintro e W1 ⟨rfl, hb⟩
 have HS2 : Below w1.heap.size w1 W1 := HS.trans (hb.mono HS.size)
 refine ⟨_, rfl, HS2, ?_⟩
 have HS := HS2
 clear hb HS2
 obtain ⟨a, ha⟩ : ∃ a, Hid (min (nodesT d.ty) (8000 + 1) = a) := ⟨_, rfl⟩
 rw [ha.out]
 refine reg_call 7 29 #[.agg vc.toArray, .int .i64 8000] (some 14) _ (by kernel_rfl) (by kernel_rfl) (by kernel_rfl) (tnodes_walk d.val vc W1 8000 _ (VA.out.below HS) SM.out.val (by decide)) ?_
 rintro e W2 ⟨rfl, hb⟩
 have HS2 : Below w1.heap.size w1 W2 := HS.trans (hb.mono HS.size)
 refine ⟨_, rfl, HS2, ?_⟩
 have HS := HS2
 clear hb HS2
 obtain ⟨b, hb⟩ : ∃ b, Hid (min (nodesT d.val) (8000 + 1) = b) := ⟨_, rfl⟩
 rw [hb.out]
 have A8 : a ≤ 8001 := by have := ha.out; omega
 have B8 : b ≤ 8001 := by have := hb.out; omega
 have nl := NLB.out
 refine reg_now 8 (.int .i64 (IntKind.i64.wrap ((a : Int) + (b : Int)))) (some 15) hQN HS (by kernel_rfl) (by kernel_rfl) (fun w => by kernel_rfl) ?_
 rw [nat_wrap (n := a + b) (by omega) (by omega)]
 refine reg_now 12 (.int .i64 (IntKind.i64.wrap (((a + b : Nat) : Int) + (NL : Int)))) (some 19) hQN HS (by kernel_rfl) (by kernel_rfl) (fun w => by kernel_rfl) ?_
 rw [nat_wrap (n := a + b + NL) (by omega) (by omega)]
 refine reg_now 13 (.int .i64 ((a + b + NL : Nat) : Int)) (some 5) hQN HS (by kernel_rfl) (by kernel_rfl) (fun w => by kernel_rfl) ?_
 have BQ := Lib.hid (BQ.out.below HS BQ.out.lt)
 have CT := Lib.hid (CT.out.below HS)
 have BE : Hid (Below q w W2) := BE.out.trans (HS.mono (by have := S1.out; omega))
 have SZ : Hid (q + 1 ≤ W2.heap.size) := by have := HS.size; have := S1.out; rw [Hid]; omega
 have V0 : Hid (a + b + NL ≤ 200000000000000) := by rw [Hid]; omega
 have K0 : Hid (a + b + NL ≤ 8000 → nodesT d.ty ≤ 8000 ∧ nodesT d.val ≤ 8000) := fun h => by have := ha.out; have := hb.out; omega
 obtain ⟨v0, hv0⟩ : ∃ v, a + b + NL = v := ⟨_, rfl⟩
 rw [hv0] at V0 K0 ⊢
 clear hv0 A8 B8 nl
 refine reg_done (by kernel_rfl) (hN _ _ ?_)
 generalize hact : Act.put _ (some 5) _ = act
 simp only [Act.put, sA, sC, sZ] at hact
 subst hact
 clear HS hQN hN TY VA ha hb S1
 go_upto_region 2 with (fail)
 refine lbeg (opsOf Try.f30 2) ?_
 refine lnow 0 (.int .i64 0) (some 6) ?_
 refine ldn 1 ?_
 generalize hact : Act.put _ (some 6) _ = act
 simp only [Act.put, sA, sC, sZ] at hact
 subst hact
 go_wp2
 go_loopw [5, 6] (fun vv iv wr => ∃ i v : Nat, i ≤ N ∧ iv = .int .i64 (i : Int) ∧ vv = .int .i64 (v : Int) ∧ Hid (v ≤ 200000000000000 + 200000000000000 * i) ∧ Hid (v ≤ 8000 → nodesT d.ty ≤ 8000 ∧ nodesT d.val ≤ 8000) ∧ Hid (v ≤ 8000 → ∀ c ∈ d.ctors.take i, nodesT c.2 ≤ 8000) ∧ Hid (Blk wr q 38 cs) ∧ Hid (CtsAt F wr d.ctors (.slice ca N cc)) ∧ Hid (Below q w wr) ∧ Hid (q + 1 ≤ wr.heap.size)) (fun _ iv _ => N - (intOf iv).toNat)
 case atStart => exact ⟨0, v0, Nat.zero_le _, rfl, rfl, by have := V0.out; rw [Hid]; omega, K0, fun _ c hc => by simp at hc, BQ, CT, BE, SZ⟩
 case round =>
  clear V0 K0 BQ CT BE SZ
  obtain ⟨i, v, hi, rfl, rfl, VB, K0, KI, BQ, CT, BE, SZ⟩ := hrel
  by_cases hlt : i < N ∧ v ≤ 8000
  rotate_left
  ·skip
   by_cases hl2 : i < N
   ·skip
    have KF : min v 8001 ≤ 8000 → NodD d := fun h => by omega
    go_upto_region 3 with (fail)
    refine lbeg (opsOf Try.f30 3) ?_
    refine lnow 0 (.int .i64 (i : Int)) (some 20) ?_
    refine lnow 1 (.pointer (some ⟨q, 14, none⟩)) (some 21) ?_
    refine lcl 2 (.slice ca N cc) (some 22) 36 21 (q) 14 (FM.out.c BQ.out) Try.underlying36 ?_
    refine lnow 3 (.int .i64 (N : Int)) (some 23) ?_
    refine lnow 4 (.bool (decide ((i : Int) < (N : Int)))) (some 24) ?_
    rw [decide_eq_true (show (i : Int) < (N : Int) by omega)]
    refine lnow 5 (.bool true) (some 25) ?_
    refine lnow 6 (.int .i64 (v : Int)) (some 26) ?_
    refine lnow 7 (.int .i64 8000) (some 27) ?_
    refine lnow 8 (.bool (decide ((v : Int) ≤ 8000))) (some 28) ?_
    rw [decide_eq_false (show ¬ (v : Int) ≤ 8000 by omega)]
    refine lnow 9 (.bool false) (some 29) ?_
    refine ldn 10 ?_
    generalize hact : Act.put _ (some 29) _ = act
    simp only [Act.put, sA, sC, sZ] at hact
    subst hact
    go_upto_region 6 with (fail)
    refine lbeg (opsOf Try.f30 6) ?_
    refine lnow 0 (.int .i64 (v : Int)) (some 51) ?_
    refine lnow 1 (.int .i64 8000) (some 52) ?_
    refine lnow 2 (.int .i64 8001) (some 53) ?_
    refine lnowP 3 (.int .i64 (min (v : Int) 8001)) (some 54) (exec_min #[3, 3] 3 (v : Int) 8001 (by kernel_rfl)) ?_
    rw [show (min (v : Int) 8001) = ((min v 8001 : Nat) : Int) by omega]
    refine lnow 4 (.int .i64 ((min v 8001 : Nat) : Int)) (some 4) ?_
    refine ldn 5 ?_
    generalize hact : Act.put _ (some 4) _ = act
    simp only [Act.put, sA, sC, sZ] at hact
    subst hact
    go_wp2
    go_ret
    exact ⟨min v 8001, rfl, by omega, KF, by rw [hq.out]; exact BE.out⟩
   have KF : min v 8001 ≤ 8000 → NodD d := fun h => ⟨(K0.out (by omega)).1, (K0.out (by omega)).2, fun c hc => KI.out (by omega) c (by rw [List.take_of_length_le (by have := hN.out; omega)]; exact hc)⟩
   go_upto_region 3 with (fail)
   refine lbeg (opsOf Try.f30 3) ?_
   refine lnow 0 (.int .i64 (i : Int)) (some 20) ?_
   refine lnow 1 (.pointer (some ⟨q, 14, none⟩)) (some 21) ?_
   refine lcl 2 (.slice ca N cc) (some 22) 36 21 (q) 14 (FM.out.c BQ.out) Try.underlying36 ?_
   refine lnow 3 (.int .i64 (N : Int)) (some 23) ?_
   refine lnow 4 (.bool (decide ((i : Int) < (N : Int)))) (some 24) ?_
   rw [decide_eq_false (show ¬ (i : Int) < (N : Int) by omega)]
   refine lnow 5 (.bool false) (some 25) ?_
   refine lpas 6 (some 26) ?_
   refine lpas 7 (some 27) ?_
   refine lpas 8 (some 28) ?_
   refine lnow 9 (.bool false) (some 29) ?_
   refine ldn 10 ?_
   generalize hact : Act.put _ (some 29) _ = act
   simp only [Act.put, sA, sC, sZ] at hact
   subst hact
   go_upto_region 6 with (fail)
   refine lbeg (opsOf Try.f30 6) ?_
   refine lnow 0 (.int .i64 (v : Int)) (some 51) ?_
   refine lnow 1 (.int .i64 8000) (some 52) ?_
   refine lnow 2 (.int .i64 8001) (some 53) ?_
   refine lnowP 3 (.int .i64 (min (v : Int) 8001)) (some 54) (exec_min #[3, 3] 3 (v : Int) 8001 (by kernel_rfl)) ?_
   rw [show (min (v : Int) 8001) = ((min v 8001 : Nat) : Int) by omega]
   refine lnow 4 (.int .i64 ((min v 8001 : Nat) : Int)) (some 4) ?_
   refine ldn 5 ?_
   generalize hact : Act.put _ (some 4) _ = act
   simp only [Act.put, sA, sC, sZ] at hact
   subst hact
   go_wp2
   go_ret
   exact ⟨min v 8001, rfl, by omega, KF, by rw [hq.out]; exact BE.out⟩
  obtain ⟨hlt, hle⟩ := hlt
  go_upto_region 3 with (fail)
  refine lbeg (opsOf Try.f30 3) ?_
  refine lnow 0 (.int .i64 (i : Int)) (some 20) ?_
  refine lnow 1 (.pointer (some ⟨q, 14, none⟩)) (some 21) ?_
  refine lcl 2 (.slice ca N cc) (some 22) 36 21 (q) 14 (FM.out.c BQ.out) Try.underlying36 ?_
  refine lnow 3 (.int .i64 (N : Int)) (some 23) ?_
  refine lnow 4 (.bool (decide ((i : Int) < (N : Int)))) (some 24) ?_
  rw [decide_eq_true (show (i : Int) < (N : Int) by omega)]
  refine lnow 5 (.bool true) (some 25) ?_
  refine lnow 6 (.int .i64 (v : Int)) (some 26) ?_
  refine lnow 7 (.int .i64 8000) (some 27) ?_
  refine lnow 8 (.bool (decide ((v : Int) ≤ 8000))) (some 28) ?_
  rw [decide_eq_true (show (v : Int) ≤ 8000 by omega)]
  refine lnow 9 (.bool true) (some 29) ?_
  refine ldn 10 ?_
  generalize hact : Act.put _ (some 29) _ = act
  simp only [Act.put, sA, sC, sZ] at hact
  subst hact
  obtain ⟨x, pb, po, xs, hx, hxm, hca, -, hpb, hrx, htx⟩ := CT.out.get hN.out hlt
  subst hca
  have X5 := Lib.hid htx.len
  have SX := Lib.hid (SM.out.ctors x hxm)
  go_upto_region 5 with (fail)
  refine region_begin (opsOf Try.f30 5) (fun W' => Below wr.heap.size wr W') (by kernel_rfl) (by kernel_rfl) 20 (by kernel_rfl) ?_
  intro Q' hQN hN
  have HS0 : Below wr.heap.size wr wr.drew := (Below.refl _ _).drew
  generalize wr.drew = wd at HS0 ⊢
  obtain ⟨XL, hXL⟩ : ∃ n, Hid (x.1.length = n) := ⟨_, rfl⟩
  have xl : XL ≤ 140737488351232 := by have := SX.out.1; rw [← hXL.out]; omega
  have nb := NB.out
  refine reg_now 0 (.int .i64 (v : Int)) (some 32) hQN HS0 (by kernel_rfl) (by kernel_rfl) (fun w => by kernel_rfl) ?_
  refine reg_now 1 (.pointer (some ⟨q, 14, none⟩)) (some 33) hQN HS0 (by kernel_rfl) (by kernel_rfl) (fun w => by kernel_rfl) ?_
  refine reg_nowIf 2 (.slice (some ⟨pb, po, none⟩) N cc) (some 34) hQN HS0 (by kernel_rfl) (by kernel_rfl) (fun w' hw => exec_load_cell 36 (.tmp 33) (by kernel_rfl) q 14 (by kernel_rfl) _ (FM.out.c (BQ.out.below hw BQ.out.lt)) _ Try.underlying36 rfl) ?_
  refine reg_now 3 (.int .i64 (i : Int)) (some 35) hQN HS0 (by kernel_rfl) (by kernel_rfl) (fun w => by kernel_rfl) ?_
  refine reg_now 4 (.pointer (some ⟨pb, po + 6 * i, none⟩)) (some 36) hQN HS0 (by kernel_rfl) (by kernel_rfl) (fun w' => exec_indexAt 36 (.tmp 34) (.tmp 35) (by kernel_rfl) _ _ _ (by kernel_rfl) (by kernel_rfl) (run_at_ct pb po N cc i hlt w')) ?_
  refine reg_now 5 (.pointer (some ⟨pb, po + 6 * i, none⟩)) (some 37) hQN HS0 (by kernel_rfl) (by kernel_rfl) (fun w => by kernel_rfl) ?_
  refine reg_nowIf 6 (strT x.1) (some 38) hQN HS0 (by kernel_rfl) (by kernel_rfl) (fun w' hw => exec_load_cell 9 (.tmp 37) (by kernel_rfl) pb (po + 6 * i) (by kernel_rfl) _ (ct_name (rangeBelow hw hpb hrx)) _ Try.underlying9 rfl) ?_
  refine reg_now 7 (.int .i64 (x.1.length : Int)) (some 39) hQN HS0 (by kernel_rfl) (by kernel_rfl) (fun w => by kernel_rfl) ?_
  rw [hXL.out]
  refine reg_now 8 (.int .i64 (IntKind.i64.wrap (1 + (XL : Int)))) (some 40) hQN HS0 (by kernel_rfl) (by kernel_rfl) (fun w => by kernel_rfl) ?_
  rw [nat_wrap (n := 1 + XL) (by omega) (by omega)]
  refine reg_now 9 (.pointer (some ⟨q, 14, none⟩)) (some 41) hQN HS0 (by kernel_rfl) (by kernel_rfl) (fun w => by kernel_rfl) ?_
  refine reg_nowIf 10 (.slice (some ⟨pb, po, none⟩) N cc) (some 42) hQN HS0 (by kernel_rfl) (by kernel_rfl) (fun w' hw => exec_load_cell 36 (.tmp 41) (by kernel_rfl) q 14 (by kernel_rfl) _ (FM.out.c (BQ.out.below hw BQ.out.lt)) _ Try.underlying36 rfl) ?_
  refine reg_now 11 (.int .i64 (i : Int)) (some 43) hQN HS0 (by kernel_rfl) (by kernel_rfl) (fun w => by kernel_rfl) ?_
  refine reg_now 12 (.pointer (some ⟨pb, po + 6 * i, none⟩)) (some 44) hQN HS0 (by kernel_rfl) (by kernel_rfl) (fun w' => exec_indexAt 36 (.tmp 42) (.tmp 43) (by kernel_rfl) _ _ _ (by kernel_rfl) (by kernel_rfl) (run_at_ct pb po N cc i hlt w')) ?_
  refine reg_now 13 (.pointer (some ⟨pb, po + 6 * i + 1, none⟩)) (some 45) hQN HS0 (by kernel_rfl) (by kernel_rfl) (fun w => by kernel_rfl) ?_
  refine reg_nowIf 14 (.agg xs.toArray) (some 46) hQN HS0 (by kernel_rfl) (by kernel_rfl) (fun w' hw => exec_load_mid 25 (.tmp 45) (by kernel_rfl) pb (po + 6 * i + 1) (by kernel_rfl) xs _ (ct_type (rangeBelow hw hpb hrx)) Try.underlying25 rfl (t5Size X5.out)) ?_
  refine reg_now 15 (.int .i64 8000) (some 47) hQN HS0 (by kernel_rfl) (by kernel_rfl) (fun w => by kernel_rfl) ?_
  refine reg_call 16 29 #[.agg xs.toArray, .int .i64 8000] (some 48) _ (by kernel_rfl) (by kernel_rfl) (by kernel_rfl) (tnodes_walk x.2 xs wd 8000 _ (htx.below HS0) SX.out.2 (by decide)) ?_
  rintro e w5 ⟨rfl, hb⟩
  have HS5 : Below wr.heap.size wr w5 := HS0.trans (hb.mono HS0.size)
  refine ⟨_, rfl, HS5, ?_⟩
  obtain ⟨a, ha⟩ : ∃ a, Hid (min (nodesT x.2) (8000 + 1) = a) := ⟨_, rfl⟩
  rw [ha.out]
  have A8 : a ≤ 8001 := by have := ha.out; omega
  refine reg_now 17 (.int .i64 (IntKind.i64.wrap (((1 + XL : Nat) : Int) + (a : Int)))) (some 49) hQN HS5 (by kernel_rfl) (by kernel_rfl) (fun w => by kernel_rfl) ?_
  rw [nat_wrap (n := 1 + XL + a) (by omega) (by omega)]
  refine reg_now 18 (.int .i64 (IntKind.i64.wrap ((v : Int) + ((1 + XL + a : Nat) : Int)))) (some 50) hQN HS5 (by kernel_rfl) (by kernel_rfl) (fun w => by kernel_rfl) ?_
  rw [nat_wrap (n := v + (1 + XL + a)) (by omega) (by omega)]
  refine reg_now 19 (.int .i64 ((v + (1 + XL + a) : Nat) : Int)) (some 5) hQN HS5 (by kernel_rfl) (by kernel_rfl) (fun w => by kernel_rfl) ?_
  have VB5 : Hid (v + (1 + XL + a) ≤ 200000000000000 + 200000000000000 * (i + 1)) := by have := VB.out; rw [Hid]; omega
  have K5 : Hid (v + (1 + XL + a) ≤ 8000 → nodesT d.ty ≤ 8000 ∧ nodesT d.val ≤ 8000) := fun h => K0.out (by omega)
  have KI5 : Hid (v + (1 + XL + a) ≤ 8000 → ∀ c ∈ d.ctors.take (i + 1), nodesT c.2 ≤ 8000) := fun h => take_next_all (KI.out (by omega)) hx (by have := ha.out; omega)
  have BQ := Lib.hid (BQ.out.below HS5 BQ.out.lt)
  have CT := Lib.hid (CT.out.below HS5)
  have BE5 : Hid (Below q w w5) := BE.out.trans (HS5.mono (by have := SZ.out; omega))
  have SZ5 : Hid (q + 1 ≤ w5.heap.size) := Nat.le_trans SZ.out HS5.size
  refine reg_done (by kernel_rfl) (hN _ _ ?_)
  generalize hact : Act.put _ (some 5) _ = act
  simp only [Act.put, sA, sC, sZ] at hact
  subst hact
  clear HS0 HS5 hb hrx htx hpb hx hxm hQN hN
  go_wp2
  go_roundw
  case rel => exact ⟨i + 1, _, by omega, by go_num, rfl, VB5, K5, KI5, BQ, CT, BE5, SZ5⟩
  case measure => simp [intOf]; omega
theorem DcForm.cr {d : Dc} {cs tc vc : List Value} {cv : Value} (h : DcForm d cs tc vc cv) {w : World} {b o : Nat} (hr : w.rangeAt b o cs) : w.cell? ⟨b, o + 14, none⟩ = some cv := by
 obtain ⟨_, _, _, _, _, _, _, _, _, _, -, -, e⟩ := h.open
 exact hr 14 cv (by rw [e]; rfl)
set_option maxHeartbeats 8000000 in
theorem great10_walk {F : List Nat} (ds : List Dc) (v : Value) (w : World) (hd : DcsAt F w ds v) (hs : ∀ d ∈ ds, SmD d) (hn : ds.length ≤ 140737488351232) : Calls Try.prog 9 #[v] w fun e w' => ∃ b : Bool, e = .returned (.bool b) ∧ Below w.heap.size w w' ∧ (b = false → ds.length ≤ 70 ∧ ∀ d ∈ ds, NodD d) := by
 obtain ⟨da, dc, rfl⟩ := hd.slice
 obtain ⟨L, hL⟩ : ∃ L, Hid (ds.length = L) := ⟨_, rfl⟩
 rw [hL.out] at hd hn ⊢
 have DL := Lib.hid hd
 have SM := Lib.hid hs
 have LB : Hid (L ≤ 140737488351232) := hn
 have hr : reachBytes = 140737488351232 := rfl
 clear hd hs hn
 go_enter Try.func9, Try.ntmps9
 go_upto_region 0 with (fail)
 refine lbeg (opsOf Try.f9 0) ?_
 refine lnow 0 (.bool false) (some 2) ?_
 refine ldn 1 ?_
 generalize hact : Act.put _ (some 2) _ = act
 simp only [Act.put, sA, sC, sZ] at hact
 subst hact
 go_upto_region 1 with (fail)
 refine lbeg (opsOf Try.f9 1) ?_
 refine lnow 0 (.slice da L dc) (some 5) ?_
 refine lnow 1 (.int .i64 (L : Int)) (some 6) ?_
 refine lnow 2 (.bool (decide (70 < (L : Int)))) (some 7) ?_
 by_cases h70 : L ≤ 70
 rotate_left
 ·skip
  rw [decide_eq_true (show (70 : Int) < (L : Int) by omega)]
  refine ldn 3 ?_
  generalize hact : Act.put _ (some 7) _ = act
  simp only [Act.put, sA, sC, sZ] at hact
  subst hact
  go_upto_region 2 with (fail)
  refine lbeg (opsOf Try.f9 2) ?_
  refine lnow 0 (.bool true) (some 2) ?_
  refine ldn 1 ?_
  generalize hact : Act.put _ (some 2) _ = act
  simp only [Act.put, sA, sC, sZ] at hact
  subst hact
  go_wp2
  go_ret
  exact ⟨true, rfl, Below.refl _ _, fun h => by cases h⟩
 rw [decide_eq_false (show ¬ (70 : Int) < (L : Int) by omega)]
 refine ldn 3 ?_
 generalize hact : Act.put _ (some 7) _ = act
 simp only [Act.put, sA, sC, sZ] at hact
 subst hact
 go_upto_region 3 with (fail)
 refine lbeg (opsOf Try.f9 3) ?_
 refine lnow 0 (.int .i64 0) (some 3) ?_
 refine ldn 1 ?_
 generalize hact : Act.put _ (some 3) _ = act
 simp only [Act.put, sA, sC, sZ] at hact
 subst hact
 go_upto_region 4 with (fail)
 refine lbeg (opsOf Try.f9 4) ?_
 refine lnow 0 (.int .i64 0) (some 4) ?_
 refine ldn 1 ?_
 generalize hact : Act.put _ (some 4) _ = act
 simp only [Act.put, sA, sC, sZ] at hact
 subst hact
 have L70 := Lib.hid h70
 clear h70
 obtain ⟨w0, hw0⟩ : ∃ y, Hid (w = y) := ⟨_, rfl⟩
 rw [hw0.out] at DL ⊢
 have BE : Hid (Below w0.heap.size w0 w0) := Below.refl _ _
 go_wp2
 go_loopw [3, 4] (fun vv iv wr => ∃ i v : Nat, i ≤ L ∧ iv = .int .i64 (i : Int) ∧ vv = .int .i64 (v : Int) ∧ Hid (v ≤ 8000) ∧ Hid (∀ d ∈ ds.take i, NodD d) ∧ Hid (DcsAt F wr ds (.slice da L dc)) ∧ Hid (Below w0.heap.size w0 wr)) (fun _ iv _ => L - (intOf iv).toNat)
 case atStart => exact ⟨0, 0, Nat.zero_le _, rfl, rfl, Nat.zero_le _, fun d hd => by simp at hd, DL, BE⟩
 case round =>
  clear DL BE
  obtain ⟨i, v, hi, rfl, rfl, VB, KI, DL, BE⟩ := hrel
  have l70 := L70.out
  by_cases hlt : i < L
  rotate_left
  ·skip
   go_upto_region 5 with (fail)
   refine lbeg (opsOf Try.f9 5) ?_
   refine lnow 0 (.int .i64 (i : Int)) (some 8) ?_
   refine lnow 1 (.slice da L dc) (some 9) ?_
   refine lnow 2 (.int .i64 (L : Int)) (some 10) ?_
   refine lnow 3 (.bool (decide ((i : Int) < (L : Int)))) (some 11) ?_
   rw [decide_eq_false (show ¬ (i : Int) < (L : Int) by omega)]
   refine ldn 4 ?_
   generalize hact : Act.put _ (some 11) _ = act
   simp only [Act.put, sA, sC, sZ] at hact
   subst hact
   go_upto_region 12 with (fail)
   refine lbeg (opsOf Try.f9 12) ?_
   refine lnow 0 (.bool false) (some 2) ?_
   refine ldn 1 ?_
   generalize hact : Act.put _ (some 2) _ = act
   simp only [Act.put, sA, sC, sZ] at hact
   subst hact
   go_wp2
   go_ret
   exact ⟨false, rfl, (by have h := BE.out; rw [← hw0.out] at h; exact h), fun _ => ⟨l70, fun d hd => KI.out d (by rw [List.take_of_length_le (by have := hL.out; omega)]; exact hd)⟩⟩
  go_upto_region 5 with (fail)
  refine lbeg (opsOf Try.f9 5) ?_
  refine lnow 0 (.int .i64 (i : Int)) (some 8) ?_
  refine lnow 1 (.slice da L dc) (some 9) ?_
  refine lnow 2 (.int .i64 (L : Int)) (some 10) ?_
  refine lnow 3 (.bool (decide ((i : Int) < (L : Int)))) (some 11) ?_
  rw [decide_eq_true (show (i : Int) < (L : Int) by omega)]
  refine ldn 4 ?_
  generalize hact : Act.put _ (some 11) _ = act
  simp only [Act.put, sA, sC, sZ] at hact
  subst hact
  obtain ⟨d, pb, po, cs, hx, hxm, hda, -, hpb, hrx, hdx⟩ := DL.out.get hL.out hlt
  subst hda
  obtain ⟨tc, vc, cv, hform, -, -, hcts⟩ := id hdx
  obtain ⟨ca, cc, rfl⟩ := hcts.slice
  have C15 := Lib.hid hdx.len
  have SX := Lib.hid (SM.out d hxm)
  have RX := Lib.hid hrx
  go_upto_region 7 with (fail)
  refine lbeg (opsOf Try.f9 7) ?_
  refine lnow 0 (.slice (some ⟨pb, po, none⟩) L dc) (some 14) ?_
  refine lnow 1 (.int .i64 (i : Int)) (some 15) ?_
  refine lix 2 (.pointer (some ⟨pb, po + 15 * i, none⟩)) (some 16) 26 14 15 (run_at_dc pb po L dc i hlt _) ?_
  refine lnow 3 (.pointer (some ⟨pb, po + 15 * i + 14, none⟩)) (some 17) ?_
  refine lcl 4 (.slice ca d.ctors.length cc) (some 18) 36 17 pb (po + 15 * i + 14) (hform.cr RX.out) Try.underlying36 ?_
  refine lnow 5 (.int .i64 (d.ctors.length : Int)) (some 19) ?_
  refine lnow 6 (.bool (decide (20 < (d.ctors.length : Int)))) (some 20) ?_
  by_cases h20 : d.ctors.length ≤ 20
  rotate_left
  ·skip
   rw [decide_eq_true (show (20 : Int) < (d.ctors.length : Int) by omega)]
   refine ldn 7 ?_
   generalize hact : Act.put _ (some 20) _ = act
   simp only [Act.put, sA, sC, sZ] at hact
   subst hact
   go_upto_region 8 with (fail)
   refine lbeg (opsOf Try.f9 8) ?_
   refine lnow 0 (.bool true) (some 2) ?_
   refine ldn 1 ?_
   generalize hact : Act.put _ (some 2) _ = act
   simp only [Act.put, sA, sC, sZ] at hact
   subst hact
   go_wp2
   go_ret
   exact ⟨true, rfl, (by have h := BE.out; rw [← hw0.out] at h; exact h), fun h => by cases h⟩
  rw [decide_eq_false (show ¬ (20 : Int) < (d.ctors.length : Int) by omega)]
  refine ldn 7 ?_
  generalize hact : Act.put _ (some 20) _ = act
  simp only [Act.put, sA, sC, sZ] at hact
  subst hact
  clear hform hcts h20
  go_upto_region 9 with (fail)
  refine lbeg (opsOf Try.f9 9) ?_
  refine lnow 0 (.int .i64 (v : Int)) (some 21) ?_
  refine lnow 1 (.slice (some ⟨pb, po, none⟩) L dc) (some 22) ?_
  refine lnow 2 (.int .i64 (i : Int)) (some 23) ?_
  refine lix 3 (.pointer (some ⟨pb, po + 15 * i, none⟩)) (some 24) 26 22 23 (run_at_dc pb po L dc i hlt _) ?_
  refine lrl 4 cs (some 25) 38 24 pb (po + 15 * i) RX.out Try.underlying38 (dcSize C15.out) ?_
  refine lcal 5 30 #[.agg cs.toArray, .int .i64 8000] (some 26) _ (declnodes_walk d cs wr hdx SX.out) ?_
  rintro e w5 ⟨r, rfl, hr8, hrn, hb⟩
  refine ⟨_, rfl, ?_⟩
  have vb := VB.out
  refine lnow 6 (.int .i64 (IntKind.i64.wrap ((v : Int) + (r : Int)))) (some 27) ?_
  rw [nat_wrap (n := v + r) (by omega) (by omega)]
  refine lnow 7 (.int .i64 ((v + r : Nat) : Int)) (some 3) ?_
  refine ldn 8 ?_
  generalize hact : Act.put _ (some 3) _ = act
  simp only [Act.put, sA, sC, sZ] at hact
  subst hact
  have BE5 : Hid (Below w0.heap.size w0 w5) := BE.out.trans (hb.mono BE.out.size)
  have DL5 := Lib.hid (DL.out.below hb)
  go_upto_region 10 with (fail)
  refine lbeg (opsOf Try.f9 10) ?_
  refine lnow 0 (.int .i64 ((v + r : Nat) : Int)) (some 28) ?_
  refine lnow 1 (.bool (decide (8000 < ((v + r : Nat) : Int)))) (some 29) ?_
  by_cases h8 : v + r ≤ 8000
  rotate_left
  ·skip
   rw [decide_eq_true (show (8000 : Int) < ((v + r : Nat) : Int) by omega)]
   refine ldn 2 ?_
   generalize hact : Act.put _ (some 29) _ = act
   simp only [Act.put, sA, sC, sZ] at hact
   subst hact
   go_upto_region 11 with (fail)
   refine lbeg (opsOf Try.f9 11) ?_
   refine lnow 0 (.bool true) (some 2) ?_
   refine ldn 1 ?_
   generalize hact : Act.put _ (some 2) _ = act
   simp only [Act.put, sA, sC, sZ] at hact
   subst hact
   go_wp2
   go_ret
   exact ⟨true, rfl, (by have h := BE5.out; rw [← hw0.out] at h; exact h), fun h => by cases h⟩
  rw [decide_eq_false (show ¬ (8000 : Int) < ((v + r : Nat) : Int) by omega)]
  refine ldn 2 ?_
  generalize hact : Act.put _ (some 29) _ = act
  simp only [Act.put, sA, sC, sZ] at hact
  subst hact
  have KI5 : Hid (∀ d ∈ ds.take (i + 1), NodD d) := take_next_all KI.out hx (hrn (by omega))
  have V5 := Lib.hid h8
  clear hx hxm hpb hrx hdx RX hrn hb vb h8 DL BE KI VB
  go_wp2
  go_roundw
  case rel => exact ⟨i + 1, v + r, by omega, by go_num, rfl, V5, KI5, DL5, BE5⟩
  case measure => simp [intOf]; omega
end Go.Proofs.Yteohjbggicchgaa
namespace Go.Proofs.Yteohjbggicchgaa
open Go Go.RowKit
set_option maxRecDepth 100000
theorem results_cell2 {P : Program} {fn : Func} {p q r : Tmp} {ty : TypeId} (h : fn.results = #[.cell p ty, .tmp q, .tmp r]) (tmps : Array Value) (w : World) (g : Nat) (t : TypeId) (cs : Array Value) (fr : Nat × Nat) (d : TypeDesc) (v u : Value)
    (hp : tmps.getD p undef = .pointer (some ⟨g, 0, none⟩)) (hq : tmps.getD q undef = v) (hr : tmps.getD r undef = u) (hg : w.heap[g]? = some (.cells cs t fr))
    (hu : P.underlying ty = some d) (hd : (match d with | .struct _ | .array _ _ => true | _ => false) = true) (hi : (P.info? ty).map (·.size) = some cs.size) :
    (results fn tmps).run P w = .ok (.tuple #[.agg cs, v, u]) w := by
  have hp' : tmps[p]?.getD undef = .pointer (some ⟨g, 0, none⟩) := by simpa using hp
  have hq' : tmps[q]?.getD undef = v := by simpa using hq
  have hr' : tmps[r]?.getD undef = u := by simpa using hr
  simp [results, h, hp', hq', hr', asAddr, run_loadVar_row w g t ty cs fr d hg hu hd hi]
theorem zD_one : ∀ u ∈ zD, u.oneCell' = true := by
 intro u hu
 simp only [zD, List.mem_cons, List.not_mem_nil, or_false] at hu
 rcases hu with rfl | rfl | rfl | rfl | rfl | rfl | rfl | rfl | rfl | rfl | rfl | rfl | rfl | rfl | rfl <;> rfl
theorem zD_no8 (o : Nat) (z : Int) : zD[o]? ≠ some (.int .u8 z) := by
 intro h
 match o with
 | 0 | 1 | 2 | 3 | 4 | 5 | 6 | 7 | 8 | 9 | 10 | 11 | 12 | 13 | 14 => simp [zD, strT] at h
 | n + 15 => simp [zD] at h
theorem BytesIn.updD {q : Nat} {w w' : World} {v : Value} {zs : List Int} (h : BytesIn w v zs) (hb : Blk w q 38 zD) (hu : Upd q w w') : BytesIn w' v zs := by
 obtain ⟨a, cap, h1, h2, h3⟩ := h
 refine ⟨a, cap, h1, h2, fun hp => ?_⟩
 obtain ⟨pb, po, e, hlt, hr⟩ := h3 hp
 have hne : pb ≠ q := by
  intro hc
  subst hc
  have h0 : (ints .u8 zs)[0]? = some (.int .u8 (zs[0]'hp)) := by
   unfold ints
   rw [List.getElem?_map, List.getElem?_eq_getElem hp]
   rfl
  have h5 := hr 0 _ h0
  rw [Nat.add_zero] at h5
  rw [cell_of_row w pb po zD.toArray 38 (0, 0) hb] at h5
  exact zD_no8 po _ (by simpa using h5)
 exact ⟨pb, po, e, Nat.lt_of_lt_of_le hlt hu.size, fun j u hj => by
  rw [World.cell?_of_block (w := w) (a := ⟨pb, po + j, none⟩) (hu.block pb hlt hne)]
  exact hr j u hj⟩
theorem takedecl1_walk (q : Nat) (w : World) (l : List Int) (m : Nat) (h : RdAt q w l m) : Calls Try.prog 56 #[.pointer (some ⟨q, 0, none⟩)] w (RdM q (declP l) RDc w) := by
 obtain ⟨B, hB⟩ : ∃ B, Hid (w.heap.size = B) := ⟨_, rfl⟩
 have QB : Hid (q < B) := by rw [← hB.out]; exact h.lt
 have H := Lib.hid h
 clear h
 go_enter Try.func56, Try.ntmps56
 go_upto_region 0 with (fail)
 refine lbeg (opsOf Try.f56 0) ?_
 refine lin_alloc 0 38 zD B (some 2) (by kernel_rfl) (by kernel_rfl) (by kernel_rfl) zeroDc hB ?_
 intro w1 b1 be1 hs1
 refine ldn 1 ?_
 generalize hact : Act.put _ (some 2) _ = act
 simp only [Act.put, sA, sC, sZ] at hact
 subst hact
 have RD := Lib.hid (H.out.below be1 QB.out)
 have BR := Lib.hid b1
 have BE := Lib.hid be1
 clear b1 be1 hs1 H
 have CALL := decl_walkR q w1 l m RD.out
 go_upto_region 1 with (fail)
 refine lbeg (opsOf Try.f56 1) ?_
 refine lnow 0 (.pointer (some ⟨q, 0, none⟩)) (some 3) ?_
 cases hn : declP l with
 | none =>
  rw [hn] at CALL
  refine lin_callP 1 57 #[.pointer (some ⟨q, 0, none⟩)] (some 4) _ (by kernel_rfl) (by kernel_rfl) (by kernel_rfl) (CALL) ?_
  rintro e w' ⟨hb, hr⟩
  obtain rfl : e = fellF := hr
  exact .inr ⟨_, rfl, rfl, RdM.no (by rw [hB.out]; exact (Bel.of BE.out).trans (hb.mono (Nat.le_of_lt BR.out.lt))) rfl⟩
 | some y =>
  obtain ⟨d, r⟩ := y
  rw [hn] at CALL
  refine lin_callP 1 57 #[.pointer (some ⟨q, 0, none⟩)] (some 4) _ (by kernel_rfl) (by kernel_rfl) (by kernel_rfl) (CALL) ?_
  rintro e w2 ⟨hb, v, m2, rfl, ⟨cs, rfl, hdc⟩, hr⟩
  refine .inl ⟨_, rfl, ?_⟩
  have qb := QB.out
  have S1 := BR.out.lt
  have BR2 : Hid (Blk w2 B 38 zD) := bel_keep hb BR.out (by omega) S1
  have C15 := Lib.hid hdc.len
  have ONE := Lib.hid hdc.one
  refine lput 2 38 (.tmp 2) (.tmp 4) B _ zD cs BR2.out (C15.out.trans (rfl : 15 = zD.length)) (dcSize C15.out) (by simpa using ONE.out) ?_
  intro w3 b3 u3
  refine ldn 3 ?_
  generalize hact : Act.put _ none _ = act
  simp only [Act.put, sA, sC, sZ] at hact
  subst hact
  have POST : Hid (RdM q (declP l) RDc w (.returned (.agg cs.toArray)) w3) := RdM.yes (by rw [hB.out]; exact ((Bel.of BE.out).trans (hb.mono (Nat.le_of_lt S1))).newBlk u3 (Nat.le_refl _) (Nat.le_of_lt BR2.out.lt)) hn ⟨cs, rfl, (hdc.step (Step.of_upd u3 (List.mem_range.2 S1))).sub (fun k hk => .inl (List.mem_range.2 (by have := List.mem_range.1 hk; have := hB.out; omega)))⟩ (hr.upd u3 qb)
  have HB3 := Lib.hid b3
  clear b3 u3 hdc hr hb CALL
  go_wp2
  refine bodyPost_ret (v := .agg cs.toArray) ?_ rfl POST.out
  exact results_cell_row (g := B) (t := 38) (cs := cs.toArray) (fr := (0, 0)) Try.results56 _ _ _ rfl HB3.out Try.underlying38 rfl (by rw [List.size_toArray]; exact dcSize C15.out)
set_option maxHeartbeats 4000000 in
theorem taken_catchD (k : Int) (older : List PanicEntry) (w : World) : CallsD Try.prog 80 #[] (.panicking ({ v := .iface 101 (.int .i64 k), recovered := false } :: older)) w fun e u' w' => e = .returned (.tuple #[]) ∧ u' = .panicking ({ v := .iface 101 (.int .i64 k), recovered := true } :: older) ∧ w' = w := by
 refine callsD_of_wpS Try.func80 rfl fun c₀ cs hu => ?_
 apply wpS_seq
 apply wpS_region
 simp [wpOpsS, go_sem, recoverD, hu, Try.ntmps80, Exit.thenS]
 refine wpS_of_wp ?_
 simp only [Array.replicate_succ, Array.replicate_zero, List.push_toArray, List.nil_append, List.cons_append, List.setIfInBounds_toArray, List.set_cons_succ, List.set_cons_zero]
 go_upto_region 1 with (fail)
 refine lbeg (opsOf Try.f80 1) ?_
 refine lnow 0 (.iface 101 (.int .i64 k)) (some 5) ?_
 refine lnow 1 (.tuple #[.int .i64 k, .bool true]) (some 6) ?_
 refine lnow 2 (.tuple #[.int .i64 k, .bool true]) (some 4) ?_
 refine lnow 3 (.int .i64 k) (some 7) ?_
 refine lnow 4 (.bool true) (some 8) ?_
 refine lnow 5 (.int .i64 k) (some 1) ?_
 refine lnow 6 (.bool true) (some 2) ?_
 refine ldn 7 ?_
 generalize hact : Act.put _ (some 2) _ = act
 simp only [Act.put, sA, sC, sZ] at hact
 subst hact
 go_upto_region 2 with (fail)
 refine lbeg (opsOf Try.f80 2) ?_
 refine lnow 0 (.iface 101 (.int .i64 k)) (some 9) ?_
 refine lnow 1 (.bool true) (some 10) ?_
 refine lnow 2 (.bool true) (some 11) ?_
 refine lnow 3 (.bool true) (some 12) ?_
 refine lnow 4 (.bool false) (some 13) ?_
 refine lnow 5 (.bool false) (some 14) ?_
 refine ldn 6 ?_
 generalize hact : Act.put _ (some 14) _ = act
 simp only [Act.put, sA, sC, sZ] at hact
 subst hact
 go_wp2
 simp [bodyPostS, results, Try.results80]
set_option maxHeartbeats 4000000 in
theorem taken_idleD (w : World) : CallsD Try.prog 80 #[] .returning w fun e u' w' => e = .returned (.tuple #[]) ∧ u' = .returning ∧ w' = w := by
 refine callsD_of_wpS Try.func80 rfl fun c₀ cs hu => ?_
 apply wpS_seq
 apply wpS_region
 simp [wpOpsS, go_sem, recoverD, hu, Try.ntmps80, Exit.thenS]
 refine wpS_of_wp ?_
 simp only [Array.replicate_succ, Array.replicate_zero, List.push_toArray, List.nil_append, List.cons_append, List.setIfInBounds_toArray, List.set_cons_succ, List.set_cons_zero]
 go_upto_region 1 with (fail)
 refine lbeg (opsOf Try.f80 1) ?_
 refine lnow 0 (.nilIface) (some 5) ?_
 refine lnow 1 (.tuple #[.int .i64 0, .bool false]) (some 6) ?_
 refine lnow 2 (.tuple #[.int .i64 0, .bool false]) (some 4) ?_
 refine lnow 3 (.int .i64 0) (some 7) ?_
 refine lnow 4 (.bool false) (some 8) ?_
 refine lnow 5 (.int .i64 0) (some 1) ?_
 refine lnow 6 (.bool false) (some 2) ?_
 refine ldn 7 ?_
 generalize hact : Act.put _ (some 2) _ = act
 simp only [Act.put, sA, sC, sZ] at hact
 subst hact
 go_upto_region 2 with (fail)
 refine lbeg (opsOf Try.f80 2) ?_
 refine lnow 0 (.nilIface) (some 9) ?_
 refine lnow 1 (.bool false) (some 10) ?_
 refine lnow 2 (.bool false) (some 11) ?_
 refine lpas 3 (some 12) ?_
 refine lpas 4 (some 13) ?_
 refine lnow 5 (.bool false) (some 14) ?_
 refine ldn 6 ?_
 generalize hact : Act.put _ (some 14) _ = act
 simp only [Act.put, sA, sC, sZ] at hact
 subst hact
 go_wp2
 cases c₀
 simp_all [bodyPostS, results, Try.results80]
set_option maxHeartbeats 4000000 in
theorem taken_walkD (b : Value) (l : List Int) (w : World) (h : BytesIn w b l) (hi : isB l) (hl : l.length ≤ 1000000000) : Calls Try.prog 55 #[b, .func (.func 56) #[] #[]] w (TkP (declP l) RDc (.agg zD.toArray) w) := by
 obtain ⟨q, hq⟩ : ∃ q, Hid (w.heap.size = q) := ⟨_, rfl⟩
 obtain ⟨ba, bc, rfl, -⟩ := id h
 have HB := Lib.hid h
 have HI := Lib.hid hi
 have HL := Lib.hid hl
 clear h hi hl
 go_enter_defers Try.func55, Try.ntmps55
 go_upto_region 0 with (fail)
 refine lbeg (opsOf Try.f55 0) ?_
 refine lin_alloc 0 38 zD q (some 4) (by kernel_rfl) (by kernel_rfl) (by kernel_rfl) zeroDc hq ?_
 intro wa bA beA hsA
 refine lnow 1 (.slice none 0 0) (some 5) ?_
 refine lnow 2 (.bool false) (some 6) ?_
 refine ldn 3 ?_
 generalize hact : Act.put _ (some 6) _ = act
 simp only [Act.put, sA, sC, sZ] at hact
 subst hact
 obtain ⟨p, hp⟩ : ∃ p, Hid (wa.heap.size = p) := ⟨_, rfl⟩
 have QP : Hid (q < p) := by have := bA.lt; have := hp.out; rw [Hid]; omega
 have BA := Lib.hid bA
 have BEA := Lib.hid beA
 have HB := Lib.hid (HB.out.below (by rw [hq.out]; exact BEA.out) (Nat.le_refl _))
 clear bA beA hsA
 go_upto_region 2 with (fail)
 refine lbeg (opsOf Try.f55 2) ?_
 refine lnow 0 (.slice ba l.length bc) (some 8) ?_
 refine lnow 1 (.agg ([.slice ba l.length bc, .int .i64 0] : List Value).toArray) (some 9) ?_
 refine lall 2 87 [.slice none 0 0, .int .i64 0] p (some 7) hp ?_
 intro w0 b0 be0 hs0
 refine lput 3 87 (.tmp 7) (.tmp 9) p _ [.slice none 0 0, .int .i64 0] [.slice ba l.length bc, .int .i64 0] b0 rfl (by kernel_rfl) (by simpa using (by intro u hu; simp only [List.mem_cons, List.not_mem_nil, or_false] at hu; rcases hu with rfl | rfl <;> rfl : ∀ u ∈ ([.slice ba l.length bc, .int .i64 0] : List Value), u.oneCell' = true)) ?_
 intro w1 b1 u1
 refine ldn 4 ?_
 generalize hact : Act.put _ none _ = act
 simp only [Act.put, sA, sC, sZ] at hact
 subst hact
 have B01 : Below p wa w1 := u1.below be0 (Nat.le_refl _) (by have := hs0.out; omega)
 have S1 : Hid (p < w1.heap.size) := b1.lt
 have RD : Hid (RdAt p w1 l 0) := ⟨.slice ba l.length bc, b1, (BytesLt.of HB.out).at hp.out B01, HI.out, HL.out⟩
 have qp := QP.out
 have BE : Hid (Below q w w1) := BEA.out.trans (B01.mono (Nat.le_of_lt qp))
 have BA := Lib.hid (BA.out.below B01 qp)
 clear b0 be0 hs0 b1 u1 B01
 have CALL := takedecl1_walk p w1 l 0 RD.out
 go_upto_region 3 with (fail)
 refine lbeg (opsOf Try.f55 3) ?_
 refine lnow 0 (.func (.func 56) #[] #[]) (some 10) ?_
 obtain ⟨oo, hoo⟩ : ∃ oo, Hid (declP l = oo) := ⟨_, rfl⟩
 rw [hoo.out] at CALL ⊢
 cases oo with
 | none =>
  refine lin_callP 1 56 #[.pointer (some ⟨p, 0, none⟩)] (some 11) _ (by kernel_rfl) (by kernel_rfl) (by kernel_rfl) (CALL) ?_
  rintro e w2 ⟨hb, hr⟩
  obtain rfl : e = fellF := hr
  refine .inr ⟨_, rfl, ?_⟩
  have BA2 : Hid (Blk w2 q 38 zD) := bel_keep hb BA.out (by omega) BA.out.lt
  refine leaves_cons (f := 80) (args := #[]) (by simp) (by kernel_rfl) ?_
  refine (taken_catchD 10 [] w2).mono ?_
  rintro e u' w3 ⟨rfl, rfl, rfl⟩
  refine ⟨.tuple #[.agg zD.toArray, .slice none 0 0, .bool false], ?_, TkP.no ?_ rfl⟩
  ·exact results_cell2 Try.results55 _ _ q 38 zD.toArray (0, 0) _ _ _ rfl rfl rfl BA2.out Try.underlying38 rfl (dcSize rfl)
  ·rw [hq.out]
   exact BE.out.trans (Bel.below (hb.mono (Nat.le_of_lt S1.out)) (fun k hk => by rw [List.mem_singleton.1 hk]; exact Nat.le_refl _) |>.mono (Nat.le_of_lt qp))
 | some y =>
  obtain ⟨x, r⟩ := y
  refine lin_callP 1 56 #[.pointer (some ⟨p, 0, none⟩)] (some 11) _ (by kernel_rfl) (by kernel_rfl) (by kernel_rfl) (CALL) ?_
  rintro e w2 ⟨hb, v, m2, rfl, ⟨cs, rfl, hdc⟩, hr⟩
  refine .inl ⟨_, rfl, ?_⟩
  have BA2 : Hid (Blk w2 q 38 zD) := bel_keep hb BA.out (by omega) BA.out.lt
  have BE2 : Hid (Below q w w2) := BE.out.trans (Bel.below (hb.mono (Nat.le_of_lt S1.out)) (fun k hk => by rw [List.mem_singleton.1 hk]; exact Nat.le_refl _) |>.mono (Nat.le_of_lt qp))
  obtain ⟨vb, hblk, hby, hisB, hlen⟩ := hr
  have BQ := Lib.hid hblk
  have BY := Lib.hid hby
  have LL := Lib.hid hlen
  have S2 : Hid (w1.heap.size ≤ w2.heap.size) := hb.size
  have C15 := Lib.hid hdc.len
  have ONE := Lib.hid hdc.one
  have DX := Lib.hid hdc
  clear hb hblk hby hisB hlen CALL hdc
  refine lput 2 38 (.tmp 4) (.tmp 11) q _ zD cs BA2.out (C15.out.trans (rfl : 15 = zD.length)) (dcSize C15.out) (by simpa using ONE.out) ?_
  intro w3 b3 u3
  refine ldn 3 ?_
  generalize hact : Act.put _ none _ = act
  simp only [Act.put, sA, sC, sZ] at hact
  subst hact
  have BA3 := Lib.hid b3
  have BQ3 := Lib.hid (u3.blk BQ.out (by omega))
  have S3 : Hid (p < w3.heap.size) := BQ3.out.lt
  have BY3 : Hid (BytesIn w3 vb r) := (BytesLt.in BY.out).updD BA2.out u3
  have DX3 : Hid (DcAt (List.range p) w3 x cs) := (DX.out.sub (fun k hk => .inl (List.mem_range.2 (by have := List.mem_range.1 hk; have := S1.out; omega)))).step (Step.of_upd u3 (List.mem_range.2 qp))
  have BE3 : Hid (Below q w w3) := u3.below BE2.out (Nat.le_refl _) (by have := BQ.out.lt; omega)
  clear b3 u3 BA2 BQ BY DX BE2
  go_upto_region 4 with (fail)
  refine region_begin (opsOf Try.f55 4) (fun W' => Blk W' q 38 cs ∧ Blk W' p 87 [vb, .int .i64 (m2 : Int)]) (by kernel_rfl) (by kernel_rfl) 7 (by kernel_rfl) ?_
  intro Q' hQN hN
  have HS : Blk w3.drew q 38 cs ∧ Blk w3.drew p 87 [vb, .int .i64 (m2 : Int)] := ⟨BA3.out, BQ3.out⟩
  have HD : Below w3.heap.size w3 w3.drew := (Below.refl _ _).drew
  have BY4 := Lib.hid (BY3.out.below HD (Nat.le_refl _))
  have DX4 := Lib.hid (DX3.out.below HD)
  have BE4 : Hid (Below q w w3.drew) := BE3.out.trans (HD.mono (by have := S3.out; omega))
  have S4 : Hid (p < w3.drew.heap.size) := S3.out
  clear HD
  generalize w3.drew = wd at HS BY4 DX4 BE4 S4 ⊢
  refine reg_now 1 (.pointer (some ⟨p, 0, none⟩)) (some 13) hQN HS (by kernel_rfl) (by kernel_rfl) (fun w => by kernel_rfl) ?_
  refine reg_nowIf 0 (.agg cs.toArray) (some 12) hQN HS (by kernel_rfl) (by kernel_rfl) (fun w' hw => exec_load_mid 38 (.tmp 4) (by kernel_rfl) q 0 (by kernel_rfl) cs _ hw.1.whole Try.underlying38 rfl (dcSize C15.out)) ?_
  refine reg_nowIf 2 (vb) (some 14) hQN HS (by kernel_rfl) (by kernel_rfl) (fun w' hw => exec_load_cell 30 (.tmp 13) (by kernel_rfl) p 0 (by kernel_rfl) _ (hw.2.cell rfl) _ Try.underlying30 rfl) ?_
  refine reg_call 3 75 #[vb] (some 15) _ (by kernel_rfl) (by kernel_rfl) (by kernel_rfl) (bclone_walk vb r wd BY4.out LL.out) ?_
  rintro e w5 ⟨v5, rfl, r5, hb5⟩
  have HS5 : Blk w5 q 38 cs ∧ Blk w5 p 87 [vb, .int .i64 (m2 : Int)] := ⟨HS.1.below hb5 HS.1.lt, HS.2.below hb5 HS.2.lt⟩
  refine ⟨_, rfl, HS5, ?_⟩
  refine reg_putT 4 38 (.tmp 4) (.tmp 12) q 38 cs cs (by kernel_rfl) (by kernel_rfl) (by kernel_rfl) (by kernel_rfl) (by kernel_rfl) HS5.1 rfl (dcSize C15.out) (by simpa using ONE.out) ?_
  intro w6 b6 u6
  have HS6 : Blk w6 q 38 cs ∧ Blk w6 p 87 [vb, .int .i64 (m2 : Int)] := ⟨b6, u6.blk HS5.2 (by omega)⟩
  refine ⟨HS6, ?_⟩
  refine reg_now 5 (v5) (some 5) hQN HS6 (by kernel_rfl) (by kernel_rfl) (fun w => by kernel_rfl) ?_
  refine reg_now 6 (.bool true) (some 6) hQN HS6 (by kernel_rfl) (by kernel_rfl) (fun w => by kernel_rfl) ?_
  have R6 : Hid (RowB q w6 v5 r) := (r5.step (Step.of_upd u6 (List.mem_singleton.2 rfl)) (fun g hg hc => by have e := List.mem_singleton.1 hc; have h1 := (r5.own g hg).1; have := S4.out; omega)).mono (by have := S4.out; omega)
  have DX6 : Hid (DcAt (List.range p) w6 x cs) := (DX4.out.below hb5).step (Step.of_upd u6 (List.mem_range.2 qp))
  have BE6 : Hid (Below q w w6) := u6.below (BE4.out.trans (hb5.mono (by have := S4.out; omega))) (Nat.le_refl _) (by have := HS5.2.lt; omega)
  have HB6 := Lib.hid b6
  refine reg_done (by kernel_rfl) (hN _ _ ?_)
  generalize hact : Act.put _ (some 6) _ = act
  simp only [Act.put, sA, sC, sZ] at hact
  subst hact
  clear HS HS5 HS6 b6 u6 r5 hb5 hQN hN
  have POST : Hid (TkP (some (x, r)) RDc (.agg zD.toArray) w (.returned (.tuple #[.agg cs.toArray, v5, .bool true])) w6) := TkP.yes (by rw [hq.out]; exact BE6.out) rfl ⟨cs, rfl, DX6.out.sub (fun k hk => .inl (List.mem_range.2 (by have := List.mem_range.1 hk; have := hq.out; omega)))⟩ (by rw [hq.out]; exact R6.out)
  go_wp2
  refine leaves_cons (f := 80) (args := #[]) (by simp) (by kernel_rfl) ?_
  refine (taken_idleD w6).mono ?_
  rintro e u' w7 ⟨rfl, rfl, rfl⟩
  refine ⟨.tuple #[.agg cs.toArray, v5, .bool true], ?_, ?_⟩
  ·exact results_cell2 Try.results55 _ _ q 38 cs.toArray (0, 0) _ _ _ rfl rfl rfl HB6.out Try.underlying38 rfl (by rw [List.size_toArray]; exact dcSize C15.out)
  ·rw [hoo.out]
   exact POST.out
set_option maxHeartbeats 4000000 in
theorem TakeDecl_walk (b : Value) (l : List Int) (w : World) (h : BytesIn w b l) (hi : isB l) (hl : l.length ≤ 1000000000) : Calls Try.prog 27 #[b] w (TkP (declP l) RDc (.agg zD.toArray) w) := by
 obtain ⟨q, hq⟩ : ∃ q, Hid (w.heap.size = q) := ⟨_, rfl⟩
 have HB := Lib.hid h
 clear h
 go_enter Try.func27, Try.ntmps27
 go_upto_region 0 with (fail)
 refine lbeg (opsOf Try.f27 0) ?_
 refine lin_alloc 0 38 zD q (some 2) (by kernel_rfl) (by kernel_rfl) (by kernel_rfl) zeroDc hq ?_
 intro w1 b1 be1 hs1
 refine lnow 1 (.slice none 0 0) (some 3) ?_
 refine lnow 2 (.bool false) (some 4) ?_
 refine ldn 3 ?_
 generalize hact : Act.put _ (some 4) _ = act
 simp only [Act.put, sA, sC, sZ] at hact
 subst hact
 have BA := Lib.hid b1
 have BE := Lib.hid be1
 have S1 := b1.lt
 have CALL := taken_walkD b l w1 (HB.out.below (by rw [hq.out]; exact be1) (Nat.le_refl _)) hi hl
 clear b1 be1 hs1 hi hl
 go_upto_region 1 with (fail)
 refine lbeg (opsOf Try.f27 1) ?_
 refine lnow 0 (b) (some 5) ?_
 cases hn : declP l with
 | none =>
  rw [hn] at CALL
  refine lcal 1 55 #[b, .func (.func 56) #[] #[]] (some 6) _ (CALL) ?_
  rintro e w2 ⟨hb, rfl⟩
  refine ⟨_, rfl, ?_⟩
  refine lnow 2 (.agg (zD).toArray) (some 7) ?_
  refine lnow 3 (.slice none 0 0) (some 8) ?_
  refine lnow 4 (.bool false) (some 9) ?_
  have BA2 := Lib.hid (BA.out.below hb S1)
  refine lput 5 38 (.tmp 2) (.tmp 7) q _ zD (zD) BA2.out ((rfl : zD.length = 15).trans (rfl : 15 = zD.length)) (dcSize (rfl : zD.length = 15)) (by simpa using zD_one) ?_
  intro w3 b3 u3
  refine lnow 6 (.slice none 0 0) (some 3) ?_
  refine lnow 7 (.bool false) (some 4) ?_
  refine ldn 8 ?_
  generalize hact : Act.put _ (some 4) _ = act
  simp only [Act.put, sA, sC, sZ] at hact
  subst hact
  have BE3 : Hid (Below w.heap.size w w3) := by rw [Hid, hq.out]; exact u3.below (BE.out.trans (hb.mono (Nat.le_of_lt S1))) (Nat.le_refl _) (by have := hb.size; omega)
  have HB3 := Lib.hid b3
  have POST : Hid (TkP (declP l) RDc (.agg zD.toArray) w (.returned (.tuple #[.agg zD.toArray, .slice none 0 0, .bool false])) w3) := TkP.no BE3.out hn
  clear b3 u3 hb
  go_wp2
  refine bodyPost_ret (v := .tuple #[.agg (zD).toArray, .slice none 0 0, .bool false]) ?_ rfl POST.out
  exact results_cell2 Try.results27 _ _ q 38 (zD).toArray (0, 0) _ _ _ rfl rfl rfl HB3.out Try.underlying38 rfl (by rw [List.size_toArray]; exact dcSize (rfl : zD.length = 15))
 | some y =>
  obtain ⟨x, r⟩ := y
  rw [hn] at CALL
  refine lcal 1 55 #[b, .func (.func 56) #[] #[]] (some 6) _ (CALL) ?_
  rintro e w2 ⟨hb, v, v', rfl, ⟨cs, rfl, hdc⟩, hr⟩
  refine ⟨_, rfl, ?_⟩
  have C15 := Lib.hid hdc.len
  have ONE := Lib.hid hdc.one
  refine lnow 2 (.agg (cs).toArray) (some 7) ?_
  refine lnow 3 (v') (some 8) ?_
  refine lnow 4 (.bool true) (some 9) ?_
  have BA2 := Lib.hid (BA.out.below hb S1)
  refine lput 5 38 (.tmp 2) (.tmp 7) q _ zD (cs) BA2.out (C15.out.trans (rfl : 15 = zD.length)) (dcSize C15.out) (by simpa using ONE.out) ?_
  intro w3 b3 u3
  refine lnow 6 (v') (some 3) ?_
  refine lnow 7 (.bool true) (some 4) ?_
  refine ldn 8 ?_
  generalize hact : Act.put _ (some 4) _ = act
  simp only [Act.put, sA, sC, sZ] at hact
  subst hact
  have BE3 : Hid (Below w.heap.size w w3) := by rw [Hid, hq.out]; exact u3.below (BE.out.trans (hb.mono (Nat.le_of_lt S1))) (Nat.le_refl _) (by have := hb.size; omega)
  have HB3 := Lib.hid b3
  have POST : Hid (TkP (declP l) RDc (.agg zD.toArray) w (.returned (.tuple #[.agg cs.toArray, v', .bool true])) w3) := TkP.yes BE3.out hn ⟨cs, rfl, (hdc.step (Step.of_upd u3 (List.mem_range.2 S1))).sub (fun k hk => .inl (List.mem_range.2 (by have := List.mem_range.1 hk; have := hq.out; omega)))⟩ ((hr.step (Step.of_upd u3 (List.mem_singleton.2 rfl)) (fun g hg hc => by have e := List.mem_singleton.1 hc; have h1 := (hr.own g hg).1; omega)).mono (by have := hq.out; omega))
  clear b3 u3 hb
  go_wp2
  refine bodyPost_ret (v := .tuple #[.agg (cs).toArray, v', .bool true]) ?_ rfl POST.out
  exact results_cell2 Try.results27 _ _ q 38 (cs).toArray (0, 0) _ _ _ rfl rfl rfl HB3.out Try.underlying38 rfl (by rw [List.size_toArray]; exact dcSize C15.out)
end Go.Proofs.Yteohjbggicchgaa
namespace Go.Proofs.Yteohjbggicchgaa
open Go Go.RowKit
set_option maxRecDepth 100000
-- every encoding is of bytes
theorem isB.nil : isB [] := fun z hz => by cases hz
theorem isB.app {a b : List Int} (ha : isB a) (hb : isB b) : isB (a ++ b) := fun z hz => (List.mem_append.1 hz).elim (ha z) (hb z)
theorem isB.cons {z : Int} {a : List Int} (hz : 0 ≤ z ∧ z < 256) (ha : isB a) : isB (z :: a) := fun y hy => (List.mem_cons.1 hy).elim (fun e => by rw [e]; exact hz) (ha y)
theorem isB.mod (z : Int) {a : List Int} (ha : isB a) : isB ((z % 256) :: a) := isB.cons (by omega) ha
theorem isB.flat {α : Type} {f : α → List Int} : ∀ {l : List α}, (∀ x ∈ l, isB (f x)) → isB (l.map f).flatten
 | [], _ => isB.nil
 | x :: l, h => by
  rw [List.map_cons, List.flatten_cons]
  exact isB.app (h x (by simp)) (isB.flat fun y hy => h y (by simp [hy]))
theorem digs_len8 : ∀ f n, (digs f n).length ≤ f
 | 0, _ => by simp [digs]
 | f + 1, n => by
  rw [digs]
  split
  ·simp
  ·have := digs_len8 f (n / 256)
   simp only [List.length_append, List.length_singleton]
   omega
theorem numB_isB (n : Nat) : isB (numB n) := by
 rw [numB]
 refine isB.cons ?_ (digs_isB 8 n)
 have := digs_len8 8 n
 omega
theorem strB_isB (s : List UInt8) : isB (strB s) := fun z hz => by
 unfold strB at hz
 obtain ⟨u, -, rfl⟩ := List.mem_map.1 hz
 have := u.toNat_lt
 omega
theorem textB_isB (s : List UInt8) : isB (textB s) := isB.app (numB_isB _) (strB_isB s)
theorem levelB_isB (l : Lv) : isB (levelB l) := isB.mod _ fun z hz => by
 obtain ⟨u, -, rfl⟩ := List.mem_map.1 hz
 omega
theorem termsB_isB : ∀ {a : List Tm}, (∀ x ∈ a, isB (termB x)) → isB (termsB a)
 | [], _ => by rw [termsB]; exact isB.nil
 | t :: ts, h => by
  rw [termsB]
  exact isB.app (h t (by simp)) (termsB_isB fun x hx => h x (by simp [hx]))
theorem termB_isB : ∀ t : Tm, isB (termB t) := by
 refine Tm.byParts fun k n s l a ih => ?_
 rw [termB]
 refine isB.mod _ (isB.app ?_ (isB.app ?_ (isB.app ?_ (isB.app (isB.flat fun x _ => levelB_isB x) (termsB_isB ih)))))
 ·split
  ·exact numB_isB _
  ·exact isB.nil
 ·split
  ·exact textB_isB _
  ·exact isB.nil
 ·split
  ·exact isB.cons (by omega) isB.nil
  ·exact isB.nil
theorem ctorB_isB (c : List UInt8 × Tm) : isB (ctorB c) := isB.app (textB_isB _) (termB_isB _)
theorem declB_isB (d : Dc) : isB (declB d) := by
 rw [declB]
 refine isB.mod _ (isB.app (textB_isB _) (isB.mod _ (isB.app (termB_isB _) (isB.app ?_ ?_))))
 ·split
  ·exact termB_isB _
  ·exact isB.nil
 ·split
  ·exact isB.mod _ (isB.cons (by omega) (isB.flat fun x _ => ctorB_isB x))
  ·exact isB.nil
theorem dsB_isB (ds : List Dc) : isB (dsB ds) := isB.flat fun x _ => declB_isB x
theorem decl_cut {d : Dc} {c : Nat} (hf : formB d = true) (hl : LvD d) (hc : c < (declB d).length) : declP ((declB d).take c) = none := by
 cases h : declP ((declB d).take c) with
 | none => rfl
 | some y =>
  obtain ⟨e, r⟩ := y
  obtain ⟨h1, h2, h3⟩ := declP_sound ((declB_isB d).take c) h
  have h4 : declB d ++ [] = declB e ++ (r ++ (declB d).drop c) := by
   rw [← List.append_assoc, ← h1, List.take_append_drop, List.append_nil]
  have h5 := (decl_pf (form_iff.1 hf) (form_iff.1 h2) hl h3.lv h4).2
  have h6 := congrArg List.length h5
  simp only [List.length_nil, List.length_append, List.length_drop] at h6
  omega
theorem libV_one {d : Dc} (hf : formB d = true) : libOk [d] = true ∧ libV [d] = numB 1 ++ dsB [d] := by
 have h : libOk [d] = true := by
  unfold libOk
  simp [hf]
 refine ⟨h, ?_⟩
 unfold libV
 rw [if_pos h]
 rfl
theorem lib_cut {d : Dc} {c : Nat} (hf : formB d = true) (hl : LvD d) (hc : c < (libV [d]).length) : libP ((libV [d]).take c) = none := by
 rw [(libV_one hf).2] at hc ⊢
 cases h : libP ((numB 1 ++ dsB [d]).take c) with
 | none => rfl
 | some es =>
  obtain ⟨h1, h2, h3⟩ := libP_sound ((isB.app (numB_isB 1) (dsB_isB [d])).take c) h
  unfold libOk at h2
  simp only [Bool.and_eq_true, decide_eq_true_eq, List.all_eq_true] at h2
  have h4 : libB [d] ++ [] = libB es ++ (numB 1 ++ dsB [d]).drop c := by
   rw [show libB es = numB es.length ++ dsB es from rfl, ← h1, List.take_append_drop, List.append_nil]
   rfl
  have h5 := (lib_pf (ds := [d]) (by simp) h2.1 (fun x hx => by rw [List.mem_singleton.1 hx]; exact ⟨form_iff.1 hf, hl⟩) (fun x hx => ⟨form_iff.1 (h2.2 x hx), (h3 x hx).lv⟩) h4).2
  have h6 := congrArg List.length h5
  rw [List.length_drop] at h6
  simp only [List.length_nil] at h6
  omega
theorem declV_yes {d : Dc} (hf : formB d = true) : declV d = declB d := by unfold declV; rw [if_pos hf]
theorem libV_len {d : Dc} (hf : formB d = true) : (libV [d]).length = 2 + (declB d).length := by
 rw [(libV_one hf).2, List.length_append, show (numB 1).length = 2 by kernel_rfl, dsB]
 simp
theorem run_build_dcx (k p : Int) (s : ByteArray) (k1 n1 : Int) (s1 : ByteArray) (a1 : Option Addr) (l1 c1 : Nat) (a2 : Option Addr) (l2 c2 : Nat) (k2 n2 : Int) (s2 : ByteArray) (a3 : Option Addr) (l3 c3 : Nat) (a4 : Option Addr) (l4 c4 : Nat) (f : Int) (a5 : Option Addr) (l5 c5 : Nat) (w : World) :
    (Instr.buildSlice 26 1 #[(0, .agg (([.int .i64 k, .int .i64 p, .string s] : List Value) ++ (([.int .i64 k1, .int .i64 n1, .string s1, .slice a1 l1 c1, .slice a2 l2 c2] : List Value) ++ (([.int .i64 k2, .int .i64 n2, .string s2, .slice a3 l3 c3, .slice a4 l4 c4] : List Value) ++ ([.int .i64 f, .slice a5 l5 c5] : List Value)))).toArray)]).run Try.prog w = .ok (.slice (some ⟨w.heap.size, 0, none⟩) 1 1) (w.alloc (.cells (([.int .i64 k, .int .i64 p, .string s] : List Value) ++ (([.int .i64 k1, .int .i64 n1, .string s1, .slice a1 l1 c1, .slice a2 l2 c2] : List Value) ++ (([.int .i64 k2, .int .i64 n2, .string s2, .slice a3 l3 c3, .slice a4 l4 c4] : List Value) ++ ([.int .i64 f, .slice a5 l5 c5] : List Value)))).toArray 38)) := by kernel_rfl
theorem run_build_dc1 {F : List Nat} {w : World} {d : Dc} {cs : List Value} (h : DcAt F w d cs) (w' : World) : (Instr.buildSlice 26 1 #[(0, .agg cs.toArray)]).run Try.prog w' = .ok (.slice (some ⟨w'.heap.size, 0, none⟩) 1 1) (w'.alloc (.cells cs.toArray 38)) := by
 obtain ⟨tc, vc, cv, h1, h2, h3, h4⟩ := h
 obtain ⟨la, av, rfl, g1, g2⟩ := h2.open
 obtain ⟨lb, bv, rfl, g3, g4⟩ := h3.open
 obtain ⟨a1, c1, rfl⟩ := g1.slice
 obtain ⟨a2, c2, rfl⟩ := g2.slice
 obtain ⟨a3, c3, rfl⟩ := g3.slice
 obtain ⟨a4, c4, rfl⟩ := g4.slice
 obtain ⟨a5, c5, rfl⟩ := h4.slice
 rw [h1.e]
 exact run_build_dcx _ _ _ _ _ _ _ _ _ _ _ _ _ _ _ _ _ _ _ _ _ _ _ _ _ _
set_option maxHeartbeats 8000000 in
theorem cuts_main {F : List Nat} (d : Dc) (cs : List Value) (cut : Int) (w : World) (hd : DcAt F w d cs) (hs : SmD d) : Calls Try.prog 6 #[.agg cs.toArray, .int .i64 cut] w fun e w' => e = .returned (.bool true) ∧ Below w.heap.size w w' := by
 obtain ⟨q, hq⟩ : ∃ q, Hid (w.heap.size = q) := ⟨_, rfl⟩
 have C15 := Lib.hid hd.len
 have ONE := Lib.hid hd.one
 have LVD := Lib.hid hd.lv
 have DX := Lib.hid hd
 have SM := Lib.hid hs
 clear hd hs
 go_enter Try.func6, Try.ntmps6
 go_upto_region 0 with (fail)
 refine lbeg (opsOf Try.f6 0) ?_
 refine lbox 0 38 (.tmp 0) cs q (some 2) hq ?_
 intro w1 b1 be1 hs1
 refine lnow 1 (.bool false) (some 4) ?_
 refine ldn 2 ?_
 generalize hact : Act.put _ (some 4) _ = act
 simp only [Act.put, sA, sC, sZ] at hact
 subst hact
 have BQ := Lib.hid b1
 have DX := Lib.hid (DX.out.below (by rw [hq.out]; exact be1))
 have BE : Hid (Below w.heap.size w w1) := by rw [Hid, hq.out]; exact be1
 clear b1 be1 hs1 hq
 go_upto_region 1 with (fail)
 refine lbeg (opsOf Try.f6 1) ?_
 refine lcal 0 7 #[] (some 14) _ (alive10_walk w1) ?_
 rintro e w2 ⟨rfl, hb⟩
 refine ⟨_, rfl, ?_⟩
 have BQ := Lib.hid (BQ.out.below hb BQ.out.lt)
 have DX := Lib.hid (DX.out.below hb)
 have BE := Lib.hid (BE.out.trans (hb.mono BE.out.size))
 clear hb
 refine lnow 1 (.bool false) (some 15) ?_
 refine ldn 2 ?_
 generalize hact : Act.put _ (some 15) _ = act
 simp only [Act.put, sA, sC, sZ] at hact
 subst hact
 go_upto_region 3 with (fail)
 refine lbeg (opsOf Try.f6 3) ?_
 refine lrl 0 cs (some 16) 38 2 q 0 BQ.out.whole Try.underlying38 (dcSize C15.out) ?_
 obtain ⟨g, hgg⟩ : ∃ g, Hid (w2.heap.size = g) := ⟨_, rfl⟩
 have RB := run_build_dc1 DX.out w2
 have bw := Blk.new w2 38 cs
 have hb : Below w2.heap.size w2 (w2.alloc (.cells cs.toArray 38)) := (Below.refl _ _).alloc (Nat.le_refl _) _
 refine lin_value 1 _ (some 17) _ (by kernel_rfl) (by kernel_rfl) (exec_of _ _ (by kernel_rfl) RB) ?_
 generalize w2.alloc (.cells cs.toArray 38) = w3 at bw hb ⊢
 rw [hgg.out] at bw ⊢
 have DL : Hid (DcsAt [] w3 [d] (.slice (some ⟨g, 0, none⟩) 1 1)) := one_dcs bw ((DX.out.below hb).sub (fun k hk => by cases hk)) (by simp)
 clear RB bw hgg
 have BQ := Lib.hid (BQ.out.below hb BQ.out.lt)
 have DX := Lib.hid (DX.out.below hb)
 have BE := Lib.hid (BE.out.trans (hb.mono BE.out.size))
 clear hb
 refine lcal 2 9 #[.slice (some ⟨g, 0, none⟩) 1 1] (some 18) _ (great10_walk [d] _ w3 DL.out (fun x hx => by rw [List.mem_singleton.1 hx]; exact SM.out) (by simp)) ?_
 rintro e w4 ⟨b, rfl, hb, hbig⟩
 refine ⟨_, rfl, ?_⟩
 refine ldn 3 ?_
 generalize hact : Act.put _ (some 18) _ = act
 simp only [Act.put, sA, sC, sZ] at hact
 subst hact
 have BQ := Lib.hid (BQ.out.below hb BQ.out.lt)
 have DX := Lib.hid (DX.out.below hb)
 have BE := Lib.hid (BE.out.trans (hb.mono BE.out.size))
 clear hb
 cases b
 rotate_left
 ·skip
  go_upto_region 4 with (fail)
  refine lbeg (opsOf Try.f6 4) ?_
  refine lnow 0 (.bool true) (some 4) ?_
  refine ldn 1 ?_
  generalize hact : Act.put _ (some 4) _ = act
  simp only [Act.put, sA, sC, sZ] at hact
  subst hact
  go_wp2
  go_ret
  exact ⟨rfl, BE.out⟩
 have BIG := Lib.hid ((hbig rfl).2 d (by simp)).big
 clear hbig DL
 go_upto_region 5 with (fail)
 refine lbeg (opsOf Try.f6 5) ?_
 refine lrl 0 cs (some 20) 38 2 q 0 BQ.out.whole Try.underlying38 (dcSize C15.out) ?_
 refine lcal 1 18 #[.agg cs.toArray] (some 21) _ (Decl_walk d cs w4 DX.out SM.out BIG.out) ?_
 rintro e w5 ⟨v5, rfl, hr, hb⟩
 refine ⟨_, rfl, ?_⟩
 obtain ⟨va, vc, rfl, -⟩ := id hr.in
 have R5 := Lib.hid hr
 obtain ⟨L, hL⟩ : ∃ L, Hid ((declV d).length = L) := ⟨_, rfl⟩
 rw [hL.out] at R5 ⊢
 clear hr
 have BQ := Lib.hid (BQ.out.below hb BQ.out.lt)
 have DX := Lib.hid (DX.out.below hb)
 have BE := Lib.hid (BE.out.trans (hb.mono BE.out.size))
 clear hb
 cases hf : formB d
 ·skip
  refine lnow 2 (.tuple #[.slice va L vc, .bool false]) (some 19) ?_
  refine lnow 3 (.slice va L vc) (some 22) ?_
  refine lnow 4 (.bool false) (some 23) ?_
  refine lnow 5 (.slice va L vc) (some 5) ?_
  refine lnow 6 (.bool false) (some 6) ?_
  refine ldn 7 ?_
  generalize hact : Act.put _ (some 6) _ = act
  simp only [Act.put, sA, sC, sZ] at hact
  subst hact
  go_upto_region 6 with (fail)
  refine lbeg (opsOf Try.f6 6) ?_
  refine lnow 0 (.bool false) (some 24) ?_
  refine lnow 1 (.bool true) (some 25) ?_
  refine lnow 2 (.bool true) (some 26) ?_
  refine lpas 3 (some 27) ?_
  refine lpas 4 (some 28) ?_
  refine lnow 5 (.bool true) (some 29) ?_
  refine lnow 6 (.bool true) (some 30) ?_
  refine lpas 7 (some 31) ?_
  refine lpas 8 (some 32) ?_
  refine lpas 9 (some 33) ?_
  refine lpas 10 (some 34) ?_
  refine lnow 11 (.bool true) (some 35) ?_
  refine ldn 12 ?_
  generalize hact : Act.put _ (some 35) _ = act
  simp only [Act.put, sA, sC, sZ] at hact
  subst hact
  go_upto_region 7 with (fail)
  refine lbeg (opsOf Try.f6 7) ?_
  refine lnow 0 (.bool true) (some 4) ?_
  refine ldn 1 ?_
  generalize hact : Act.put _ (some 4) _ = act
  simp only [Act.put, sA, sC, sZ] at hact
  subst hact
  go_wp2
  go_ret
  exact ⟨rfl, BE.out⟩
 refine lnow 2 (.tuple #[.slice va L vc, .bool true]) (some 19) ?_
 refine lnow 3 (.slice va L vc) (some 22) ?_
 refine lnow 4 (.bool true) (some 23) ?_
 refine lnow 5 (.slice va L vc) (some 5) ?_
 refine lnow 6 (.bool true) (some 6) ?_
 refine ldn 7 ?_
 generalize hact : Act.put _ (some 6) _ = act
 simp only [Act.put, sA, sC, sZ] at hact
 subst hact
 go_upto_region 6 with (fail)
 refine lbeg (opsOf Try.f6 6) ?_
 refine lnow 0 (.bool true) (some 24) ?_
 refine lnow 1 (.bool false) (some 25) ?_
 refine lnow 2 (.bool false) (some 26) ?_
 refine lnow 3 (.int .i64 cut) (some 27) ?_
 refine lnow 4 (.bool (decide (cut < 0))) (some 28) ?_
 by_cases h0 : cut < 0
 ·skip
  rw [decide_eq_true h0]
  refine lnow 5 (.bool true) (some 29) ?_
  refine lnow 6 (.bool true) (some 30) ?_
  refine lpas 7 (some 31) ?_
  refine lpas 8 (some 32) ?_
  refine lpas 9 (some 33) ?_
  refine lpas 10 (some 34) ?_
  refine lnow 11 (.bool true) (some 35) ?_
  refine ldn 12 ?_
  generalize hact : Act.put _ (some 35) _ = act
  simp only [Act.put, sA, sC, sZ] at hact
  subst hact
  go_upto_region 7 with (fail)
  refine lbeg (opsOf Try.f6 7) ?_
  refine lnow 0 (.bool true) (some 4) ?_
  refine ldn 1 ?_
  generalize hact : Act.put _ (some 4) _ = act
  simp only [Act.put, sA, sC, sZ] at hact
  subst hact
  go_wp2
  go_ret
  exact ⟨rfl, BE.out⟩
 rw [decide_eq_false h0]
 obtain ⟨c, rfl⟩ := Int.eq_ofNat_of_zero_le (Int.not_lt.1 h0)
 refine lnow 5 (.bool false) (some 29) ?_
 refine lnow 6 (.bool false) (some 30) ?_
 refine lnow 7 (.int .i64 (c : Int)) (some 31) ?_
 refine lnow 8 (.slice va L vc) (some 32) ?_
 refine lnow 9 (.int .i64 (L : Int)) (some 33) ?_
 refine lnow 10 (.bool (decide ((L : Int) ≤ (c : Int)))) (some 34) ?_
 by_cases h1 : L ≤ c
 ·skip
  rw [decide_eq_true (show (L : Int) ≤ (c : Int) by omega)]
  refine lnow 11 (.bool true) (some 35) ?_
  refine ldn 12 ?_
  generalize hact : Act.put _ (some 35) _ = act
  simp only [Act.put, sA, sC, sZ] at hact
  subst hact
  go_upto_region 7 with (fail)
  refine lbeg (opsOf Try.f6 7) ?_
  refine lnow 0 (.bool true) (some 4) ?_
  refine ldn 1 ?_
  generalize hact : Act.put _ (some 4) _ = act
  simp only [Act.put, sA, sC, sZ] at hact
  subst hact
  go_wp2
  go_ret
  exact ⟨rfl, BE.out⟩
 rw [decide_eq_false (show ¬ (L : Int) ≤ (c : Int) by omega)]
 refine lnow 11 (.bool false) (some 35) ?_
 refine ldn 12 ?_
 generalize hact : Act.put _ (some 35) _ = act
 simp only [Act.put, sA, sC, sZ] at hact
 subst hact
 have HF := Lib.hid hf
 have VB : Hid (declV d = declB d) := declV_yes hf
 have CL : Hid (c < L) := by rw [Hid]; omega
 have LB : Hid ((declB d).length = L) := by rw [Hid, ← VB.out]; exact hL.out
 have BND : Hid (L ≤ 2000000) := by have := declB_len (form_ok (form_iff.1 hf)) LVD.out; rw [Hid, ← LB.out]; exact this
 clear h0 h1 hf
 obtain ⟨u, hu, BU⟩ := bytes_take (n := c) (BytesLt.of R5.out.in) (by have := hL.out; have := CL.out; omega)
 have BU8 : Hid (BytesIn w5 u ((declB d).take c)) := by rw [Hid, ← VB.out]; exact BU.in
 clear BU
 go_upto_region 8 with (fail)
 refine lbeg (opsOf Try.f6 8) ?_
 refine lnow 0 (.slice va L vc) (some 37) ?_
 refine lnow 1 (.int .i64 (c : Int)) (some 38) ?_
 refine lnowP 2 (u) (some 39) (exec_of (Instr.sliceAt 30 (.slice va L vc) none (some (.int .i64 (c : Int))) none) _ (by kernel_rfl) (hu _)) ?_
 have CALL := TakeDecl_walk u ((declB d).take c) w5 BU8.out ((declB_isB d).take c) (by rw [List.length_take]; have := BND.out; have := CL.out; omega)
 rw [decl_cut HF.out LVD.out (by rw [LB.out]; exact CL.out)] at CALL
 refine lcal 3 27 #[u] (some 40) _ (CALL) ?_
 rintro e w6 ⟨hb, rfl⟩
 refine ⟨_, rfl, ?_⟩
 clear CALL hu BU8
 have BQ := Lib.hid (BQ.out.below hb BQ.out.lt)
 have DX := Lib.hid (DX.out.below hb)
 have R5 := Lib.hid (R5.out.below hb)
 have BE := Lib.hid (BE.out.trans (hb.mono BE.out.size))
 clear hb
 refine lnow 4 (.tuple #[.agg zD.toArray, .slice none 0 0, .bool false]) (some 36) ?_
 refine lnow 5 (.agg zD.toArray) (some 41) ?_
 refine lnow 6 (.slice none 0 0) (some 42) ?_
 refine lnow 7 (.bool false) (some 43) ?_
 obtain ⟨z, hz⟩ : ∃ z, Hid (w6.heap.size = z) := ⟨_, rfl⟩
 refine lin_alloc 8 38 zD z (some 7) (by kernel_rfl) (by kernel_rfl) (by kernel_rfl) zeroDc hz ?_
 intro w7 b7 be7 hs7
 refine lput 9 38 (.tmp 7) (.tmp 41) z _ zD zD b7 rfl (dcSize rfl) (by simpa using zD_one) ?_
 intro w8 b8 u8
 refine lnow 10 (.slice none 0 0) (some 8) ?_
 refine lnow 11 (.bool false) (some 9) ?_
 refine ldn 12 ?_
 generalize hact : Act.put _ (some 9) _ = act
 simp only [Act.put, sA, sC, sZ] at hact
 subst hact
 have hb : Below w6.heap.size w6 w8 := by rw [hz.out]; exact u8.below be7 (Nat.le_refl _) (by have := hs7.out; omega)
 clear b7 be7 hs7 b8 u8 hz
 have BQ := Lib.hid (BQ.out.below hb BQ.out.lt)
 have DX := Lib.hid (DX.out.below hb)
 have R5 := Lib.hid (R5.out.below hb)
 have BE := Lib.hid (BE.out.trans (hb.mono BE.out.size))
 clear hb
 go_upto_region 9 with (fail)
 refine lbeg (opsOf Try.f6 9) ?_
 refine lrl 0 cs (some 45) 38 2 q 0 BQ.out.whole Try.underlying38 (dcSize C15.out) ?_
 obtain ⟨g2, hgg2⟩ : ∃ g, Hid (w8.heap.size = g) := ⟨_, rfl⟩
 have RB := run_build_dc1 DX.out w8
 have bw := Blk.new w8 38 cs
 have hb : Below w8.heap.size w8 (w8.alloc (.cells cs.toArray 38)) := (Below.refl _ _).alloc (Nat.le_refl _) _
 refine lin_value 1 _ (some 46) _ (by kernel_rfl) (by kernel_rfl) (exec_of _ _ (by kernel_rfl) RB) ?_
 generalize w8.alloc (.cells cs.toArray 38) = w9 at bw hb ⊢
 rw [hgg2.out] at bw ⊢
 have DL : Hid (DcsAt [] w9 [d] (.slice (some ⟨g2, 0, none⟩) 1 1)) := one_dcs bw ((DX.out.below hb).sub (fun k hk => by cases hk)) (by simp)
 clear RB bw hgg2
 have BQ := Lib.hid (BQ.out.below hb BQ.out.lt)
 have DX := Lib.hid (DX.out.below hb)
 have R5 := Lib.hid (R5.out.below hb)
 have BE := Lib.hid (BE.out.trans (hb.mono BE.out.size))
 clear hb
 refine lcal 2 14 #[.slice (some ⟨g2, 0, none⟩) 1 1] (some 47) _ (Library_walk [d] _ w9 DL.out (fun x hx => by rw [List.mem_singleton.1 hx]; exact ⟨SM.out, BIG.out⟩) (by simp)) ?_
 rintro e w10 ⟨v10, rfl, hr, hb⟩
 refine ⟨_, rfl, ?_⟩
 rw [(libV_one HF.out).1]
 obtain ⟨ua, uc, rfl, -⟩ := id hr.in
 have R10 := Lib.hid hr
 obtain ⟨M, hM⟩ : ∃ M, Hid ((libV [d]).length = M) := ⟨_, rfl⟩
 rw [hM.out] at R10 ⊢
 have ML : Hid (M = 2 + L) := by rw [Hid, ← hM.out, libV_len HF.out, LB.out]
 clear hr DL
 have BQ := Lib.hid (BQ.out.below hb BQ.out.lt)
 have DX := Lib.hid (DX.out.below hb)
 have R5 := Lib.hid (R5.out.below hb)
 have BE := Lib.hid (BE.out.trans (hb.mono BE.out.size))
 clear hb
 refine lnow 3 (.tuple #[.slice ua M uc, .bool true]) (some 44) ?_
 refine lnow 4 (.slice ua M uc) (some 48) ?_
 refine lnow 5 (.bool true) (some 49) ?_
 refine lnow 6 (.slice ua M uc) (some 10) ?_
 refine lnow 7 (.bool true) (some 11) ?_
 refine ldn 8 ?_
 generalize hact : Act.put _ (some 11) _ = act
 simp only [Act.put, sA, sC, sZ] at hact
 subst hact
 obtain ⟨kk, hkk⟩ : ∃ k, Hid (M - 1 - c = k) := ⟨_, rfl⟩
 have KK : Hid (kk < M) := by have := hkk.out; have := ML.out; rw [Hid]; omega
 obtain ⟨u, hu, BU⟩ := bytes_take (n := kk) (BytesLt.of R10.out.in) (by have := hM.out; have := KK.out; omega)
 have BU8 : Hid (BytesIn w10 u ((libV [d]).take kk)) := BU.in
 clear BU
 have ml := ML.out
 have bl := BND.out
 have cl := CL.out
 have ke := hkk.out
 go_upto_region 10 with (fail)
 refine lbeg (opsOf Try.f6 10) ?_
 refine lnow 0 (.slice ua M uc) (some 51) ?_
 refine lnow 1 (.slice ua M uc) (some 52) ?_
 refine lnow 2 (.int .i64 (M : Int)) (some 53) ?_
 refine lnow 3 (.int .i64 (IntKind.i64.wrap ((M : Int) - 1))) (some 54) ?_
 rw [nat_wrap (n := M - 1) (by omega) (by omega)]
 refine lnow 4 (.int .i64 (c : Int)) (some 55) ?_
 refine lnow 5 (.int .i64 (IntKind.i64.wrap (((M - 1 : Nat) : Int) - (c : Int)))) (some 56) ?_
 rw [nat_wrap (n := kk) (by omega) (by omega)]
 refine lnowP 6 (u) (some 57) (exec_of (Instr.sliceAt 30 (.slice ua M uc) none (some (.int .i64 (kk : Int))) none) _ (by kernel_rfl) (hu _)) ?_
 have CALL := TakeLib_walk u ((libV [d]).take kk) w10 BU8.out (by rw [(libV_one HF.out).2]; exact (isB.app (numB_isB 1) (dsB_isB [d])).take kk) (by rw [List.length_take]; omega)
 rw [lib_cut HF.out LVD.out (by rw [hM.out]; exact KK.out)] at CALL
 refine lcal 7 28 #[u] (some 58) _ (CALL) ?_
 rintro e w11 ⟨hb, rfl⟩
 refine ⟨_, rfl, ?_⟩
 clear CALL hu BU8 ml bl cl ke
 have BQ := Lib.hid (BQ.out.below hb BQ.out.lt)
 have DX := Lib.hid (DX.out.below hb)
 have R5 := Lib.hid (R5.out.below hb)
 have BE := Lib.hid (BE.out.trans (hb.mono BE.out.size))
 clear hb
 refine lnow 8 (.tuple #[.slice none 0 0, .bool false]) (some 50) ?_
 refine lnow 9 (.slice none 0 0) (some 59) ?_
 refine lnow 10 (.bool false) (some 60) ?_
 refine lnow 11 (.slice none 0 0) (some 12) ?_
 refine lnow 12 (.bool false) (some 13) ?_
 refine ldn 13 ?_
 generalize hact : Act.put _ (some 13) _ = act
 simp only [Act.put, sA, sC, sZ] at hact
 subst hact
 go_upto_region 11 with (fail)
 refine lbeg (opsOf Try.f6 11) ?_
 refine lnow 0 (.bool false) (some 61) ?_
 refine lnow 1 (.bool true) (some 62) ?_
 refine lnow 2 (.bool true) (some 63) ?_
 refine lnow 3 (.bool false) (some 64) ?_
 refine lnow 4 (.bool true) (some 65) ?_
 refine lnow 5 (.bool true) (some 66) ?_
 refine lnow 6 (.bool true) (some 4) ?_
 refine ldn 7 ?_
 generalize hact : Act.put _ (some 4) _ = act
 simp only [Act.put, sA, sC, sZ] at hact
 subst hact
 go_wp2
 go_ret
 exact ⟨rfl, BE.out⟩
end Go.Proofs.Yteohjbggicchgaa
