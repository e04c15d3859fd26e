/- Terms, by the given answers: Nodes. -/
import Derived.Test.YtndbpmkglddjjaaQGenT
import Derived.Test.YtndbpmkglddjjaaQTrmM
import Derived.IntWalk
namespace Go.Proofs.Ytndbpmkglddjjaa
open Go Go.RowKit
set_option maxRecDepth 100000
theorem t5Size {cs : List Value} (h : cs.length = 5) : (Try.prog.info? 25).map (·.size) = some cs.length := by rw [h]; kernel_rfl
theorem elemTms : Try.prog.underlying 23 = some (.slice (Try.prog.elem 23)) := by kernel_rfl
theorem run_at_tm (B off n cap m : Nat) (hm : m < n) (w : World) : (Instr.indexAt 23 (.slice (some ⟨B, off, none⟩) n cap) (.int .i64 (m : Int))).run Try.prog w = .ok (.pointer (some ⟨B, off + 5 * m, none⟩)) w := by
  rw [run_indexAt_slice w 23 _ _ _ _ _ elemTms]
  have hz : (sizeOf (Try.prog.elem 23)).run Try.prog w = .ok 5 w := by kernel_rfl
  rw [if_pos (by omega), hz, Result.andThen_ok, Addr.add_mid, Int.toNat_natCast, Nat.mul_comm]
theorem exec_min {P : Program} {a : Act} {w : World} {op : Oper} (ts : Array TypeId) (t : TypeId) (x y : Int) (h : execOp a.eval op = (Builtin.min_ ts t #[.int .i64 x, .int .i64 y] >>= fun x => pure (.value x))) : (execOp a.eval op).run P w = .ok (.value (.int .i64 (min x y))) w := by
  have hr : (Builtin.min_ ts t #[.int .i64 x, .int .i64 y]).run P w = .ok (.int .i64 (min x y)) w := by
    rw [run_min_int2]
    congr 2
    split <;> omega
  rw [h, Sem.run_bind, hr]
  rfl
theorem nodesTs_snoc : ∀ (a : List Tm) (t : Tm), nodesTs (a ++ [t]) = nodesTs a + nodesT t
  | [], t => by simp [nodesTs]
  | x :: a, t => by simp [nodesTs, nodesTs_snoc a t]; omega
theorem nodesTs_take (a : List Tm) (k : Nat) : nodesTs (a.take k) ≤ nodesTs a := by
  induction a generalizing k with
  | nil => simp
  | cons x a ih => cases k with
    | zero => simp [nodesTs]
    | succ k => simp [nodesTs]; exact ih k
theorem nodesTs_next {a : List Tm} {k : Nat} {t : Tm} (h : a[k]? = some t) : nodesTs (a.take (k + 1)) = nodesTs (a.take k) + nodesT t := by
  rw [List.take_add_one, h]
  exact nodesTs_snoc _ _
set_option maxHeartbeats 4000000 in
theorem tnodes_walk : ∀ (t : Tm) (cs : List Value) (w : World) (most : Nat) (F : List Nat), TmAt F w t cs → SmT t → most ≤ 1000000 → Calls Try.prog 39 #[.agg cs.toArray, .int .i64 (most : Int)] w fun e w' => e = .returned (.int .i64 ((min (nodesT t) (most + 1) : Nat) : Int)) ∧ Below w.heap.size w w' := by
  refine Tm.byParts fun k n s l a ih cs w most F h hs hm => ?_
  obtain ⟨lv, av, rfl, h1, h2⟩ := h.open
  obtain ⟨-, sl, sa, ss⟩ := hs.open
  dsimp only [Tm.kind, Tm.n, Tm.name, Tm.levels, Tm.args] at h h1 h2 sl sa ss ⊢
  obtain ⟨la, lc, rfl⟩ := h1.slice
  obtain ⟨aa, ac, rfl⟩ := h2.slice
  have hr : reachBytes = 140737488351232 := rfl
  obtain ⟨L, hL⟩ : ∃ L, Hid (l.length = L) := ⟨_, rfl⟩
  obtain ⟨N, hN⟩ : ∃ N, Hid (a.length = N) := ⟨_, rfl⟩
  rw [hL.out] at sl ⊢
  rw [hN.out] at sa h2 ⊢
  rw [hr] at sl sa
  have HA := Lib.hid h2
  have SS := Lib.hid ss
  have hN2 : Hid (nodesT (.mk k n s l a) = 1 + L + nodesTs a) := by rw [Hid, nodesT, hL.out]
  obtain ⟨S, hS⟩ : ∃ S, Hid (nodesT (.mk k n s l a) = S) := ⟨_, rfl⟩
  rw [hS.out]
  rw [hS.out] at hN2
  obtain ⟨q, hq⟩ : ∃ q, Hid (w.heap.size = q) := ⟨_, rfl⟩
  rw [hq.out]
  obtain ⟨sv, hsv⟩ : ∃ x, Hid (strT s = x) := ⟨_, rfl⟩
  obtain ⟨CS, hCS⟩ : ∃ x, Hid ([.int .i64 k, .int .i64 n, strT s, .slice la L lc, .slice aa N ac] = x) := ⟨_, rfl⟩
  have CL : Hid (CS.length = 5) := by rw [Hid, ← hCS.out]; rfl
  have C1 : Hid (∀ u ∈ CS, u.oneCell' = true) := by
    have := h.one
    rw [hL.out, hN.out, hCS.out] at this
    exact this
  rw [hCS.out]
  clear h h1 h2 ss hsv
  go_enter Try.func39, Try.ntmps39
  go_upto_region 0 with (fail)
  refine lbeg (opsOf Try.f39 0) ?_
  refine lbox 0 25 (.tmp 0) CS q (some 2) hq ?_
  intro w1 b1 be1 hs1
  refine lnow 1 (.int .i64 0) (some 4) ?_
  refine ldn 2 ?_
  have B1 := Lib.hid b1
  have BE : Hid (Below q w w1) := be1
  clear b1 be1
  generalize hact : Act.put _ (some 4) _ = act
  simp only [Act.put, sA, sC, sZ] at hact
  subst hact
  have c3 : w1.cell? ⟨q, 3, none⟩ = some (.slice la L lc) := B1.out.cell (by rw [← hCS.out]; rfl)
  go_upto_region 1 with (fail)
  refine lbeg (opsOf Try.f39 1) ?_
  refine lnow 0 (.pointer (some ⟨q, 3, none⟩)) (some 7) ?_
  refine lcl 1 (.slice la L lc) (some 8) 22 7 q 3 c3 Try.underlying22 ?_
  refine lnow 2 (.int .i64 (L : Int)) (some 9) ?_
  refine lnow 3 (.int .i64 (IntKind.i64.wrap (1 + (L : Int)))) (some 10) ?_
  rw [show IntKind.i64.wrap (1 + (L : Int)) = ((1 + L : Nat) : Int) from (IntWalk.i64_in _ (by omega)).trans (by omega)]
  obtain ⟨v0, hv0⟩ : ∃ x, Hid (1 + L = x) := ⟨_, rfl⟩
  rw [hv0.out]
  refine lnow 4 (.int .i64 (v0 : Int)) (some 5) ?_
  refine ldn 5 ?_
  generalize hact : Act.put _ (some 5) _ = act
  simp only [Act.put, sA, sC, sZ] at hact
  subst hact
  clear c3
  go_wp2
  go_loopw [5, 6] (fun vv iv wr => ∃ i v : Nat, i ≤ N ∧ iv = .int .i64 (i : Int) ∧ vv = .int .i64 (v : Int) ∧ Hid (min v (most + 1) = min (1 + L + nodesTs (a.take i)) (most + 1)) ∧ Hid (v ≤ 4000000000000) ∧ Hid (Blk wr q 25 CS) ∧ Hid (Below q w wr)) (fun _ iv _ => N - (intOf iv).toNat)
  case atStart => exact ⟨0, v0, Nat.zero_le _, rfl, rfl, by rw [Hid, ← hv0.out]; simp [nodesTs], by rw [Hid, ← hv0.out]; omega, B1, BE⟩
  case round =>
    obtain ⟨i, v, hi, rfl, rfl, hV, hB, BQ, BW⟩ := hrel
    have c4 : wr.cell? ⟨q, 4, none⟩ = some (.slice aa N ac) := BQ.out.cell (by rw [← hCS.out]; rfl)
    have hB' := hB.out
    by_cases hlt : i < N
    · have r1 : (i : Int) < (N : Int) := by omega
      by_cases hvm : v ≤ most
      · have r2 : (v : Int) ≤ (most : Int) := by omega
        obtain ⟨x, pb, po, cx, hxi, hxm, hxa, -, hpb, -, hxr, hxt⟩ := (TmsAt.step (Step.of_below BW.out (Nat.le_of_eq hq.out)) a _ HA.out : TmsAt F wr a _).get hN.out hlt
        subst hxa
        have XS := SmTs.mem SS.out hxm
        have X5 := hxt.len
        have NX := nodesTs_next hxi
        have QW : Hid (q ≤ wr.heap.size) := by rw [Hid, ← hq.out]; exact BW.out.size
        obtain ⟨r, hrr⟩ : ∃ r, Hid (min (nodesT x) (most + 1) = r) := ⟨_, rfl⟩
        have RB : Hid (r ≤ most + 1) := by have := hrr.out; rw [Hid]; omega
        have HV2 : Hid (min (v + r) (most + 1) = min (1 + L + nodesTs (a.take (i + 1))) (most + 1)) := by
          have h1 := hV.out
          have h2 := hrr.out
          rw [Hid, NX]
          omega
        have CALL := ih x hxm cx wr most F hxt XS hm
        rw [hrr.out] at CALL
        obtain ⟨TC, hTC⟩ : ∃ z, Hid (Value.agg cx.toArray = z) := ⟨_, rfl⟩
        go_upto_region 5 with (fail)
        refine lbeg (opsOf Try.f39 5) ?_
        refine lnow 0 (.int .i64 (v : Int)) (some 23) ?_
        refine lnow 1 (.pointer (some ⟨q, 4, none⟩)) (some 24) ?_
        refine lcl 2 (.slice (some ⟨pb, po, none⟩) N ac) (some 25) 23 24 q 4 c4 Try.underlying23 ?_
        refine lnow 3 (.int .i64 (i : Int)) (some 26) ?_
        refine lix 4 (.pointer (some ⟨pb, po + 5 * i, none⟩)) (some 27) 23 25 26 (run_at_tm pb po N ac i hlt _) ?_
        refine lrl 5 cx (some 28) 25 27 pb (po + 5 * i) hxr Try.underlying25 (t5Size X5) ?_
        refine lnow 6 (.int .i64 (most : Int)) (some 29) ?_
        refine lcal 7 39 #[.agg cx.toArray, .int .i64 (most : Int)] (some 30) _ CALL ?_
        rintro e w2 ⟨rfl, hb2⟩
        refine ⟨_, rfl, ?_⟩
        refine lnow 8 (.int .i64 (IntKind.i64.wrap ((v : Int) + (r : Int)))) (some 31) ?_
        rw [show IntKind.i64.wrap ((v : Int) + (r : Int)) = ((v + r : Nat) : Int) from (IntWalk.i64_in _ (by have := RB.out; omega)).trans (by omega)]
        obtain ⟨v2, hv2⟩ : ∃ x, Hid (v + r = x) := ⟨_, rfl⟩
        rw [hv2.out]
        refine lnow 9 (.int .i64 (v2 : Int)) (some 5) ?_
        refine ldn 10 ?_
        have BQ2 : Hid (Blk w2 q 25 CS) := BQ.out.below hb2 BQ.out.lt
        have BW2 : Hid (Below q w w2) := BW.out.trans (hb2.mono QW.out)
        have VB : Hid (v2 ≤ 4000000000000) := by have := RB.out; have := hv2.out; rw [Hid]; omega
        rw [hv2.out] at HV2
        clear hb2 BW BQ c4 hB' hB hV CALL hxr hxt hTC
        generalize hact : Act.put _ (some 5) _ = act
        simp only [Act.put, sA, sC, sZ] at hact
        subst hact
        go_wp2
        go_roundw
        case rel => exact ⟨i + 1, v2, by omega, by go_num, rfl, HV2, VB, BQ2, BW2⟩
        case measure => simp [intOf]; omega
      · have r2 : ¬ (v : Int) ≤ (most : Int) := by omega
        have FIN : Hid (min v (most + 1) = min S (most + 1)) := by
          have h1 := hV.out
          have h2 := hN2.out
          have h3 := nodesTs_take a i
          rw [Hid]
          omega
        go_upto_region 6 with (fail)
        refine lbeg (opsOf Try.f39 6) ?_
        refine lnow 0 (.int .i64 (v : Int)) (some 32) ?_
        refine lnow 1 (.int .i64 (most : Int)) (some 33) ?_
        refine lnow 2 (.int .i64 (IntKind.i64.wrap ((most : Int) + 1))) (some 34) ?_
        rw [show IntKind.i64.wrap ((most : Int) + 1) = ((most + 1 : Nat) : Int) from (IntWalk.i64_in _ (by omega)).trans (by omega)]
        refine lnowP 3 (.int .i64 (min (v : Int) ((most + 1 : Nat) : Int))) (some 35) (exec_min #[3, 3] 3 _ _ (by kernel_rfl)) ?_
        rw [show min (v : Int) ((most + 1 : Nat) : Int) = ((min S (most + 1) : Nat) : Int) from by have := FIN.out; omega]
        refine lnow 4 (.int .i64 ((min S (most + 1) : Nat) : Int)) (some 4) ?_
        refine ldn 5 ?_
        generalize hact : Act.put _ (some 4) _ = act
        simp only [Act.put, sA, sC, sZ] at hact
        subst hact
        go_wp2
        go_ret
        exact ⟨rfl, BW.out⟩
    · have r1 : ¬ (i : Int) < (N : Int) := by omega
      have FIN : Hid (min v (most + 1) = min S (most + 1)) := by
        have h1 := hV.out
        have h2 := hN2.out
        rw [List.take_of_length_le (by have := hN.out; omega)] at h1
        rw [Hid]
        omega
      go_upto_region 6 with (fail)
      refine lbeg (opsOf Try.f39 6) ?_
      refine lnow 0 (.int .i64 (v : Int)) (some 32) ?_
      refine lnow 1 (.int .i64 (most : Int)) (some 33) ?_
      refine lnow 2 (.int .i64 (IntKind.i64.wrap ((most : Int) + 1))) (some 34) ?_
      rw [show IntKind.i64.wrap ((most : Int) + 1) = ((most + 1 : Nat) : Int) from (IntWalk.i64_in _ (by omega)).trans (by omega)]
      refine lnowP 3 (.int .i64 (min (v : Int) ((most + 1 : Nat) : Int))) (some 35) (exec_min #[3, 3] 3 _ _ (by kernel_rfl)) ?_
      rw [show min (v : Int) ((most + 1 : Nat) : Int) = ((min S (most + 1) : Nat) : Int) from by have := FIN.out; omega]
      refine lnow 4 (.int .i64 ((min S (most + 1) : Nat) : Int)) (some 4) ?_
      refine ldn 5 ?_
      generalize hact : Act.put _ (some 4) _ = act
      simp only [Act.put, sA, sC, sZ] at hact
      subst hact
      go_wp2
      go_ret
      exact ⟨rfl, BW.out⟩
end Go.Proofs.Ytndbpmkglddjjaa
