import Derived.Test.YteohjbggicchgaaBGenT
import Derived.Test.YteohjbggicchgaaBTrmM
import Derived.IntWalk
import Derived.Test.YteohjbggicchgaaBGenF
import Derived.Test.YteohjbggicchgaaBLevM
namespace Go.Proofs.Yteohjbggicchgaa
open Go Go.RowKit
set_option maxRecDepth 100000
theorem t5Size {cs : List Value} (h : cs.length = 5) : (Try.prog.info? 25).map (·.size) = some cs.length := by rw [h]; kernel_rfl
theorem elemTms : Try.prog.underlying 23 = some (.slice (Try.prog.elem 23)) := by kernel_rfl
theorem run_at_tm (B off n cap m : Nat) (hm : m < n) (w : World) : (Instr.indexAt 23 (.slice (some ⟨B, off, none⟩) n cap) (.int .i64 (m : Int))).run Try.prog w = .ok (.pointer (some ⟨B, off + 5 * m, none⟩)) w := by
 rw [run_indexAt_slice w 23 _ _ _ _ _ elemTms]
 have hz : (sizeOf (Try.prog.elem 23)).run Try.prog w = .ok 5 w := by kernel_rfl
 rw [if_pos (by omega), hz, Result.andThen_ok, Addr.add_mid, Int.toNat_natCast, Nat.mul_comm]
theorem exec_min {P : Program} {a : Act} {w : World} {op : Oper} (ts : Array TypeId) (t : TypeId) (x y : Int) (h : execOp a.eval op = (Builtin.min_ ts t #[.int .i64 x, .int .i64 y] >>= fun x => pure (.value x))) : (execOp a.eval op).run P w = .ok (.value (.int .i64 (min x y))) w := by
 have hr : (Builtin.min_ ts t #[.int .i64 x, .int .i64 y]).run P w = .ok (.int .i64 (min x y)) w := by
  rw [run_min_int2]
  congr 2
  split <;> omega
 rw [h, Sem.run_bind, hr]
 rfl
theorem nodesTs_snoc : ∀ (a : List Tm) (t : Tm), nodesTs (a ++ [t]) = nodesTs a + nodesT t
 | [], t => by simp [nodesTs]
 | x :: a, t => by simp [nodesTs, nodesTs_snoc a t]; omega
theorem nodesTs_take (a : List Tm) (k : Nat) : nodesTs (a.take k) ≤ nodesTs a := by
 induction a generalizing k with
 | nil => simp
 | cons x a ih => cases k with
  | zero => simp [nodesTs]
  | succ k => simp [nodesTs]; exact ih k
theorem nodesTs_next {a : List Tm} {k : Nat} {t : Tm} (h : a[k]? = some t) : nodesTs (a.take (k + 1)) = nodesTs (a.take k) + nodesT t := by
 rw [List.take_add_one, h]
 exact nodesTs_snoc _ _
set_option maxHeartbeats 4000000 in
theorem tnodes_walk : ∀ (t : Tm) (cs : List Value) (w : World) (most : Nat) (F : List Nat), TmAt F w t cs → SmT t → most ≤ 1000000 → Calls Try.prog 29 #[.agg cs.toArray, .int .i64 (most : Int)] w fun e w' => e = .returned (.int .i64 ((min (nodesT t) (most + 1) : Nat) : Int)) ∧ Below w.heap.size w w' := by
 refine Tm.byParts fun k n s l a ih cs w most F h hs hm => ?_
 obtain ⟨lv, av, rfl, h1, h2⟩ := h.open
 obtain ⟨-, sl, sa, ss⟩ := hs.open
 dsimp only [Tm.kind, Tm.n, Tm.name, Tm.levels, Tm.args] at h h1 h2 sl sa ss ⊢
 obtain ⟨la, lc, rfl⟩ := h1.slice
 obtain ⟨aa, ac, rfl⟩ := h2.slice
 have hr : reachBytes = 140737488351232 := rfl
 obtain ⟨L, hL⟩ : ∃ L, Hid (l.length = L) := ⟨_, rfl⟩
 obtain ⟨N, hN⟩ : ∃ N, Hid (a.length = N) := ⟨_, rfl⟩
 rw [hL.out] at sl ⊢
 rw [hN.out] at sa h2 ⊢
 rw [hr] at sl sa
 have HA := Lib.hid h2
 have SS := Lib.hid ss
 have hN2 : Hid (nodesT (.mk k n s l a) = 1 + L + nodesTs a) := by rw [Hid, nodesT, hL.out]
 obtain ⟨S, hS⟩ : ∃ S, Hid (nodesT (.mk k n s l a) = S) := ⟨_, rfl⟩
 rw [hS.out]
 rw [hS.out] at hN2
 obtain ⟨q, hq⟩ : ∃ q, Hid (w.heap.size = q) := ⟨_, rfl⟩
 rw [hq.out]
 obtain ⟨sv, hsv⟩ : ∃ x, Hid (strT s = x) := ⟨_, rfl⟩
 obtain ⟨CS, hCS⟩ : ∃ x, Hid ([.int .i64 k, .int .i64 n, strT s, .slice la L lc, .slice aa N ac] = x) := ⟨_, rfl⟩
 have CL : Hid (CS.length = 5) := by rw [Hid, ← hCS.out]; rfl
 have C1 : Hid (∀ u ∈ CS, u.oneCell' = true) := by
  have := h.one
  rw [hL.out, hN.out, hCS.out] at this
  exact this
 rw [hCS.out]
 clear h h1 h2 ss hsv
 go_enter Try.func29, Try.ntmps29
 go_upto_region 0 with (fail)
 refine lbeg (opsOf Try.f29 0) ?_
 refine lbox 0 25 (.tmp 0) CS q (some 2) hq ?_
 intro w1 b1 be1 hs1
 refine lnow 1 (.int .i64 0) (some 4) ?_
 refine ldn 2 ?_
 have B1 := Lib.hid b1
 have BE : Hid (Below q w w1) := be1
 clear b1 be1
 generalize hact : Act.put _ (some 4) _ = act
 simp only [Act.put, sA, sC, sZ] at hact
 subst hact
 have c3 : w1.cell? ⟨q, 3, none⟩ = some (.slice la L lc) := B1.out.cell (by rw [← hCS.out]; rfl)
 go_upto_region 1 with (fail)
 refine lbeg (opsOf Try.f29 1) ?_
 refine lnow 0 (.pointer (some ⟨q, 3, none⟩)) (some 7) ?_
 refine lcl 1 (.slice la L lc) (some 8) 22 7 q 3 c3 Try.underlying22 ?_
 refine lnow 2 (.int .i64 (L : Int)) (some 9) ?_
 refine lnow 3 (.int .i64 (IntKind.i64.wrap (1 + (L : Int)))) (some 10) ?_
 rw [show IntKind.i64.wrap (1 + (L : Int)) = ((1 + L : Nat) : Int) from (IntWalk.i64_in _ (by omega)).trans (by omega)]
 obtain ⟨v0, hv0⟩ : ∃ x, Hid (1 + L = x) := ⟨_, rfl⟩
 rw [hv0.out]
 refine lnow 4 (.int .i64 (v0 : Int)) (some 5) ?_
 refine ldn 5 ?_
 generalize hact : Act.put _ (some 5) _ = act
 simp only [Act.put, sA, sC, sZ] at hact
 subst hact
 clear c3
 go_wp2
 go_loopw [5, 6] (fun vv iv wr => ∃ i v : Nat, i ≤ N ∧ iv = .int .i64 (i : Int) ∧ vv = .int .i64 (v : Int) ∧ Hid (min v (most + 1) = min (1 + L + nodesTs (a.take i)) (most + 1)) ∧ Hid (v ≤ 4000000000000) ∧ Hid (Blk wr q 25 CS) ∧ Hid (Below q w wr)) (fun _ iv _ => N - (intOf iv).toNat)
 case atStart => exact ⟨0, v0, Nat.zero_le _, rfl, rfl, by rw [Hid, ← hv0.out]; simp [nodesTs], by rw [Hid, ← hv0.out]; omega, B1, BE⟩
 case round =>
  obtain ⟨i, v, hi, rfl, rfl, hV, hB, BQ, BW⟩ := hrel
  have c4 : wr.cell? ⟨q, 4, none⟩ = some (.slice aa N ac) := BQ.out.cell (by rw [← hCS.out]; rfl)
  have hB' := hB.out
  by_cases hlt : i < N
  ·have r1 : (i : Int) < (N : Int) := by omega
   by_cases hvm : v ≤ most
   ·have r2 : (v : Int) ≤ (most : Int) := by omega
    obtain ⟨x, pb, po, cx, hxi, hxm, hxa, -, hpb, -, hxr, hxt⟩ := (TmsAt.step (Step.of_below BW.out (Nat.le_of_eq hq.out)) a _ HA.out : TmsAt F wr a _).get hN.out hlt
    subst hxa
    have XS := SmTs.mem SS.out hxm
    have X5 := hxt.len
    have NX := nodesTs_next hxi
    have QW : Hid (q ≤ wr.heap.size) := by rw [Hid, ← hq.out]; exact BW.out.size
    obtain ⟨r, hrr⟩ : ∃ r, Hid (min (nodesT x) (most + 1) = r) := ⟨_, rfl⟩
    have RB : Hid (r ≤ most + 1) := by have := hrr.out; rw [Hid]; omega
    have HV2 : Hid (min (v + r) (most + 1) = min (1 + L + nodesTs (a.take (i + 1))) (most + 1)) := by
     have h1 := hV.out
     have h2 := hrr.out
     rw [Hid, NX]
     omega
    have CALL := ih x hxm cx wr most F hxt XS hm
    rw [hrr.out] at CALL
    obtain ⟨TC, hTC⟩ : ∃ z, Hid (Value.agg cx.toArray = z) := ⟨_, rfl⟩
    go_upto_region 5 with (fail)
    refine lbeg (opsOf Try.f29 5) ?_
    refine lnow 0 (.int .i64 (v : Int)) (some 23) ?_
    refine lnow 1 (.pointer (some ⟨q, 4, none⟩)) (some 24) ?_
    refine lcl 2 (.slice (some ⟨pb, po, none⟩) N ac) (some 25) 23 24 q 4 c4 Try.underlying23 ?_
    refine lnow 3 (.int .i64 (i : Int)) (some 26) ?_
    refine lix 4 (.pointer (some ⟨pb, po + 5 * i, none⟩)) (some 27) 23 25 26 (run_at_tm pb po N ac i hlt _) ?_
    refine lrl 5 cx (some 28) 25 27 pb (po + 5 * i) hxr Try.underlying25 (t5Size X5) ?_
    refine lnow 6 (.int .i64 (most : Int)) (some 29) ?_
    refine lcal 7 29 #[.agg cx.toArray, .int .i64 (most : Int)] (some 30) _ CALL ?_
    rintro e w2 ⟨rfl, hb2⟩
    refine ⟨_, rfl, ?_⟩
    refine lnow 8 (.int .i64 (IntKind.i64.wrap ((v : Int) + (r : Int)))) (some 31) ?_
    rw [show IntKind.i64.wrap ((v : Int) + (r : Int)) = ((v + r : Nat) : Int) from (IntWalk.i64_in _ (by have := RB.out; omega)).trans (by omega)]
    obtain ⟨v2, hv2⟩ : ∃ x, Hid (v + r = x) := ⟨_, rfl⟩
    rw [hv2.out]
    refine lnow 9 (.int .i64 (v2 : Int)) (some 5) ?_
    refine ldn 10 ?_
    have BQ2 : Hid (Blk w2 q 25 CS) := BQ.out.below hb2 BQ.out.lt
    have BW2 : Hid (Below q w w2) := BW.out.trans (hb2.mono QW.out)
    have VB : Hid (v2 ≤ 4000000000000) := by have := RB.out; have := hv2.out; rw [Hid]; omega
    rw [hv2.out] at HV2
    clear hb2 BW BQ c4 hB' hB hV CALL hxr hxt hTC
    generalize hact : Act.put _ (some 5) _ = act
    simp only [Act.put, sA, sC, sZ] at hact
    subst hact
    go_wp2
    go_roundw
    case rel => exact ⟨i + 1, v2, by omega, by go_num, rfl, HV2, VB, BQ2, BW2⟩
    case measure => simp [intOf]; omega
   ·have r2 : ¬ (v : Int) ≤ (most : Int) := by omega
    have FIN : Hid (min v (most + 1) = min S (most + 1)) := by
     have h1 := hV.out
     have h2 := hN2.out
     have h3 := nodesTs_take a i
     rw [Hid]
     omega
    go_upto_region 6 with (fail)
    refine lbeg (opsOf Try.f29 6) ?_
    refine lnow 0 (.int .i64 (v : Int)) (some 32) ?_
    refine lnow 1 (.int .i64 (most : Int)) (some 33) ?_
    refine lnow 2 (.int .i64 (IntKind.i64.wrap ((most : Int) + 1))) (some 34) ?_
    rw [show IntKind.i64.wrap ((most : Int) + 1) = ((most + 1 : Nat) : Int) from (IntWalk.i64_in _ (by omega)).trans (by omega)]
    refine lnowP 3 (.int .i64 (min (v : Int) ((most + 1 : Nat) : Int))) (some 35) (exec_min #[3, 3] 3 _ _ (by kernel_rfl)) ?_
    rw [show min (v : Int) ((most + 1 : Nat) : Int) = ((min S (most + 1) : Nat) : Int) from by have := FIN.out; omega]
    refine lnow 4 (.int .i64 ((min S (most + 1) : Nat) : Int)) (some 4) ?_
    refine ldn 5 ?_
    generalize hact : Act.put _ (some 4) _ = act
    simp only [Act.put, sA, sC, sZ] at hact
    subst hact
    go_wp2
    go_ret
    exact ⟨rfl, BW.out⟩
  ·have r1 : ¬ (i : Int) < (N : Int) := by omega
   have FIN : Hid (min v (most + 1) = min S (most + 1)) := by
    have h1 := hV.out
    have h2 := hN2.out
    rw [List.take_of_length_le (by have := hN.out; omega)] at h1
    rw [Hid]
    omega
   go_upto_region 6 with (fail)
   refine lbeg (opsOf Try.f29 6) ?_
   refine lnow 0 (.int .i64 (v : Int)) (some 32) ?_
   refine lnow 1 (.int .i64 (most : Int)) (some 33) ?_
   refine lnow 2 (.int .i64 (IntKind.i64.wrap ((most : Int) + 1))) (some 34) ?_
   rw [show IntKind.i64.wrap ((most : Int) + 1) = ((most + 1 : Nat) : Int) from (IntWalk.i64_in _ (by omega)).trans (by omega)]
   refine lnowP 3 (.int .i64 (min (v : Int) ((most + 1 : Nat) : Int))) (some 35) (exec_min #[3, 3] 3 _ _ (by kernel_rfl)) ?_
   rw [show min (v : Int) ((most + 1 : Nat) : Int) = ((min S (most + 1) : Nat) : Int) from by have := FIN.out; omega]
   refine lnow 4 (.int .i64 ((min S (most + 1) : Nat) : Int)) (some 4) ?_
   refine ldn 5 ?_
   generalize hact : Act.put _ (some 4) _ = act
   simp only [Act.put, sA, sC, sZ] at hact
   subst hact
   go_wp2
   go_ret
   exact ⟨rfl, BW.out⟩
end Go.Proofs.Yteohjbggicchgaa
namespace Go.Proofs.Yteohjbggicchgaa
open Go Go.RowKit
set_option maxRecDepth 100000
theorem bool_eq {a b : Bool} (h : a = b) : Ending.returned (.bool a) = .returned (.bool b) := by rw [h]
theorem Lv.zlen {l : Lv} (h : l.p.length = 4) : (ints .i64 l.zs).length = 5 := by rw [ints_length]; simp [Lv.zs, h]
theorem lvSize {l : Lv} (h : l.p.length = 4) : (Try.prog.info? 80).map (·.size) = some (ints .i64 l.zs).length := by rw [Lv.zlen h]; kernel_rfl
theorem p4Size {p : List Int} (h : p.length = 4) : (Try.prog.info? 78).map (·.size) = some (ints .i64 p).length := by rw [ints_length, h]; kernel_rfl
theorem Blk.plus {w : World} {b : Nat} {t : TypeId} {l : Lv} (h : Blk w b t (ints .i64 l.zs)) : w.rangeAt b 1 (ints .i64 l.p) := fun j v hv => by
 refine h.cell (j := 1 + j) ?_
 rw [Nat.add_comm]
 exact hv
theorem Blk.base {w : World} {b : Nat} {t : TypeId} {l : Lv} (h : Blk w b t (ints .i64 l.zs)) : w.cell? ⟨b, 0, none⟩ = some (.int .i64 l.b) := h.cell rfl
theorem exec_index {P : Program} {a : Act} {w : World} {op : Oper} (t e : TypeId) (x ix : Operand) (ho : op.op = .index t x ix) (n : Nat) (k : IntKind) (ht : P.underlying t = some (.array n e)) (he : P.underlying e = some (.int k)) (hs : (P.info? e).map (·.size) = some 1)
    (l : List Int) (hl : l.length = n) (hx : a.eval x = .agg (ints k l).toArray) (i : Nat) (hi : a.eval ix = .int .i64 (i : Int)) (h : i < n) : (execOp a.eval op).run P w = .ok (.value (.int k (l.getD i 0))) w := by
  obtain ⟨inf, hi1, hi2⟩ := Option.map_eq_some_iff.1 hs
  have hp := run_part_ints w he l i (by omega)
  have hr : (Instr.index t (.agg (ints k l).toArray) (.int .i64 (i : Int))).run P w = .ok (.int k (l.getD i 0)) w := by
    unfold Instr.index
    simp only [Sem.run_bind, run_underlying ht, asIntOf, Sem.run_pure, Result.andThen_ok]
    have hn : (0 : Int) ≤ (i : Int) ∧ (i : Int) < (n : Int) := by omega
    simp only [hn, and_self, if_true, Sem.run_bind, Int.toNat_natCast]
    simpa [sizeOf, typeInfo, hi1, hi2] using hp
  unfold execOp
  simp only [ho, hx, hi, Sem.run_bind, hr, Result.andThen_ok]
  rfl
set_option maxHeartbeats 1000000 in
theorem inb_walk (n : Int) (w : World) : Calls Try.prog 98 #[.int .i64 n] w fun e w' => e = .returned (.bool (decide (0 ≤ n) && decide (n ≤ 100))) ∧ w = w' := by
 by_cases h0 : 0 ≤ n
 ·by_cases h1 : n ≤ 100
  ·go_enter Try.func98, Try.ntmps98
   go_wp2
   go_ret
   exact ⟨by simp [h0, h1], rfl⟩
  ·go_enter Try.func98, Try.ntmps98
   go_wp2
   go_ret
   exact ⟨by simp; omega, rfl⟩
 ·go_enter Try.func98, Try.ntmps98
  go_wp2
  go_ret
  exact ⟨by simp; omega, rfl⟩
set_option maxHeartbeats 1000000 in
theorem right_walk (l : Lv) (hl : l.p.length = 4) (w : World) : Calls Try.prog 89 #[.agg (ints .i64 l.zs).toArray] w fun e w' => e = .returned (.bool (rightL l)) ∧ Below w.heap.size w w' := by
 obtain ⟨q, hq⟩ : ∃ q, Hid (w.heap.size = q) := ⟨_, rfl⟩
 have HL := Lib.hid hl
 clear hl
 go_enter Try.func89, Try.ntmps89
 go_upto_region 0 with (fail)
 refine lbeg (opsOf Try.f89 0) ?_
 refine lbox 0 80 (.tmp 0) (ints .i64 l.zs) q (some 1) hq ?_
 intro w1 b1 be1 hs1
 refine lnow 1 (.bool false) (some 2) ?_
 refine ldn 2 ?_
 have B1 := Lib.hid b1
 have BE : Hid (Below w.heap.size w w1) := by rw [Hid, hq.out]; exact be1
 clear b1 be1 hs1
 generalize hact : Act.put _ (some 2) _ = act
 simp only [Act.put, sA, sC, sZ] at hact
 subst hact
 go_upto_region 1 with (fail)
 refine lbeg (opsOf Try.f89 1) ?_
 refine lnow 0 (.pointer (some ⟨q, 0, none⟩)) (some 5) ?_
 refine lcl 1 (.int .i64 l.b) (some 6) 3 5 q 0 B1.out.base Try.underlying3 ?_
 refine lcal 2 98 #[.int .i64 l.b] (some 7) _ (inb_walk _ _) ?_
 rintro e w' ⟨rfl, rfl⟩
 obtain ⟨ib, hib⟩ : ∃ x, Hid ((decide (0 ≤ l.b) && decide (l.b ≤ 100)) = x) := ⟨_, rfl⟩
 rw [hib.out]
 refine ⟨_, rfl, ?_⟩
 refine lnow 3 (.bool (!ib)) (some 8) ?_
 refine ldn 4 ?_
 generalize hact : Act.put _ (some 8) _ = act
 simp only [Act.put, sA, sC, sZ] at hact
 subst hact
 cases ib with
 | false =>
  have NO : Hid (rightL l = false) := by rw [Hid, rightL, hib.out, Bool.false_and]
  go_wp2
  go_ret
  exact ⟨bool_eq NO.out.symm, BE.out⟩
 | true =>
  have IB : Hid (0 ≤ l.b ∧ l.b ≤ 100) := by unfold Hid; have := hib.out; simpa using this
  clear hib
  go_upto_region 3 with (fail)
  refine lbeg (opsOf Try.f89 3) ?_
  refine lnow 0 (.pointer (some ⟨q, 1, none⟩)) (some 9) ?_
  refine lrl 1 (ints .i64 l.p) (some 10) 78 9 q 1 B1.out.plus Try.underlying78 (p4Size HL.out) ?_
  refine lnow 2 (.int .i64 0) (some 11) ?_
  refine ldn 3 ?_
  generalize hact : Act.put _ (some 11) _ = act
  simp only [Act.put, sA, sC, sZ] at hact
  subst hact
  go_wp2
  go_loop [11] (fun iv => ∃ k : Nat, k ≤ 4 ∧ iv = .int .i64 (k : Int) ∧ Hid (∀ i, i < k → -1 ≤ l.p.getD i 0 ∧ l.p.getD i 0 ≤ l.b)) (fun iv => 4 - (intOf iv).toNat)
  case atStart => exact ⟨0, Nat.zero_le _, rfl, fun i hi => by omega⟩
  case round =>
   obtain ⟨k, hk, rfl, hR⟩ := hrel
   by_cases hlt : k < 4
   ·have r1 : (k : Int) < 4 := by omega
    go_upto_region 5 with (fail)
    refine lbeg (opsOf Try.f89 5) ?_
    refine lnowP 0 (.int .i64 (l.p.getD k 0)) (some 13) (exec_index 78 3 (.tmp 10) (.tmp 11) (by kernel_rfl) 4 .i64 Try.underlying78 Try.underlying3 (by kernel_rfl) l.p HL.out (by kernel_rfl) k (by kernel_rfl) hlt) ?_
    refine lnow 1 (.int .i64 (l.p.getD k 0)) (some 4) ?_
    refine ldn 2 ?_
    generalize hact : Act.put _ (some 4) _ = act
    simp only [Act.put, sA, sC, sZ] at hact
    subst hact
    obtain ⟨x, hx⟩ : ∃ x, Hid (l.p.getD k 0 = x) := ⟨_, rfl⟩
    rw [hx.out]
    have c0 := B1.out.base
    obtain ⟨bb, hbb⟩ : ∃ x, Hid (l.b = x) := ⟨_, rfl⟩
    rw [hbb.out] at c0
    have NO : Hid (¬ (-1 ≤ x ∧ x ≤ bb) → rightL l = false) := fun h => by
     rw [Bool.eq_false_iff]
     intro hr
     have := right_at hr (i := k) (by rw [HL.out]; exact hlt)
     rw [hx.out, hbb.out] at this
     exact h this
    by_cases h2 : x < -1
    ·go_wp2
     go_ret
     exact ⟨bool_eq (NO.out (by omega)).symm, BE.out⟩
    ·by_cases h3 : bb < x
     ·go_wp2
      go_ret
      exact ⟨bool_eq (NO.out (by omega)).symm, BE.out⟩
     ·have hR2 : Hid (∀ i, i < k + 1 → -1 ≤ l.p.getD i 0 ∧ l.p.getD i 0 ≤ l.b) := fun i hi => by
       by_cases e : i = k
       ·subst e
        rw [hx.out, hbb.out]
        omega
       ·exact hR.out i (by omega)
      go_wp2
      go_round
      case rel => exact ⟨k + 1, by omega, by go_num, hR2⟩
      case measure => simp [intOf]; omega
   ·have r1 : ¬ (k : Int) < 4 := by omega
    have YES : Hid (rightL l = true) := right_all HL.out IB.out.1 IB.out.2 (fun i hi => hR.out i (by omega))
    go_wp2
    go_ret
    exact ⟨bool_eq YES.out.symm, BE.out⟩
set_option maxHeartbeats 1000000 in
theorem width_walk (l : Lv) (hl : l.p.length = 4) (w : World) : Calls Try.prog 90 #[.agg (ints .i64 l.zs).toArray] w fun e w' => e = .returned (.int .i64 (widthL l : Int)) ∧ Below w.heap.size w w' := by
 obtain ⟨q, hq⟩ : ∃ q, Hid (w.heap.size = q) := ⟨_, rfl⟩
 have HL := Lib.hid hl
 clear hl
 go_enter Try.func90, Try.ntmps90
 go_upto_region 0 with (fail)
 refine lbeg (opsOf Try.f90 0) ?_
 refine lbox 0 80 (.tmp 0) (ints .i64 l.zs) q (some 1) hq ?_
 intro w1 b1 be1 hs1
 refine lnow 1 (.int .i64 0) (some 2) ?_
 refine ldn 2 ?_
 have B1 := Lib.hid b1
 have BE : Hid (Below w.heap.size w w1) := by rw [Hid, hq.out]; exact be1
 clear b1 be1 hs1
 generalize hact : Act.put _ (some 2) _ = act
 simp only [Act.put, sA, sC, sZ] at hact
 subst hact
 go_upto_region 2 with (fail)
 refine lbeg (opsOf Try.f90 2) ?_
 refine lnow 0 (.pointer (some ⟨q, 1, none⟩)) (some 6) ?_
 refine lrl 1 (ints .i64 l.p) (some 7) 78 6 q 1 B1.out.plus Try.underlying78 (p4Size HL.out) ?_
 refine lnow 2 (.int .i64 0) (some 8) ?_
 refine ldn 3 ?_
 generalize hact : Act.put _ (some 8) _ = act
 simp only [Act.put, sA, sC, sZ] at hact
 subst hact
 go_wp2
 go_loop [3, 8] (fun wv iv => ∃ k : Nat, k ≤ 4 ∧ iv = .int .i64 (k : Int) ∧ wv = .int .i64 (widthUp l k : Int)) (fun _ iv => 4 - (intOf iv).toNat)
 case atStart => exact ⟨0, Nat.zero_le _, rfl, rfl⟩
 case round =>
  obtain ⟨k, hk, rfl, rfl⟩ := hrel
  by_cases hlt : k < 4
  ·have r1 : (k : Int) < 4 := by omega
   go_upto_region 4 with (fail)
   refine lbeg (opsOf Try.f90 4) ?_
   refine lnow 0 (.int .i64 (k : Int)) (some 10) ?_
   refine lnowP 1 (.int .i64 (l.p.getD k 0)) (some 11) (exec_index 78 3 (.tmp 7) (.tmp 8) (by kernel_rfl) 4 .i64 Try.underlying78 Try.underlying3 (by kernel_rfl) l.p HL.out (by kernel_rfl) k (by kernel_rfl) hlt) ?_
   refine lnow 2 (.int .i64 (k : Int)) (some 4) ?_
   refine lnow 3 (.int .i64 (l.p.getD k 0)) (some 5) ?_
   refine ldn 4 ?_
   generalize hact : Act.put _ (some 5) _ = act
   simp only [Act.put, sA, sC, sZ] at hact
   subst hact
   obtain ⟨x, hx⟩ : ∃ x, Hid (l.p.getD k 0 = x) := ⟨_, rfl⟩
   rw [hx.out]
   obtain ⟨u, hu⟩ : ∃ x, Hid (widthUp l k = x) := ⟨_, rfl⟩
   rw [hu.out]
   by_cases h2 : x = -1
   ·have e2 : Hid (widthUp l (k + 1) = u) := by rw [Hid, widthUp, hx.out, if_pos h2, hu.out]
    subst h2
    go_wp2
    go_round
    case rel => exact ⟨k + 1, by omega, by go_num, by rw [e2.out]⟩
    case measure => simp [intOf]; omega
   ·have e2 : Hid (widthUp l (k + 1) = k + 1) := by rw [Hid, widthUp, hx.out, if_neg h2]
    go_wp2
    go_round
    case rel => exact ⟨k + 1, by omega, by go_num, by rw [e2.out]; go_num⟩
    case measure => simp [intOf]; omega
  ·have r1 : ¬ (k : Int) < 4 := by omega
   obtain rfl : k = 4 := by omega
   go_wp2
   go_ret
   exact ⟨rfl, BE.out⟩
def z5 : List Int := [0, 0, 0, 0, 0]
theorem zeroLv : (Try.prog.info? 80).map (·.zero) = some (some (.agg (ints .i64 z5).toArray)) := by kernel_rfl
theorem sizeInt : (Try.prog.info? 3).map (·.size) = some 1 := by kernel_rfl
theorem run_at_arr4 (g o p : Nat) (hp : p < 4) (w : World) : (Instr.indexAt 78 (.pointer (some ⟨g, o, none⟩)) (.int .i64 (p : Int))).run Try.prog w = .ok (.pointer (some ⟨g, o + p, none⟩)) w := by
 have hz : (sizeOf (Try.prog.elem 78)).run Try.prog w = .ok 1 w := by kernel_rfl
 have hA : Try.prog.arrayLen 78 = 4 := by kernel_rfl
 have ht : Try.prog.underlying 78 = some (.array (Try.prog.arrayLen 78) (Try.prog.elem 78)) := by kernel_rfl
 rw [run_indexAt_array w 78 _ _ _ ht, if_pos (by rw [hA]; omega), hz, Result.andThen_ok, Addr.add_mid, Int.toNat_natCast, Nat.mul_one]
theorem elemLvs : Try.prog.underlying 22 = some (.slice (Try.prog.elem 22)) := by kernel_rfl
theorem run_at_lv (B off n cap m : Nat) (hm : m < n) (w : World) : (Instr.indexAt 22 (.slice (some ⟨B, off, none⟩) n cap) (.int .i64 (m : Int))).run Try.prog w = .ok (.pointer (some ⟨B, off + 5 * m, none⟩)) w := by
 rw [run_indexAt_slice w 22 _ _ _ _ _ elemLvs]
 have hz : (sizeOf (Try.prog.elem 22)).run Try.prog w = .ok 5 w := by kernel_rfl
 rw [if_pos (by omega), hz, Result.andThen_ok, Addr.add_mid, Int.toNat_natCast, Nat.mul_comm]
end Go.Proofs.Yteohjbggicchgaa
namespace Go.Proofs.Yteohjbggicchgaa
open Go Go.RowKit
set_option maxRecDepth 100000
noncomputable def lvF0 : Field := (Try.prog.fieldsOf 80)[0]!
noncomputable def lvF1 : Field := (Try.prog.fieldsOf 80)[1]!
theorem lvFs : (Try.prog.fieldsOf 80).toList = [lvF0, lvF1] := by kernel_rfl
theorem lvF0n : lvF0.name = "Base" := by kernel_rfl
theorem lvF1n : lvF1.name = "Plus" := by kernel_rfl
theorem lvF0t : lvF0.type = 3 := by kernel_rfl
theorem lvF1t : lvF1.type = 78 := by kernel_rfl
theorem lvF0o : lvF0.offset = 0 := by kernel_rfl
theorem lvF1o : lvF1.offset = 1 := by kernel_rfl
theorem run_part_p {b : Int} {p : List Int} (h : p.length = 4) (w : World) : (part 78 (ints .i64 (b :: p)).toArray 1).run Try.prog w = .ok (.agg (ints .i64 p).toArray) w := by
 have hag : (isAgg 78).run Try.prog w = .ok true w := by kernel_rfl
 have hz : (sizeOf 78).run Try.prog w = .ok 4 w := by kernel_rfl
 unfold part
 simp only [Sem.run_bind, hag, Result.andThen_ok, if_true, hz, Sem.run_pure]
 have e : (ints .i64 (b :: p)).toArray.extract 1 (1 + 4) = (ints .i64 p).toArray :=
  match p, h with
  | [_, _, _, _], _ => rfl
 rw [e]
theorem run_eq_lv {a b : Lv} (ha : a.p.length = 4) (hb : b.p.length = 4) (w : World) : (Op.equalIn 10000 80 (.agg (ints .i64 a.zs).toArray) (.agg (ints .i64 b.zs).toArray)).run Try.prog w = .ok (decide (a = b)) w := by
 rw [show (10000 : Nat) = 9999 + 1 from rfl, run_equalIn_struct w 9999 _ _ _ (by kernel_rfl) (by kernel_rfl), lvFs]
 have h1 := run_part_ints w Try.underlying3 a.zs 0 (by simp [Lv.zs])
 have h2 := run_part_ints w Try.underlying3 b.zs 0 (by simp [Lv.zs])
 have h3 := run_part_p (b := a.b) ha w
 have h4 := run_part_p (b := b.b) hb w
 have h5 := run_equalIn_int w 9998 3 .i64 .i64 a.b b.b Try.underlying3
 have h6 : (Op.equalIn 9999 78 (.agg (ints .i64 a.p).toArray) (.agg (ints .i64 b.p).toArray)).run Try.prog w = .ok (decide (a.p = b.p)) w := run_equalIn_ints w 9997 Try.underlying78 Try.underlying3 sizeInt a.p b.p ha hb
 have e1 : a.zs.getD 0 0 = a.b := rfl
 have e2 : b.zs.getD 0 0 = b.b := rfl
 have n0 : lvF0.name ≠ "_" := by rw [lvF0n]; decide
 have n1 : lvF1.name ≠ "_" := by rw [lvF1n]; decide
 rw [e1] at h1
 rw [e2] at h2
 have h5' : (Op.equalIn 9999 3 (.int .i64 a.b) (.int .i64 b.b)).run Try.prog w = .ok (a.b == b.b) w := h5
 unfold Op.eqFields
 rw [if_pos n0]
 simp only [Sem.run_bind, lvF0t, lvF0o, h1, h2, Result.andThen_ok, h5']
 cases hq : (a.b == b.b)
 ·rw [if_pos (by rfl)]
  rw [decide_eq_false (fun e => by rw [e] at hq; simp at hq)]
  rfl
 ·have e : a.b = b.b := by simpa using hq
  rw [if_neg (by decide)]
  unfold Op.eqFields
  rw [if_pos n1]
  have h3' : (part 78 (ints .i64 a.zs).toArray 1).run Try.prog w = .ok (.agg (ints .i64 a.p).toArray) w := h3
  have h4' : (part 78 (ints .i64 b.zs).toArray 1).run Try.prog w = .ok (.agg (ints .i64 b.p).toArray) w := h4
  simp only [Sem.run_bind, lvF1t, lvF1o, h3', h4', Result.andThen_ok, h6]
  by_cases hp : a.p = b.p
  ·rw [decide_eq_true hp, if_neg (by decide)]
   have : a = b := by
    obtain ⟨ab, ap⟩ := a
    obtain ⟨bb, bp⟩ := b
    simp only at e hp
    rw [e, hp]
   rw [decide_eq_true this]
   rfl
  ·rw [decide_eq_false hp, if_pos (by rfl)]
   rw [decide_eq_false (fun e => hp (by rw [e]))]
   rfl
end Go.Proofs.Yteohjbggicchgaa
