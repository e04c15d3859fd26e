/- The document's own Loose; whether terms are great. -/
import Derived.Test.YtndbpmkglddjjaaQGenT
import Derived.Test.YtndbpmkglddjjaaQTrmRr
import Derived.Test.YtndbpmkglddjjaaQTrmQ
import Derived.Test.YtndbpmkglddjjaaQMovM
namespace Go.Proofs.Ytndbpmkglddjjaa
open Go Go.RowKit
set_option maxRecDepth 100000
theorem looses_take {d k : Int} : ∀ (ts : List Tm) (i : Nat) (x : Tm), looseTs d k i (ts ++ [x]) = max (looseTs d k i ts) (looseT (d + moreT k (i + ts.length)) x)
  | [], i, x => by
    have h := loose_nonneg x (d + moreT k i)
    simp only [List.nil_append, looseTs, List.length_nil, Nat.add_zero]
    omega
  | t :: ts, i, x => by
    rw [List.cons_append, looseTs, looses_take ts (i + 1) x, looseTs, show i + 1 + ts.length = i + (t :: ts).length by simp; omega]
    omega
set_option maxHeartbeats 8000000 in
theorem rloose_walk : ∀ (t : Tm) (cs : List Value) (w : World) (d : Int) (F : List Nat), TmAt F w t cs → SmT t → (0 ≤ d ∧ d + (nodesT t : Int) ≤ 1125899906842624) → BndT t → Calls Try.prog 48 #[.agg cs.toArray, .int .i64 d] w fun e w' => e = .returned (.int .i64 (looseT d t)) ∧ Below w.heap.size w w' := by
  refine Tm.byParts fun k n s ls a ih cs w d F h hs hd hb => ?_
  obtain ⟨lv, av, rfl, h1, h2⟩ := h.open
  obtain ⟨-, -, sa, ss⟩ := hs.open
  dsimp only [Tm.kind, Tm.n, Tm.name, Tm.levels, Tm.args] at h h1 h2 sa ss ⊢
  obtain ⟨aa, ac, rfl⟩ := h2.slice
  have hr : reachBytes = 140737488351232 := rfl
  rw [hr] at sa
  rw [BndT] at hb
  have BDH := Lib.hid hb
  have HND : Hid (∀ x ∈ a, nodesT x + 1 ≤ nodesT (.mk k n s ls a)) := fun x hx => by have := nodesT_mem hx; rw [nodesT]; omega
  obtain ⟨NN, hNN⟩ : ∃ y, Hid (nodesT (.mk k n s ls a) = y) := ⟨_, rfl⟩
  rw [hNN.out] at hd HND
  obtain ⟨N, hN⟩ : ∃ N, Hid (a.length = N) := ⟨_, rfl⟩
  rw [hN.out] at sa h2 ⊢
  obtain ⟨R, hR⟩ : ∃ R, Hid (looseT d (.mk k n s ls a) = R) := ⟨_, rfl⟩
  rw [hR.out]
  have H2 := Lib.hid h2
  have SS := Lib.hid ss
  have IH := Lib.hid ih
  clear h1 h2 h hs ss ih hb
  obtain ⟨q, hq⟩ : ∃ q, Hid (w.heap.size = q) := ⟨_, rfl⟩
  obtain ⟨CS, hCS⟩ : ∃ x, Hid ([.int .i64 k, .int .i64 n, strT s, lv, .slice aa N ac] = x) := ⟨_, rfl⟩
  rw [hCS.out]
  go_enter Try.func48, Try.ntmps48
  go_upto_region 0 with (fail)
  refine lbeg (opsOf Try.f48 0) ?_
  refine lbox 0 25 (.tmp 0) (CS) (q) (some 2) hq ?_
  intro w1 bw1 bew1 hsw1
  refine lnow 1 (.int .i64 0) (some 4) ?_
  refine ldn 2 ?_
  generalize hact : Act.put _ (some 4) _ = act
  simp only [Act.put, sA, sC, sZ] at hact
  subst hact
  have BQ := Lib.hid bw1
  have BE : Hid (Below w.heap.size w w1) := by rw [Hid, hq.out]; exact bew1
  clear bw1 bew1 hsw1
  by_cases hk : k = 1
  · skip
    go_upto_region 1 with (fail)
    refine lbeg (opsOf Try.f48 1) ?_
    refine lnow 0 (.pointer (some ⟨q, 0, none⟩)) (some 8) ?_
    refine lcl 1 (.int .i64 k) (some 9) 3 8 (q) 0 (BQ.out.cell (by rw [← hCS.out]; rfl)) Try.underlying3 ?_
    refine lnowP 2 (.bool true) (some 10) (exec_eqli_yes hk (by kernel_rfl)) ?_
    refine ldn 3 ?_
    generalize hact : Act.put _ (some 10) _ = act
    simp only [Act.put, sA, sC, sZ] at hact
    subst hact
    go_upto_region 2 with (fail)
    refine lbeg (opsOf Try.f48 2) ?_
    refine lnow 0 (.pointer (some ⟨q, 1, none⟩)) (some 11) ?_
    refine lcl 1 (.int .i64 n) (some 12) 3 11 (q) 1 (BQ.out.cell (by rw [← hCS.out]; rfl)) Try.underlying3 ?_
    refine lnow 2 (.int .i64 d) (some 13) ?_
    refine lnow 3 (.int .i64 (IntKind.i64.wrap (n - d))) (some 14) ?_
    rw [show IntKind.i64.wrap (n - d) = n - d from IntWalk.i64_in _ (by have := BDH.out; omega)]
    refine lnow 4 (.int .i64 (IntKind.i64.wrap (n - d + 1))) (some 15) ?_
    rw [show IntKind.i64.wrap (n - d + 1) = n - d + 1 from IntWalk.i64_in _ (by have := BDH.out; omega)]
    refine lnowP 5 (.int .i64 (max (n - d + 1) 0)) (some 16) (exec_max #[3, 3] 3 (n - d + 1) 0 (by kernel_rfl)) ?_
    refine lnow 6 (.int .i64 (max (n - d + 1) 0)) (some 4) ?_
    refine ldn 7 ?_
    generalize hact : Act.put _ (some 4) _ = act
    simp only [Act.put, sA, sC, sZ] at hact
    subst hact
    have FIN : Hid (R = max (n - d + 1) 0) := by rw [← hR.out]; rw [Hid, looseT, if_pos hk]
    go_wp2
    go_ret
    exact ⟨by rw [FIN.out]; rfl, BE.out⟩
  go_upto_region 1 with (fail)
  refine lbeg (opsOf Try.f48 1) ?_
  refine lnow 0 (.pointer (some ⟨q, 0, none⟩)) (some 8) ?_
  refine lcl 1 (.int .i64 k) (some 9) 3 8 (q) 0 (BQ.out.cell (by rw [← hCS.out]; rfl)) Try.underlying3 ?_
  refine lnowP 2 (.bool false) (some 10) (exec_eqli hk (by kernel_rfl)) ?_
  refine ldn 3 ?_
  generalize hact : Act.put _ (some 10) _ = act
  simp only [Act.put, sA, sC, sZ] at hact
  subst hact
  have RV : Hid (R = looseTs d k 0 a) := by rw [← hR.out]; rw [Hid, looseT, if_neg hk]
  clear hk
  go_upto_region 3 with (fail)
  refine lbeg (opsOf Try.f48 3) ?_
  refine lnow 0 (.int .i64 0) (some 5) ?_
  refine ldn 1 ?_
  generalize hact : Act.put _ (some 5) _ = act
  simp only [Act.put, sA, sC, sZ] at hact
  subst hact
  go_upto_region 4 with (fail)
  refine lbeg (opsOf Try.f48 4) ?_
  refine lnow 0 (.int .i64 0) (some 6) ?_
  refine ldn 1 ?_
  generalize hact : Act.put _ (some 6) _ = act
  simp only [Act.put, sA, sC, sZ] at hact
  subst hact
  go_wp2
  go_loopw [5, 6] (fun ov iv wr => ∃ i : Nat, i ≤ N ∧ iv = .int .i64 (i : Int) ∧ ov = .int .i64 (looseTs d k 0 (a.take i)) ∧ Hid (Blk wr q 25 CS) ∧ Hid (Below w.heap.size w wr)) (fun _ iv _ => N - (intOf iv).toNat)
  case atStart => exact ⟨0, Nat.zero_le _, rfl, by rw [List.take_zero]; rfl, BQ, BE⟩
  case round =>
    obtain ⟨i, hi, rfl, rfl, BQ, BE⟩ := hrel
    by_cases hlt : i < N
    rotate_left
    · skip
      have cl : ¬ (i : Int) < (N : Int) := by omega
      have FIN : Hid (looseTs d k 0 (a.take i) = R) := by rw [Hid, List.take_of_length_le (by have := hN.out; omega)]; exact RV.out.symm
      go_upto_region 5 with (fail)
      refine lbeg (opsOf Try.f48 5) ?_
      refine lnow 0 (.int .i64 (i : Int)) (some 17) ?_
      refine lnow 1 (.pointer (some ⟨q, 4, none⟩)) (some 18) ?_
      refine lcl 2 (.slice aa N ac) (some 19) 23 18 (q) 4 (BQ.out.cell (by rw [← hCS.out]; rfl)) Try.underlying23 ?_
      refine lnow 3 (.int .i64 (N : Int)) (some 20) ?_
      refine lnow 4 (.bool (decide ((i : Int) < (N : Int)))) (some 21) ?_
      rw [show decide ((i : Int) < (N : Int)) = false from decide_eq_false cl]
      refine ldn 5 ?_
      generalize hact : Act.put _ (some 21) _ = act
      simp only [Act.put, sA, sC, sZ] at hact
      subst hact
      go_upto_region 11 with (fail)
      refine lbeg (opsOf Try.f48 11) ?_
      refine lnow 0 (.int .i64 (looseTs d k 0 (a.take i))) (some 39) ?_
      refine lnow 1 (.int .i64 (looseTs d k 0 (a.take i))) (some 4) ?_
      refine ldn 2 ?_
      generalize hact : Act.put _ (some 4) _ = act
      simp only [Act.put, sA, sC, sZ] at hact
      subst hact
      go_wp2
      go_ret
      exact ⟨by rw [← FIN.out]; rfl, BE.out⟩
    have cl : (i : Int) < (N : Int) := by omega
    have H2r : TmsAt F wr a (.slice aa N ac) := H2.out.below BE.out
    obtain ⟨x, pb, po, cx, hx, hxm, haa, -, -, -, hrx, htx⟩ := H2r.get hN.out hlt
    subst haa
    have SX := SmTs.mem SS.out hxm
    have HRX := Lib.hid hrx
    have X5 := Lib.hid htx.len
    have TK : Hid (a.take (i + 1) = a.take i ++ [x]) := by rw [Hid, List.take_add_one, hx]; rfl
    have TL : Hid ((a.take i).length = i) := by rw [Hid, List.length_take]; have := hN.out; omega
    have hnx := HND.out x hxm
    obtain ⟨m, hm⟩ : ∃ m, Hid (moreT k i = m) := ⟨_, rfl⟩
    have hm01 : 0 ≤ m ∧ m ≤ 1 := by have := more_01 k i; rw [hm.out] at this; exact this
    have CALL := IH.out x hxm cx wr (d + m) F htx SX (by omega) (BndTs.mem BDH.out.2 hxm)
    obtain ⟨rx, hrxx⟩ : ∃ y, Hid (looseT (d + m) x = y) := ⟨_, rfl⟩
    rw [hrxx.out] at CALL
    obtain ⟨pre, hpre⟩ : ∃ y, Hid (looseTs d k 0 (a.take i) = y) := ⟨_, rfl⟩
    have NXT : Hid (looseTs d k 0 (a.take (i + 1)) = max pre rx) := by rw [Hid, TK.out, looses_take, TL.out, Nat.zero_add, hm.out, hrxx.out, hpre.out]
    rw [hpre.out]
    clear H2r hx hxm hrx htx SX TK
    have BW := binds_walk k i
    have hmb : (decide (((k = 6 ∨ k = 7) ∧ (i : Int) = 1) ∨ (k = 8 ∧ (i : Int) = 2))) = decide (m = 1) := by
      rw [← hm.out, decide_eq_decide]
      unfold moreT
      split <;> omega
    rw [hmb] at BW
    clear hmb
    go_upto_region 5 with (fail)
    refine lbeg (opsOf Try.f48 5) ?_
    refine lnow 0 (.int .i64 (i : Int)) (some 17) ?_
    refine lnow 1 (.pointer (some ⟨q, 4, none⟩)) (some 18) ?_
    refine lcl 2 (.slice (some ⟨pb, po, none⟩) N ac) (some 19) 23 18 (q) 4 (BQ.out.cell (by rw [← hCS.out]; rfl)) Try.underlying23 ?_
    refine lnow 3 (.int .i64 (N : Int)) (some 20) ?_
    refine lnow 4 (.bool (decide ((i : Int) < (N : Int)))) (some 21) ?_
    rw [show decide ((i : Int) < (N : Int)) = true from decide_eq_true cl]
    refine ldn 5 ?_
    generalize hact : Act.put _ (some 21) _ = act
    simp only [Act.put, sA, sC, sZ] at hact
    subst hact
    go_upto_region 7 with (fail)
    refine lbeg (opsOf Try.f48 7) ?_
    refine lnow 0 (.int .i64 0) (some 7) ?_
    refine ldn 1 ?_
    generalize hact : Act.put _ (some 7) _ = act
    simp only [Act.put, sA, sC, sZ] at hact
    subst hact
    by_cases hm1 : m = 1
    · skip
      go_upto_region 8 with (fail)
      refine lbeg (opsOf Try.f48 8) ?_
      refine lnow 0 (.pointer (some ⟨q, 0, none⟩)) (some 24) ?_
      refine lcl 1 (.int .i64 k) (some 25) 3 24 (q) 0 (BQ.out.cell (by rw [← hCS.out]; rfl)) Try.underlying3 ?_
      refine lnow 2 (.int .i64 (i : Int)) (some 26) ?_
      refine lcal 3 86 #[.int .i64 k, .int .i64 (i : Int)] (some 27) _ (BW wr) ?_
      rintro e w' ⟨rfl, hw'⟩
      obtain rfl := hw'.symm
      refine ⟨_, rfl, ?_⟩
      rw [show decide (m = 1) = true from decide_eq_true hm1]
      refine ldn 4 ?_
      generalize hact : Act.put _ (some 27) _ = act
      simp only [Act.put, sA, sC, sZ] at hact
      subst hact
      clear BW
      go_upto_region 9 with (fail)
      refine lbeg (opsOf Try.f48 9) ?_
      refine lnow 0 (.int .i64 1) (some 7) ?_
      refine ldn 1 ?_
      generalize hact : Act.put _ (some 7) _ = act
      simp only [Act.put, sA, sC, sZ] at hact
      subst hact
      go_upto_region 10 with (fail)
      refine lbeg (opsOf Try.f48 10) ?_
      refine lnow 0 (.int .i64 pre) (some 28) ?_
      refine lnow 1 (.pointer (some ⟨q, 4, none⟩)) (some 29) ?_
      refine lcl 2 (.slice (some ⟨pb, po, none⟩) N ac) (some 30) 23 29 (q) 4 (BQ.out.cell (by rw [← hCS.out]; rfl)) Try.underlying23 ?_
      refine lnow 3 (.int .i64 (i : Int)) (some 31) ?_
      refine lix 4 (.pointer (some ⟨pb, po + 5 * i, none⟩)) (some 32) 23 30 31 (run_at_tm pb po N ac i hlt _) ?_
      refine lrl 5 cx (some 33) 25 32 pb (po + 5 * i) HRX.out Try.underlying25 (t5Size X5.out) ?_
      refine lnow 6 (.int .i64 d) (some 34) ?_
      refine lnow 7 (.int .i64 1) (some 35) ?_
      refine lnow 8 (.int .i64 (IntKind.i64.wrap (d + 1))) (some 36) ?_
      rw [show IntKind.i64.wrap (d + 1) = d + m by rw [IntWalk.i64_in _ (by omega)]; omega]
      refine lcal 9 48 #[.agg cx.toArray, .int .i64 (d + m)] (some 37) _ (CALL) ?_
      rintro e w2 ⟨rfl, hb⟩
      refine ⟨_, rfl, ?_⟩
      have BE2 : Hid (Below w.heap.size w w2) := BE.out.trans (hb.mono BE.out.size)
      have BQ2 : Hid (Blk w2 q 25 CS) := BQ.out.below hb BQ.out.lt
      clear hb CALL
      refine lnowP 10 (.int .i64 (max pre rx)) (some 38) (exec_max #[3, 3] 3 pre rx (by kernel_rfl)) ?_
      refine lnow 11 (.int .i64 (max pre rx)) (some 5) ?_
      refine ldn 12 ?_
      generalize hact : Act.put _ (some 5) _ = act
      simp only [Act.put, sA, sC, sZ] at hact
      subst hact
      clear HRX X5 hm hrxx BQ BE hnx
      have bl := sa
      go_wp2
      go_roundw
      case rel => exact ⟨i + 1, by omega, by go_num, by rw [NXT.out], BQ2, BE2⟩
      case measure => simp [intOf]; omega
    go_upto_region 8 with (fail)
    refine lbeg (opsOf Try.f48 8) ?_
    refine lnow 0 (.pointer (some ⟨q, 0, none⟩)) (some 24) ?_
    refine lcl 1 (.int .i64 k) (some 25) 3 24 (q) 0 (BQ.out.cell (by rw [← hCS.out]; rfl)) Try.underlying3 ?_
    refine lnow 2 (.int .i64 (i : Int)) (some 26) ?_
    refine lcal 3 86 #[.int .i64 k, .int .i64 (i : Int)] (some 27) _ (BW wr) ?_
    rintro e w' ⟨rfl, hw'⟩
    obtain rfl := hw'.symm
    refine ⟨_, rfl, ?_⟩
    rw [show decide (m = 1) = false from decide_eq_false hm1]
    refine ldn 4 ?_
    generalize hact : Act.put _ (some 27) _ = act
    simp only [Act.put, sA, sC, sZ] at hact
    subst hact
    clear BW
    go_upto_region 10 with (fail)
    refine lbeg (opsOf Try.f48 10) ?_
    refine lnow 0 (.int .i64 pre) (some 28) ?_
    refine lnow 1 (.pointer (some ⟨q, 4, none⟩)) (some 29) ?_
    refine lcl 2 (.slice (some ⟨pb, po, none⟩) N ac) (some 30) 23 29 (q) 4 (BQ.out.cell (by rw [← hCS.out]; rfl)) Try.underlying23 ?_
    refine lnow 3 (.int .i64 (i : Int)) (some 31) ?_
    refine lix 4 (.pointer (some ⟨pb, po + 5 * i, none⟩)) (some 32) 23 30 31 (run_at_tm pb po N ac i hlt _) ?_
    refine lrl 5 cx (some 33) 25 32 pb (po + 5 * i) HRX.out Try.underlying25 (t5Size X5.out) ?_
    refine lnow 6 (.int .i64 d) (some 34) ?_
    refine lnow 7 (.int .i64 0) (some 35) ?_
    refine lnow 8 (.int .i64 (IntKind.i64.wrap (d + 0))) (some 36) ?_
    rw [show IntKind.i64.wrap (d + 0) = d + m by rw [IntWalk.i64_in _ (by omega)]; omega]
    refine lcal 9 48 #[.agg cx.toArray, .int .i64 (d + m)] (some 37) _ (CALL) ?_
    rintro e w2 ⟨rfl, hb⟩
    refine ⟨_, rfl, ?_⟩
    have BE2 : Hid (Below w.heap.size w w2) := BE.out.trans (hb.mono BE.out.size)
    have BQ2 : Hid (Blk w2 q 25 CS) := BQ.out.below hb BQ.out.lt
    clear hb CALL
    refine lnowP 10 (.int .i64 (max pre rx)) (some 38) (exec_max #[3, 3] 3 pre rx (by kernel_rfl)) ?_
    refine lnow 11 (.int .i64 (max pre rx)) (some 5) ?_
    refine ldn 12 ?_
    generalize hact : Act.put _ (some 5) _ = act
    simp only [Act.put, sA, sC, sZ] at hact
    subst hact
    clear HRX X5 hm hrxx BQ BE hnx
    have bl := sa
    go_wp2
    go_roundw
    case rel => exact ⟨i + 1, by omega, by go_num, by rw [NXT.out], BQ2, BE2⟩
    case measure => simp [intOf]; omega
/-- What great answers: true, or of terms that are small. -/
def GreatP (t : Tm) (N : Nat) (w : World) (e : Ending) (w' : World) : Prop := ∃ b, e = .returned (.bool b) ∧ (b = false → nodesT t ≤ 3600 ∧ N ≤ 12) ∧ Below w.heap.size w w'
set_option maxHeartbeats 4000000 in
theorem great9_walk {F : List Nat} (t : Tm) (cs : List Value) (xa : List Tm) (N : Nat) (aa : Option Addr) (ac : Nat) (w : World) (ht : TmAt F w t cs) (hs : SmT t) (hA : TmsAt F w xa (.slice aa N ac)) (hsa : SmTs xa) (hN : xa.length = N) : Calls Try.prog 17 #[.agg cs.toArray, .slice aa N ac] w fun e w' => GreatP t N w e w' := by
  have C5 := Lib.hid ht.len
  have HT := Lib.hid ht
  have HA := Lib.hid hA
  obtain ⟨q, hq⟩ : ∃ q, Hid (w.heap.size = q) := ⟨_, rfl⟩
  have GW := fun w' (h : TmAt F w' t cs) => great_walk t cs w' h hs
  obtain ⟨gb, hgb⟩ : ∃ y, Hid (decide (3600 < nodesT t) = y) := ⟨_, rfl⟩
  rw [hgb.out] at GW
  clear ht hA
  go_enter Try.func17, Try.ntmps17
  go_upto_region 0 with (fail)
  refine lbeg (opsOf Try.f17 0) ?_
  refine lbox 0 25 (.tmp 0) (cs) (q) (some 2) hq ?_
  intro w1 bw1 bew1 hsw1
  refine lnow 1 (.bool false) (some 4) ?_
  refine ldn 2 ?_
  generalize hact : Act.put _ (some 4) _ = act
  simp only [Act.put, sA, sC, sZ] at hact
  subst hact
  have BQ := Lib.hid bw1
  have BE : Hid (Below w.heap.size w w1) := by rw [Hid, hq.out]; exact bew1
  clear bw1 bew1 hsw1
  by_cases c1 : (N : Int) > 12
  · skip
    go_upto_region 1 with (fail)
    refine lbeg (opsOf Try.f17 1) ?_
    refine lnow 0 (.slice aa N ac) (some 7) ?_
    refine lnow 1 (.int .i64 (N : Int)) (some 8) ?_
    refine lnow 2 (.bool (decide ((N : Int) > 12))) (some 9) ?_
    rw [show decide ((N : Int) > 12) = true from decide_eq_true c1]
    refine lnow 3 (.bool true) (some 10) ?_
    refine lpas 4 (some 11) ?_
    refine lpas 5 (some 12) ?_
    refine lnow 6 (.bool true) (some 13) ?_
    refine ldn 7 ?_
    generalize hact : Act.put _ (some 13) _ = act
    simp only [Act.put, sA, sC, sZ] at hact
    subst hact
    go_upto_region 2 with (fail)
    refine lbeg (opsOf Try.f17 2) ?_
    refine lnow 0 (.bool true) (some 4) ?_
    refine ldn 1 ?_
    generalize hact : Act.put _ (some 4) _ = act
    simp only [Act.put, sA, sC, sZ] at hact
    subst hact
    go_wp2
    go_ret
    exact ⟨true, rfl, (fun h => by cases h), BE.out⟩
  obtain _ | _ := gb
  rotate_left
  · skip
    go_upto_region 1 with (fail)
    refine lbeg (opsOf Try.f17 1) ?_
    refine lnow 0 (.slice aa N ac) (some 7) ?_
    refine lnow 1 (.int .i64 (N : Int)) (some 8) ?_
    refine lnow 2 (.bool (decide ((N : Int) > 12))) (some 9) ?_
    rw [show decide ((N : Int) > 12) = false from decide_eq_false c1]
    refine lnow 3 (.bool false) (some 10) ?_
    refine lrl 4 (cs) (some 11) 25 2 (q) 0 (BQ.out).whole Try.underlying25 (t5Size C5.out) ?_
    refine lcal 5 9 #[.agg cs.toArray] (some 12) _ (GW w1 (HT.out.below BE.out)) ?_
    rintro e w2 ⟨rfl, hb⟩
    refine ⟨_, rfl, ?_⟩
    have BE2 : Hid (Below w.heap.size w w2) := BE.out.trans (hb.mono BE.out.size)
    clear hb
    refine lnow 6 (.bool true) (some 13) ?_
    refine ldn 7 ?_
    generalize hact : Act.put _ (some 13) _ = act
    simp only [Act.put, sA, sC, sZ] at hact
    subst hact
    go_upto_region 2 with (fail)
    refine lbeg (opsOf Try.f17 2) ?_
    refine lnow 0 (.bool true) (some 4) ?_
    refine ldn 1 ?_
    generalize hact : Act.put _ (some 4) _ = act
    simp only [Act.put, sA, sC, sZ] at hact
    subst hact
    go_wp2
    go_ret
    exact ⟨true, rfl, (fun h => by cases h), BE2.out⟩
  go_upto_region 1 with (fail)
  refine lbeg (opsOf Try.f17 1) ?_
  refine lnow 0 (.slice aa N ac) (some 7) ?_
  refine lnow 1 (.int .i64 (N : Int)) (some 8) ?_
  refine lnow 2 (.bool (decide ((N : Int) > 12))) (some 9) ?_
  rw [show decide ((N : Int) > 12) = false from decide_eq_false c1]
  refine lnow 3 (.bool false) (some 10) ?_
  refine lrl 4 (cs) (some 11) 25 2 (q) 0 (BQ.out).whole Try.underlying25 (t5Size C5.out) ?_
  refine lcal 5 9 #[.agg cs.toArray] (some 12) _ (GW w1 (HT.out.below BE.out)) ?_
  rintro e w2 ⟨rfl, hb⟩
  refine ⟨_, rfl, ?_⟩
  have BE2 : Hid (Below w.heap.size w w2) := BE.out.trans (hb.mono BE.out.size)
  clear hb
  refine lnow 6 (.bool false) (some 13) ?_
  refine ldn 7 ?_
  generalize hact : Act.put _ (some 13) _ = act
  simp only [Act.put, sA, sC, sZ] at hact
  subst hact
  have NT : Hid (nodesT t ≤ 3600) := by have := of_decide_eq_false hgb.out; rw [Hid]; omega
  clear GW hgb BE BQ
  go_upto_region 3 with (fail)
  refine lbeg (opsOf Try.f17 3) ?_
  refine lnow 0 (.int .i64 0) (some 5) ?_
  refine ldn 1 ?_
  generalize hact : Act.put _ (some 5) _ = act
  simp only [Act.put, sA, sC, sZ] at hact
  subst hact
  go_upto_region 4 with (fail)
  refine lbeg (opsOf Try.f17 4) ?_
  refine lnow 0 (.int .i64 0) (some 6) ?_
  refine ldn 1 ?_
  generalize hact : Act.put _ (some 6) _ = act
  simp only [Act.put, sA, sC, sZ] at hact
  subst hact
  go_wp2
  go_loopw [5, 6] (fun nv iv wr => ∃ (i : Nat) (z : Int), i ≤ N ∧ iv = .int .i64 (i : Int) ∧ nv = .int .i64 z ∧ (0 ≤ z ∧ z ≤ 5000) ∧ Hid (Below w.heap.size w wr)) (fun _ iv _ => N - (intOf iv).toNat)
  case atStart => exact ⟨0, 0, Nat.zero_le _, rfl, rfl, by omega, BE2⟩
  case round =>
    obtain ⟨i, z, hi, rfl, rfl, hz, BE⟩ := hrel
    by_cases hlt : i < N
    rotate_left
    · skip
      have cl : ¬ (i : Int) < (N : Int) := by omega
      go_upto_region 5 with (fail)
      refine lbeg (opsOf Try.f17 5) ?_
      refine lnow 0 (.int .i64 (i : Int)) (some 14) ?_
      refine lnow 1 (.slice aa N ac) (some 15) ?_
      refine lnow 2 (.int .i64 (N : Int)) (some 16) ?_
      refine lnow 3 (.bool (decide ((i : Int) < (N : Int)))) (some 17) ?_
      rw [show decide ((i : Int) < (N : Int)) = false from decide_eq_false cl]
      refine ldn 4 ?_
      generalize hact : Act.put _ (some 17) _ = act
      simp only [Act.put, sA, sC, sZ] at hact
      subst hact
      go_upto_region 10 with (fail)
      refine lbeg (opsOf Try.f17 10) ?_
      refine lnow 0 (.bool false) (some 4) ?_
      refine ldn 1 ?_
      generalize hact : Act.put _ (some 4) _ = act
      simp only [Act.put, sA, sC, sZ] at hact
      subst hact
      go_wp2
      go_ret
      exact ⟨false, rfl, (fun _ => ⟨NT.out, by omega⟩), BE.out⟩
    have cl : (i : Int) < (N : Int) := by omega
    have HAr : TmsAt F wr xa (.slice aa N ac) := HA.out.below BE.out
    obtain ⟨x, pb, po, cx, -, hxm, haa, -, -, -, hrx, htx⟩ := HAr.get hN hlt
    subst haa
    have HRX := Lib.hid hrx
    have X5 := Lib.hid htx.len
    have CALL := tnodes_walk x cx wr 3600 F htx (SmTs.mem hsa hxm) (by omega)
    obtain ⟨m, hm⟩ : ∃ m : Int, Hid (((min (nodesT x) (3600 + 1) : Nat) : Int) = m) := ⟨_, rfl⟩
    have hmo := hm.out
    rw [hm.out] at CALL
    clear HAr hxm hrx htx
    go_upto_region 5 with (fail)
    refine lbeg (opsOf Try.f17 5) ?_
    refine lnow 0 (.int .i64 (i : Int)) (some 14) ?_
    refine lnow 1 (.slice (some ⟨pb, po, none⟩) N ac) (some 15) ?_
    refine lnow 2 (.int .i64 (N : Int)) (some 16) ?_
    refine lnow 3 (.bool (decide ((i : Int) < (N : Int)))) (some 17) ?_
    rw [show decide ((i : Int) < (N : Int)) = true from decide_eq_true cl]
    refine ldn 4 ?_
    generalize hact : Act.put _ (some 17) _ = act
    simp only [Act.put, sA, sC, sZ] at hact
    subst hact
    go_upto_region 7 with (fail)
    refine lbeg (opsOf Try.f17 7) ?_
    refine lnow 0 (.int .i64 z) (some 20) ?_
    refine lnow 1 (.slice (some ⟨pb, po, none⟩) N ac) (some 21) ?_
    refine lnow 2 (.int .i64 (i : Int)) (some 22) ?_
    refine lix 3 (.pointer (some ⟨pb, po + 5 * i, none⟩)) (some 23) 23 21 22 (run_at_tm pb po N ac i hlt _) ?_
    refine lrl 4 cx (some 24) 25 23 pb (po + 5 * i) HRX.out Try.underlying25 (t5Size X5.out) ?_
    refine lcal 5 39 #[.agg cx.toArray, .int .i64 3600] (some 25) _ (CALL) ?_
    rintro e w3 ⟨rfl, hb⟩
    refine ⟨_, rfl, ?_⟩
    have BE3 : Hid (Below w.heap.size w w3) := BE.out.trans (hb.mono BE.out.size)
    clear hb CALL
    refine lnow 6 (.int .i64 (IntKind.i64.wrap (z + m))) (some 26) ?_
    rw [show IntKind.i64.wrap (z + m) = z + m from IntWalk.i64_in _ (by omega)]
    refine lnow 7 (.int .i64 (z + m)) (some 5) ?_
    refine ldn 8 ?_
    generalize hact : Act.put _ (some 5) _ = act
    simp only [Act.put, sA, sC, sZ] at hact
    subst hact
    by_cases hbig : z + m > 5000
    · skip
      go_upto_region 8 with (fail)
      refine lbeg (opsOf Try.f17 8) ?_
      refine lnow 0 (.int .i64 (z + m)) (some 27) ?_
      refine lnow 1 (.bool (decide (z + m > 5000))) (some 28) ?_
      rw [show decide (z + m > 5000) = true from decide_eq_true hbig]
      refine ldn 2 ?_
      generalize hact : Act.put _ (some 28) _ = act
      simp only [Act.put, sA, sC, sZ] at hact
      subst hact
      go_upto_region 9 with (fail)
      refine lbeg (opsOf Try.f17 9) ?_
      refine lnow 0 (.bool true) (some 4) ?_
      refine ldn 1 ?_
      generalize hact : Act.put _ (some 4) _ = act
      simp only [Act.put, sA, sC, sZ] at hact
      subst hact
      go_wp2
      go_ret
      exact ⟨true, rfl, (fun h => by cases h), BE3.out⟩
    go_upto_region 8 with (fail)
    refine lbeg (opsOf Try.f17 8) ?_
    refine lnow 0 (.int .i64 (z + m)) (some 27) ?_
    refine lnow 1 (.bool (decide (z + m > 5000))) (some 28) ?_
    rw [show decide (z + m > 5000) = false from decide_eq_false hbig]
    refine ldn 2 ?_
    generalize hact : Act.put _ (some 28) _ = act
    simp only [Act.put, sA, sC, sZ] at hact
    subst hact
    have hz2 : 0 ≤ z + m ∧ z + m ≤ 5000 := by omega
    clear hm hmo HRX X5 BE
    have bl : N ≤ 12 := by omega
    go_wp2
    go_roundw
    case rel => exact ⟨i + 1, z + m, by omega, by go_num, rfl, hz2, BE3⟩
    case measure => simp [intOf]; omega
end Go.Proofs.Ytndbpmkglddjjaa
