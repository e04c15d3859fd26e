/- Terms taken apart: package term's Strip and Spine. -/
import Derived.Test.YtndbpmkglddjjaaQGenT
import Derived.Test.YtndbpmkglddjjaaQTrmE
import Derived.Deep.LoopGhost
namespace Go.Proofs.Ytndbpmkglddjjaa
open Go Go.RowKit
set_option maxRecDepth 100000
theorem two_args {c : Tm} (h : c.args.length = 2) : ∃ x y, c.args = [x, y] := by
  match hc : c.args, h with
  | [x, y], _ => exact ⟨x, y, rfl⟩
theorem strip_yes {k : Int} {c x y : Tm} (hk : c.kind = k) (ha : c.args = [x, y]) : stripT k c = (x :: (stripT k y).1, (stripT k y).2) := by
  obtain ⟨k', n, s, l, a⟩ := c
  dsimp only [Tm.kind, Tm.args] at hk ha
  subst hk
  subst ha
  exact strip_node _ _ _ _ _ _
theorem strip_no {k : Int} {c : Tm} (h : ¬ (c.kind = k ∧ c.args.length = 2)) : stripT k c = ([], c) := by
  obtain ⟨k', n, s, l, a⟩ := c
  dsimp only [Tm.kind, Tm.args] at h
  match a, h with
  | [], _ => rw [stripT]; simp
  | [x], _ => rw [stripT]; simp
  | [x, y], h => rw [stripT, if_neg (fun e => h ⟨e, rfl⟩)]
  | x :: y :: z :: r, _ => rw [stripT]; simp
theorem nodes_two {c x y : Tm} (ha : c.args = [x, y]) : nodesT x + nodesT y + 1 ≤ nodesT c := by
  obtain ⟨k', n, s, l, a⟩ := c
  dsimp only [Tm.args] at ha
  subst ha
  simp only [nodesT, nodesTs]
  omega
theorem SmT.args {c x : Tm} (h : SmT c) (hx : x ∈ c.args) : SmT x := SmTs.mem h.open.2.2.2 hx
set_option maxHeartbeats 4000000 in
theorem hastwo_walk {F : List Nat} (t : Tm) (cs : List Value) (k : Int) (w : World) (ht : TmAt F w t cs) : Calls Try.prog 40 #[.agg cs.toArray, .int .i64 k] w fun e w' => e = .returned (.bool (decide (t.kind = k ∧ t.args.length = 2))) ∧ Below w.heap.size w w' := by
  obtain ⟨lv, av, rfl, h1, h2⟩ := ht.open
  obtain ⟨aa, ac, rfl⟩ := h2.slice
  obtain ⟨ck, hck⟩ : ∃ y, Hid (t.kind = y) := ⟨_, rfl⟩
  obtain ⟨cn, hcn⟩ : ∃ y, Hid (t.args.length = y) := ⟨_, rfl⟩
  rw [hck.out, hcn.out]
  obtain ⟨q, hq⟩ : ∃ q, Hid (w.heap.size = q) := ⟨_, rfl⟩
  obtain ⟨CS, hCS⟩ : ∃ x, Hid ([.int .i64 ck, .int .i64 t.n, strT t.name, lv, .slice aa cn ac] = x) := ⟨_, rfl⟩
  rw [hCS.out, hq.out]
  clear ht h1 h2
  go_enter Try.func40, Try.ntmps40
  go_upto_region 0 with (fail)
  refine lbeg (opsOf Try.f40 0) ?_
  refine lbox 0 25 (.tmp 0) (CS) (q) (some 2) hq ?_
  intro w1 bw1 bew1 hsw1
  refine lnow 1 (.bool false) (some 4) ?_
  refine ldn 2 ?_
  generalize hact : Act.put _ (some 4) _ = act
  simp only [Act.put, sA, sC, sZ] at hact
  subst hact
  have k0 : w1.cell? ⟨q, 0, none⟩ = some (.int .i64 ck) := bw1.cell (by rw [← hCS.out]; rfl)
  have k4 : w1.cell? ⟨q, 4, none⟩ = some (.slice aa cn ac) := bw1.cell (by rw [← hCS.out]; rfl)
  have BE := Lib.hid bew1
  have K0 := Lib.hid k0
  have K4 := Lib.hid k4
  clear bw1 bew1 hsw1 k0 k4
  by_cases hk : ck = k
  rotate_left
  · have r1 : decide (ck = k) = false := decide_eq_false hk
    go_upto_region 1 with (fail)
    refine lbeg (opsOf Try.f40 1) ?_
    refine lnow 0 (.pointer (some ⟨q, 0, none⟩)) (some 5) ?_
    refine lcl 1 (.int .i64 ck) (some 6) 3 5 (q) 0 (K0.out) Try.underlying3 ?_
    refine lnow 2 (.int .i64 k) (some 7) ?_
    refine lnow 3 (.bool (decide (ck = k))) (some 8) ?_
    rw [r1]
    refine lnow 4 (.bool false) (some 9) ?_
    refine lpas 5 (some 10) ?_
    refine lpas 6 (some 11) ?_
    refine lpas 7 (some 12) ?_
    refine lpas 8 (some 13) ?_
    refine lnow 9 (.bool false) (some 14) ?_
    refine lnow 10 (.bool false) (some 4) ?_
    refine ldn 11 ?_
    generalize hact : Act.put _ (some 4) _ = act
    simp only [Act.put, sA, sC, sZ] at hact
    subst hact
    go_wp2
    go_ret
    exact ⟨by simp [hk], BE.out⟩
  have r1 : decide (ck = k) = true := decide_eq_true hk
  go_upto_region 1 with (fail)
  refine lbeg (opsOf Try.f40 1) ?_
  refine lnow 0 (.pointer (some ⟨q, 0, none⟩)) (some 5) ?_
  refine lcl 1 (.int .i64 ck) (some 6) 3 5 (q) 0 (K0.out) Try.underlying3 ?_
  refine lnow 2 (.int .i64 k) (some 7) ?_
  refine lnow 3 (.bool (decide (ck = k))) (some 8) ?_
  rw [r1]
  refine lnow 4 (.bool true) (some 9) ?_
  refine lnow 5 (.pointer (some ⟨q, 4, none⟩)) (some 10) ?_
  refine lcl 6 (.slice aa cn ac) (some 11) 23 10 (q) 4 (K4.out) Try.underlying23 ?_
  refine lnow 7 (.int .i64 (cn : Int)) (some 12) ?_
  refine lnow 8 (.bool (decide ((cn : Int) = 2))) (some 13) ?_
  refine lnow 9 (.bool (decide ((cn : Int) = 2))) (some 14) ?_
  refine lnow 10 (.bool (decide ((cn : Int) = 2))) (some 4) ?_
  refine ldn 11 ?_
  generalize hact : Act.put _ (some 4) _ = act
  simp only [Act.put, sA, sC, sZ] at hact
  subst hact
  have e : decide ((cn : Int) = 2) = decide (ck = k ∧ cn = 2) := by rw [Bool.eq_iff_iff]; simp [hk]; omega
  have HE := Lib.hid e
  clear e
  go_wp2
  go_ret
  exact ⟨by rw [← HE.out]; rfl, BE.out⟩
theorem nodesT_pos (t : Tm) : 1 ≤ nodesT t := by
  obtain ⟨k, n, s, l, a⟩ := t
  rw [nodesT]
  omega
theorem results_tmp_cell {P : Program} {fn : Func} {p q : Tmp} {ty : TypeId} (h : fn.results = #[.tmp q, .cell p ty]) (tmps : Array Value) (w : World) {g : Nat} {t : TypeId} {cs : Array Value} {fr : Nat × Nat} {d : TypeDesc} {v : Value}
    (hp : tmps.getD p undef = .pointer (some ⟨g, 0, none⟩)) (hg : w.heap[g]? = some (.cells cs t fr)) (hu : P.underlying ty = some d) (hd : (match d with | .struct _ | .array _ _ => true | _ => false) = true) (hi : (P.info? ty).map (·.size) = some cs.size) (hv : tmps.getD q undef = v) : (results fn tmps).run P w = .ok (.tuple #[v, .agg cs]) w := by
  have hp' : tmps[p]?.getD undef = .pointer (some ⟨g, 0, none⟩) := by simpa using hp
  have hv' : tmps[q]?.getD undef = v := by simpa using hv
  simp [results, h, hp', hv', asAddr, run_loadVar_row w g t ty cs fr d hg hu hd hi]
set_option maxHeartbeats 8000000 in
theorem strip_walk {F : List Nat} (t : Tm) (cs : List Value) (k : Int) (w : World) (ht : TmAt F w t cs) (hs : SmT t) (hn : nodesT t ≤ 1000000000000) : Calls Try.prog 12 #[.agg cs.toArray, .int .i64 k] w fun e w' => ∃ v cr, e = .returned (.tuple #[v, .agg cr.toArray]) ∧ TmsAt (List.range w.heap.size) w' (stripT k t).1 v ∧ TmAt (List.range w.heap.size) w' (stripT k t).2 cr ∧ Below w.heap.size w w' := by
  have C5 := Lib.hid ht.len
  have C1 := Lib.hid ht.one
  have HT := Lib.hid ht
  have HS := Lib.hid hs
  have HN := Lib.hid hn
  obtain ⟨q, hq⟩ : ∃ q, Hid (w.heap.size = q) := ⟨_, rfl⟩
  rw [hq.out]
  clear ht hs hn
  go_enter Try.func12, Try.ntmps12
  go_upto_region 0 with (fail)
  refine lbeg (opsOf Try.f12 0) ?_
  refine lbox 0 25 (.tmp 0) (cs) (q) (some 2) hq ?_
  intro w1 bw1 bew1 hsw1
  refine lnow 1 (.slice none 0 0) (some 4) ?_
  refine lall 2 25 z5T (q + 1) (some 5) hsw1 ?_
  intro w2 bw2 bew2 hsw2
  refine ldn 3 ?_
  generalize hact : Act.put _ (some 5) _ = act
  simp only [Act.put, sA, sC, sZ] at hact
  subst hact
  have B1 : Hid (Blk w2 q 25 cs) := bw1.below bew2 (by omega)
  have B2 : Hid (Blk w2 (q + 1) 25 z5T) := bw2
  have BE : Hid (Below q w w2) := bew1.trans (bew2.mono (by omega))
  have S2 : Hid (q + 2 ≤ w2.heap.size) := by have := hsw2.out; rw [Hid]; omega
  clear bw1 bew1 hsw1 bw2 bew2 hsw2
  go_upto_region 1 with (fail)
  refine lbeg (opsOf Try.f12 1) ?_
  refine lnow 0 (.slice none 0 0) (some 6) ?_
  refine ldn 1 ?_
  generalize hact : Act.put _ (some 6) _ = act
  simp only [Act.put, sA, sC, sZ] at hact
  subst hact
  go_wp2
  go_loopg [6] (nodesT t + 1) (fun gn tv wr => ∃ (tz : Value) (c : Tm) (cc : List Value) (ts : List Tm), tz = tv ∧ Hid (nodesT c < gn) ∧ Hid (TmAt F w c cc) ∧ Hid (SmT c) ∧ Hid (RowT (q + 2) wr tz ts) ∧ Hid (stripT k t = (ts ++ (stripT k c).1, (stripT k c).2)) ∧ Hid (Blk wr q 25 cc) ∧ Hid (Blk wr (q + 1) 25 z5T) ∧ Hid (Below q w wr) ∧ Hid (q + 2 ≤ wr.heap.size) ∧ Hid (ts.length + nodesT c ≤ nodesT t))
  case atStart => exact ⟨.slice none 0 0, t, cs, [], rfl, Nat.lt_succ_self _, HT, HS, RowT.nil _ _, by rw [Hid]; simp, B1, B2, BE, S2, by rw [Hid]; simp⟩
  case round =>
    obtain ⟨tz, c, cc, ts, rfl, HGN, CT, CSM, RT, EQ, D1, D2, DE, DS, TL⟩ := hrel
    have CC5 := Lib.hid CT.out.len
    have CC1 := Lib.hid CT.out.one
    have CTr : Hid (TmAt F wr c cc) := TmAt.step (Step.of_below DE.out (by have := hq.out; omega)) _ _ CT.out
    have HH := hastwo_walk c cc k wr CTr.out
    by_cases hy : c.kind = k ∧ c.args.length = 2
    rotate_left
    · have rb : decide (c.kind = k ∧ c.args.length = 2) = false := decide_eq_false hy
      have FEQ : Hid (stripT k t = (ts, c)) := by rw [Hid, EQ.out, strip_no hy]; simp
      clear EQ
      go_upto_region 2 with (fail)
      refine lbeg (opsOf Try.f12 2) ?_
      refine lrl 0 (cc) (some 7) 25 2 (q) 0 (D1.out).whole Try.underlying25 (t5Size CC5.out) ?_
      refine lnow 1 (.int .i64 k) (some 8) ?_
      refine lcal 2 40 #[.agg cc.toArray, .int .i64 k] (some 9) _ (HH) ?_
      rintro e w3 ⟨rfl, hb3⟩
      rw [rb]
      refine ⟨_, rfl, ?_⟩
      refine ldn 3 ?_
      generalize hact : Act.put _ (some 9) _ = act
      simp only [Act.put, sA, sC, sZ] at hact
      subst hact
      have E1 := Lib.hid (D1.out.below hb3 D1.out.lt)
      have E2 := Lib.hid (D2.out.below hb3 D2.out.lt)
      have EE : Hid (Below q w w3) := DE.out.trans (hb3.mono (by have := DS.out; omega))
      have ES : Hid (q + 2 ≤ w3.heap.size) := by have := DS.out; have := hb3.size; rw [Hid]; omega
      have ER := Lib.hid (RT.out.below hb3)
      have EC := Lib.hid (CTr.out.below hb3)
      clear hb3 D1 D2 DE DS RT CTr HH
      go_upto_region 5 with (fail)
      refine lbeg (opsOf Try.f12 5) ?_
      refine lin_now 0 tz (some 22) (by kernel_rfl) (by kernel_rfl) (by kernel_rfl) ?_
      refine lrl 1 (cc) (some 23) 25 2 (q) 0 (E1.out).whole Try.underlying25 (t5Size CC5.out) ?_
      refine lcal 2 35 #[.agg cc.toArray] (some 24) _ (clone_walk c cc w3 F EC.out CSM.out) ?_
      rintro e w5 ⟨cr, rfl, hcr, hb5⟩
      refine ⟨_, rfl, ?_⟩
      have K5 := Lib.hid hcr.len
      refine lin_now 3 tz (some 4) (by kernel_rfl) (by kernel_rfl) (by kernel_rfl) ?_
      refine lin_put 4 25 (.tmp 5) (.tmp 24) (q + 1) _ (z5T) (cr) (by kernel_rfl) (by kernel_rfl) (by kernel_rfl) (by kernel_rfl) (by kernel_rfl) (E2.out.below hb5 E2.out.lt) (K5.out.trans (rfl : z5T.length = 5).symm) (t5Size K5.out) (by simpa using hcr.one) ?_
      intro w6 bw6 uw6
      refine ldn 5 ?_
      generalize hact : Act.put _ none _ = act
      simp only [Act.put, sA, sC, sZ] at hact
      subst hact
      have st6 : Step (List.range (q + 2)) w5 (List.range (q + 2)) w6 := Step.of_upd uw6 (List.mem_range.2 (by omega))
      have F1 : TmAt (List.range q) w6 c cr := (TmAt.step st6 _ _ (hcr.range ES.out)).range (by omega)
      have F2 : TmsAt (List.range q) w6 ts _ := TmsAt.sub (fun k hk => .inl (List.mem_range.2 (by have := List.mem_range.1 hk; omega))) _ _ (TmsAt.step st6 _ _ (RowT.in (ER.out.below hb5)))
      have F3 : Below q w w6 := uw6.below (EE.out.trans (hb5.mono (by have := ES.out; omega))) (by omega) (by have := EE.out.size; have := hb5.size; have := hq.out; omega)
      clear hcr hb5 uw6 st6 E1 E2 EE ES EC ER
      go_wp2
      refine bodyPost_ret (v := .tuple #[_, .agg cr.toArray]) (results_tmp_cell (g := q + 1) (t := 25) (cs := cr.toArray) (fr := (0, 0)) Try.results12 _ _ rfl bw6 Try.underlying25 rfl (t5Size K5.out) rfl) rfl ⟨_, cr, rfl, by rw [FEQ.out]; exact F2, by rw [FEQ.out]; exact F1, F3⟩
    have rb : decide (c.kind = k ∧ c.args.length = 2) = true := decide_eq_true hy
    obtain ⟨x, y, hxy⟩ := two_args hy.2
    have NEQ : Hid (stripT k t = ((ts ++ [x]) ++ (stripT k y).1, (stripT k y).2)) := by rw [Hid, EQ.out, strip_yes hy.1 hxy]; simp
    have NL := Lib.hid (nodes_two hxy)
    have SX : Hid (SmT x) := SmT.args CSM.out (by rw [hxy]; simp)
    have SY : Hid (SmT y) := SmT.args CSM.out (by rw [hxy]; simp)
    obtain ⟨lv, av, hcc, -, ha⟩ := CT.out.open
    rw [hxy] at ha
    obtain ⟨aa, ac, rfl⟩ := ha.slice
    obtain ⟨x', pb, po, cx, hx1, -, rfl, -, hpb, -, hrx, htx⟩ := ha.get rfl (show 0 < 2 by decide)
    obtain ⟨y', pb2, po2, cy, hy1, -, e2, -, -, -, hry, hty⟩ := ha.get rfl (show 1 < 2 by decide)
    obtain ⟨rfl, rfl⟩ : pb = pb2 ∧ po = po2 := by cases e2; exact ⟨rfl, rfl⟩
    obtain rfl : x = x' := by simpa using hx1
    obtain rfl : y = y' := by simpa using hy1
    have NX := Lib.hid (nodesT_pos x)
    have NY := Lib.hid (nodesT_pos y)
    have HRX := Lib.hid hrx
    have HTX := Lib.hid htx
    have HRY := Lib.hid hry
    have HTY := Lib.hid hty
    have X5 := Lib.hid htx.len
    have Y5 := Lib.hid hty.len
    have X1 := Lib.hid htx.one
    have Y1 := Lib.hid hty.one
    have PBQ : Hid (pb < q) := by have := hq.out; rw [Hid]; omega
    have HCC := Lib.hid hcc
    clear EQ ha hx1 hy1 e2 hpb hrx htx hry hty hcc hxy hy CT
    go_upto_region 2 with (fail)
    refine lbeg (opsOf Try.f12 2) ?_
    refine lrl 0 (cc) (some 7) 25 2 (q) 0 (D1.out).whole Try.underlying25 (t5Size CC5.out) ?_
    refine lnow 1 (.int .i64 k) (some 8) ?_
    refine lcal 2 40 #[.agg cc.toArray, .int .i64 k] (some 9) _ (HH) ?_
    rintro e w3 ⟨rfl, hb3⟩
    rw [rb]
    refine ⟨_, rfl, ?_⟩
    refine ldn 3 ?_
    generalize hact : Act.put _ (some 9) _ = act
    simp only [Act.put, sA, sC, sZ] at hact
    subst hact
    have E1 := Lib.hid (D1.out.below hb3 D1.out.lt)
    have E2 := Lib.hid (D2.out.below hb3 D2.out.lt)
    have EE : Hid (Below q w w3) := DE.out.trans (hb3.mono (by have := DS.out; omega))
    have ES : Hid (q + 2 ≤ w3.heap.size) := by have := DS.out; have := hb3.size; rw [Hid]; omega
    have ER := Lib.hid (RT.out.below hb3)
    have EC := Lib.hid (CTr.out.below hb3)
    clear hb3 D1 D2 DE DS RT CTr HH
    have k4 : w3.cell? ⟨q, 4, none⟩ = some (.slice (some ⟨pb, po, none⟩) 2 ac) := E1.out.cell (by rw [HCC.out]; rfl)
    have EA : Hid (TmAt F w3 x cx) := TmAt.step (Step.of_below EE.out (by have := hq.out; omega)) _ _ HTX.out
    go_upto_region 3 with (fail)
    refine lbeg (opsOf Try.f12 3) ?_
    refine lin_now 0 tz (some 10) (by kernel_rfl) (by kernel_rfl) (by kernel_rfl) ?_
    refine lnow 1 (.pointer (some ⟨q, 4, none⟩)) (some 11) ?_
    refine lcl 2 (.slice (some ⟨pb, po, none⟩) 2 ac) (some 12) 23 11 (q) 4 (k4) Try.underlying23 ?_
    refine lnowP 3 (.pointer (some ⟨pb, po + 5 * 0, none⟩)) (some 13) (exec_indexAt 23 (.tmp 12) (.const (.int .i64 0)) (by kernel_rfl) _ _ _ (by kernel_rfl) (by kernel_rfl) (run_at_tm pb po 2 ac 0 (by decide) _)) ?_
    refine lrl 4 cx (some 14) 25 13 pb (po + 5 * 0) (rng_low HRX.out EE.out PBQ.out) Try.underlying25 (t5Size X5.out) ?_
    refine lcal 5 35 #[.agg cx.toArray] (some 15) _ (clone_walk x cx w3 F EA.out SX.out) ?_
    rintro e w4 ⟨c', rfl, hct, hb4⟩
    refine ⟨_, rfl, ?_⟩
    have GC : Hid (TmAt (List.range (q + 2) ++ ownL tz) w4 x c') := TmAt.off hct (fun k hk => by
      rcases List.mem_append.1 hk with hk | hk
      · have := List.mem_range.1 hk; have := ES.out; exact .inl (by omega)
      · exact .inl (ER.out.own k (ownL_mem.1 hk)).2)
    have G1 := Lib.hid (E1.out.below hb4 E1.out.lt)
    have G2 := Lib.hid (E2.out.below hb4 E2.out.lt)
    have GE : Hid (Below q w w4) := EE.out.trans (hb4.mono (by have := ES.out; omega))
    have GS : Hid (q + 2 ≤ w4.heap.size) := by have := ES.out; have := hb4.size; rw [Hid]; omega
    have GR := Lib.hid (ER.out.below hb4)
    have RB := run_build_tm1 hct w4
    obtain ⟨qr, hqr⟩ : ∃ y, Hid (w4.heap.size = y) := ⟨_, rfl⟩
    clear hct hb4 E1 E2 EE ES ER EC EA k4
    refine lin_row 6 25 c' qr 1 (some 16) (by kernel_rfl) (by kernel_rfl) hqr (exec_of _ _ (by kernel_rfl) RB) ?_
    intro w5 bw5 bew5 hsw5
    have bew5' : Below w4.heap.size w4 w5 := by rw [hqr.out]; exact bew5
    have IR := Lib.hid (GR.out.below bew5')
    have I1 := Lib.hid (G1.out.below bew5' G1.out.lt)
    have I2 := Lib.hid (G2.out.below bew5' G2.out.lt)
    have IE : Hid (Below q w w5) := GE.out.trans (bew5'.mono (by have := GS.out; omega))
    have IS : Hid (q + 2 ≤ w5.heap.size) := by have := GS.out; have := bew5'.size; rw [Hid]; omega
    obtain ⟨tv', w6, hrun, RT6, hg6, hat6⟩ := IR.out.append bw5 (GC.out.below bew5') (by have := TL.out; have := HN.out; have := NX.out; omega) IS.out
    refine lin_value 7 tv' (some 17) w6 (by kernel_rfl) (by kernel_rfl) (exec_of _ _ (by kernel_rfl) hrun) ?_
    have gb : Below (q + 2) w5 w6 := grown_below hg6 IS.out (fun g hg => (IR.out.own g hg).1)
    have J1 : Hid (Blk w6 q 25 cc) := I1.out.below gb (by omega)
    have J2 : Hid (Blk w6 (q + 1) 25 z5T) := I2.out.below gb (by omega)
    have JE : Hid (Below q w w6) := IE.out.trans (gb.mono (by omega))
    have JS : Hid (q + 2 ≤ w6.heap.size) := by have := IS.out; have := gb.size; rw [Hid]; omega
    clear hrun hg6 hat6 gb bw5 bew5 bew5' hsw5 IR I1 I2 IE IS G1 G2 GE GS GR GC RB
    refine lnow 8 (tv') (some 6) ?_
    refine ldn 9 ?_
    generalize hact : Act.put _ (some 6) _ = act
    simp only [Act.put, sA, sC, sZ] at hact
    subst hact
    have k4 : w6.cell? ⟨q, 4, none⟩ = some (.slice (some ⟨pb, po, none⟩) 2 ac) := J1.out.cell (by rw [HCC.out]; rfl)
    go_upto_region 4 with (fail)
    refine lbeg (opsOf Try.f12 4) ?_
    refine lnow 0 (.pointer (some ⟨q, 4, none⟩)) (some 18) ?_
    refine lcl 1 (.slice (some ⟨pb, po, none⟩) 2 ac) (some 19) 23 18 (q) 4 (k4) Try.underlying23 ?_
    refine lnowP 2 (.pointer (some ⟨pb, po + 5 * 1, none⟩)) (some 20) (exec_indexAt 23 (.tmp 19) (.const (.int .i64 1)) (by kernel_rfl) _ _ _ (by kernel_rfl) (by kernel_rfl) (run_at_tm pb po 2 ac 1 (by decide) _)) ?_
    refine lrl 3 cy (some 21) 25 20 pb (po + 5 * 1) (rng_low HRY.out JE.out PBQ.out) Try.underlying25 (t5Size Y5.out) ?_
    refine lin_put 4 25 (.tmp 2) (.tmp 21) (q) _ (cc) (cy) (by kernel_rfl) (by kernel_rfl) (by kernel_rfl) (by kernel_rfl) (by kernel_rfl) J1.out (Y5.out.trans CC5.out.symm) (t5Size Y5.out) (by simpa using Y1.out) ?_
    intro w7 bw7 uw7
    refine ldn 5 ?_
    generalize hact : Act.put _ none _ = act
    simp only [Act.put, sA, sC, sZ] at hact
    subst hact
    have N1 : Hid (Blk w7 q 25 cy) := bw7
    have N2 : Hid (Blk w7 (q + 1) 25 z5T) := uw7.blk J2.out (by omega)
    have NE : Hid (Below q w w7) := uw7.below JE.out (Nat.le_refl _) (by have := JE.out.size; have := hq.out; omega)
    have NS : Hid (q + 2 ≤ w7.heap.size) := by have := JS.out; have := uw7.size; rw [Hid]; omega
    have NR : Hid (RowT (q + 2) w7 tv' (ts ++ [x])) := RowT.upd RT6 uw7 (by omega)
    clear bw7 uw7 J1 J2 JE JS RT6 k4
    go_wp2
    go_roundg (nodesT y + 1)
    case measure => have h1 := HGN.out; have h2 := NL.out; have h3 := NX.out; have h4 := NY.out; omega
    case rel => exact ⟨tv', y, cy, ts ++ [x], rfl, Nat.lt_succ_self _, HTY, SY, NR, NEQ, N1, N2, NE, NS, by have h1 := TL.out; have h2 := NL.out; have h3 := NX.out; have h4 := NY.out; rw [Hid, List.length_append]; simp; omega⟩
end Go.Proofs.Ytndbpmkglddjjaa
