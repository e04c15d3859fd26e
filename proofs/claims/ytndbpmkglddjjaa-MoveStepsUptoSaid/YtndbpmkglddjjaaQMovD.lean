/- Package move: Shift. -/
import Derived.Test.YtndbpmkglddjjaaQGenT
import Derived.Test.YtndbpmkglddjjaaQMovC
namespace Go.Proofs.Ytndbpmkglddjjaa
open Go Go.RowKit
set_option maxRecDepth 100000
/-- A term that is right. -/
def okO (r : Option Tm) : Option Tm := match r with
  | some t => if rightP 4 1099511627776 t = true then some t else none
  | none => none
theorem okO_yes {t : Tm} (h : rightP 4 1099511627776 t = true) : okO (some t) = some t := if_pos h
theorem okO_no {t : Tm} (h : rightP 4 1099511627776 t = false) : okO (some t) = none := if_neg (by rw [h]; decide)
def shiftO (b f : Int) (t : Tm) : Option Tm := if ((-1099511627776 ≤ b ∧ b ≤ 1099511627776) ∧ 0 ≤ f ∧ f ≤ 1099511627776) ∧ rightP 4 1099511627776 t = true then okO (shO b f t) else none
set_option maxHeartbeats 4000000 in
theorem shift1_walk {F : List Nat} (t : Tm) (b f : Int) (pb pf pt : Nat) (cs : List Value) (w : World) (ht : TmAt F w t cs) (hs : SmT t) (hn : nodesT t ≤ 100000000000) (hb : IntAt w pb b) (hf : IntAt w pf f) (hc : Blk w pt 25 cs) :
    Calls Try.prog 50 #[.pointer (some ⟨pb, 0, none⟩), .pointer (some ⟨pf, 0, none⟩), .pointer (some ⟨pt, 0, none⟩)] w (Builds (shiftO b f t) w) := by
  have C5 := Lib.hid ht.len
  have HT := Lib.hid ht
  obtain ⟨R, hR⟩ : ∃ R, Hid (shiftO b f t = R) := ⟨_, rfl⟩
  rw [hR.out]
  obtain ⟨q, hq⟩ : ∃ q, Hid (w.heap.size = q) := ⟨_, rfl⟩
  have HQ : Hid (pb < q ∧ pf < q ∧ pt < q) := by have := hb.lt; have := hf.lt; have := hc.lt; have := hq.out; rw [Hid]; omega
  have HB := Lib.hid hb
  have HFF := Lib.hid hf
  have HC := Lib.hid hc
  clear ht hb hf hc
  go_enter Try.func50, Try.ntmps50
  go_upto_region 0 with (fail)
  refine lbeg (opsOf Try.f50 0) ?_
  refine lall 0 25 z5T (q) (some 3) hq ?_
  intro w1 bw1 bew1 hsw1
  refine ldn 1 ?_
  generalize hact : Act.put _ (some 3) _ = act
  simp only [Act.put, sA, sC, sZ] at hact
  subst hact
  have BR : Hid (Blk w1 q 25 z5T) := bw1
  have BE : Hid (Below q w w1) := bew1
  have S1 : Hid (w1.heap.size = q + 1) := hsw1
  have h3 := HQ.out
  have K1 : Hid (IntAt w1 pb b) := HB.out.below BE.out h3.1
  have K2 : Hid (IntAt w1 pf f) := HFF.out.below BE.out h3.2.1
  have K3 : Hid (Blk w1 pt 25 cs) := HC.out.below BE.out h3.2.2
  clear bw1 bew1 hsw1 HB HFF HC
  by_cases c1 : -1099511627776 ≤ b
  rotate_left
  · skip
    go_upto_region 1 with (fail)
    refine lbeg (opsOf Try.f50 1) ?_
    refine lcl 0 (.int .i64 b) (some 4) 3 0 (pb) 0 (K1.out.cell rfl) Try.underlying3 ?_
    refine lnow 1 (.bool (decide (-1099511627776 ≤ b))) (some 5) ?_
    rw [show decide (-1099511627776 ≤ b) = false from decide_eq_false c1]
    refine lnow 2 (.bool false) (some 6) ?_
    refine lpas 3 (some 7) ?_
    refine lpas 4 (some 8) ?_
    refine lnow 5 (.bool false) (some 9) ?_
    refine lin_callP 6 51 #[.bool false, .int .i64 11] (some 10) _ (by kernel_rfl) (by kernel_rfl) (by kernel_rfl) (need_no 11 w1) ?_
    rintro e w' ⟨rfl, hw'⟩
    obtain rfl := hw'.symm
    exact .inr ⟨_, rfl, rfl, Builds.no (by rw [hq.out]; exact BE.out) (hR.out.symm.trans (if_neg (by omega))) ⟨_, rfl⟩⟩
  by_cases c2 : b ≤ 1099511627776
  rotate_left
  · skip
    go_upto_region 1 with (fail)
    refine lbeg (opsOf Try.f50 1) ?_
    refine lcl 0 (.int .i64 b) (some 4) 3 0 (pb) 0 (K1.out.cell rfl) Try.underlying3 ?_
    refine lnow 1 (.bool (decide (-1099511627776 ≤ b))) (some 5) ?_
    rw [show decide (-1099511627776 ≤ b) = true from decide_eq_true c1]
    refine lnow 2 (.bool true) (some 6) ?_
    refine lcl 3 (.int .i64 b) (some 7) 3 0 (pb) 0 (K1.out.cell rfl) Try.underlying3 ?_
    refine lnow 4 (.bool (decide (b ≤ 1099511627776))) (some 8) ?_
    rw [show decide (b ≤ 1099511627776) = false from decide_eq_false c2]
    refine lnow 5 (.bool false) (some 9) ?_
    refine lin_callP 6 51 #[.bool false, .int .i64 11] (some 10) _ (by kernel_rfl) (by kernel_rfl) (by kernel_rfl) (need_no 11 w1) ?_
    rintro e w' ⟨rfl, hw'⟩
    obtain rfl := hw'.symm
    exact .inr ⟨_, rfl, rfl, Builds.no (by rw [hq.out]; exact BE.out) (hR.out.symm.trans (if_neg (by omega))) ⟨_, rfl⟩⟩
  go_upto_region 1 with (fail)
  refine lbeg (opsOf Try.f50 1) ?_
  refine lcl 0 (.int .i64 b) (some 4) 3 0 (pb) 0 (K1.out.cell rfl) Try.underlying3 ?_
  refine lnow 1 (.bool (decide (-1099511627776 ≤ b))) (some 5) ?_
  rw [show decide (-1099511627776 ≤ b) = true from decide_eq_true c1]
  refine lnow 2 (.bool true) (some 6) ?_
  refine lcl 3 (.int .i64 b) (some 7) 3 0 (pb) 0 (K1.out.cell rfl) Try.underlying3 ?_
  refine lnow 4 (.bool (decide (b ≤ 1099511627776))) (some 8) ?_
  rw [show decide (b ≤ 1099511627776) = true from decide_eq_true c2]
  refine lnow 5 (.bool true) (some 9) ?_
  refine lcal 6 51 #[.bool true, .int .i64 11] (some 10) _ (need_yes 11 w1) ?_
  rintro e w' ⟨rfl, hw'⟩
  obtain rfl := hw'.symm
  refine ⟨_, rfl, ?_⟩
  refine ldn 7 ?_
  generalize hact : Act.put _ (some 10) _ = act
  simp only [Act.put, sA, sC, sZ] at hact
  subst hact
  by_cases c3 : 0 ≤ f
  rotate_left
  · skip
    go_upto_region 2 with (fail)
    refine lbeg (opsOf Try.f50 2) ?_
    refine lcl 0 (.int .i64 f) (some 11) 3 1 (pf) 0 (K2.out.cell rfl) Try.underlying3 ?_
    refine lnow 1 (.bool (decide (0 ≤ f))) (some 12) ?_
    rw [show decide (0 ≤ f) = false from decide_eq_false c3]
    refine lnow 2 (.bool false) (some 13) ?_
    refine lpas 3 (some 14) ?_
    refine lpas 4 (some 15) ?_
    refine lnow 5 (.bool false) (some 16) ?_
    refine lin_callP 6 51 #[.bool false, .int .i64 11] (some 17) _ (by kernel_rfl) (by kernel_rfl) (by kernel_rfl) (need_no 11 w1) ?_
    rintro e w' ⟨rfl, hw'⟩
    obtain rfl := hw'.symm
    exact .inr ⟨_, rfl, rfl, Builds.no (by rw [hq.out]; exact BE.out) (hR.out.symm.trans (if_neg (by omega))) ⟨_, rfl⟩⟩
  by_cases c4 : f ≤ 1099511627776
  rotate_left
  · skip
    go_upto_region 2 with (fail)
    refine lbeg (opsOf Try.f50 2) ?_
    refine lcl 0 (.int .i64 f) (some 11) 3 1 (pf) 0 (K2.out.cell rfl) Try.underlying3 ?_
    refine lnow 1 (.bool (decide (0 ≤ f))) (some 12) ?_
    rw [show decide (0 ≤ f) = true from decide_eq_true c3]
    refine lnow 2 (.bool true) (some 13) ?_
    refine lcl 3 (.int .i64 f) (some 14) 3 1 (pf) 0 (K2.out.cell rfl) Try.underlying3 ?_
    refine lnow 4 (.bool (decide (f ≤ 1099511627776))) (some 15) ?_
    rw [show decide (f ≤ 1099511627776) = false from decide_eq_false c4]
    refine lnow 5 (.bool false) (some 16) ?_
    refine lin_callP 6 51 #[.bool false, .int .i64 11] (some 17) _ (by kernel_rfl) (by kernel_rfl) (by kernel_rfl) (need_no 11 w1) ?_
    rintro e w' ⟨rfl, hw'⟩
    obtain rfl := hw'.symm
    exact .inr ⟨_, rfl, rfl, Builds.no (by rw [hq.out]; exact BE.out) (hR.out.symm.trans (if_neg (by omega))) ⟨_, rfl⟩⟩
  go_upto_region 2 with (fail)
  refine lbeg (opsOf Try.f50 2) ?_
  refine lcl 0 (.int .i64 f) (some 11) 3 1 (pf) 0 (K2.out.cell rfl) Try.underlying3 ?_
  refine lnow 1 (.bool (decide (0 ≤ f))) (some 12) ?_
  rw [show decide (0 ≤ f) = true from decide_eq_true c3]
  refine lnow 2 (.bool true) (some 13) ?_
  refine lcl 3 (.int .i64 f) (some 14) 3 1 (pf) 0 (K2.out.cell rfl) Try.underlying3 ?_
  refine lnow 4 (.bool (decide (f ≤ 1099511627776))) (some 15) ?_
  rw [show decide (f ≤ 1099511627776) = true from decide_eq_true c4]
  refine lnow 5 (.bool true) (some 16) ?_
  refine lcal 6 51 #[.bool true, .int .i64 11] (some 17) _ (need_yes 11 w1) ?_
  rintro e w' ⟨rfl, hw'⟩
  obtain rfl := hw'.symm
  refine ⟨_, rfl, ?_⟩
  refine ldn 7 ?_
  generalize hact : Act.put _ (some 17) _ = act
  simp only [Act.put, sA, sC, sZ] at hact
  subst hact
  go_upto_region 3 with (fail)
  refine region_beginP (opsOf Try.f50 3) (fun W => (∃ x, Blk W q 25 x) ∧ IntAt W pb b ∧ IntAt W pf f ∧ Blk W pt 25 cs) (by kernel_rfl) (by kernel_rfl) 7 (by kernel_rfl) ?_
  intro Q' hQN hN hP
  have HS : Blk w1.drew q 25 z5T ∧ IntAt w1.drew pb b ∧ IntAt w1.drew pf f ∧ Blk w1.drew pt 25 cs := ⟨BR.out, K1.out, K2.out, K3.out⟩
  refine reg_nowIf 0 (.agg (cs).toArray) (some 18) hQN ⟨⟨_, HS.1⟩, HS.2⟩ (by kernel_rfl) (by kernel_rfl) (fun w' hw => exec_load_mid 25 (.tmp 2) (by kernel_rfl) (pt) 0 (by kernel_rfl) (cs) _ hw.2.2.2.whole Try.underlying25 rfl (t5Size C5.out)) ?_
  refine reg_nowIf 2 (.int .i64 b) (some 20) hQN ⟨⟨_, HS.1⟩, HS.2⟩ (by kernel_rfl) (by kernel_rfl) (fun w' hw => exec_load_cell 3 (.tmp 0) (by kernel_rfl) pb 0 (by kernel_rfl) _ (hw.2.1.cell rfl) _ Try.underlying3 rfl) ?_
  refine reg_nowIf 3 (.int .i64 f) (some 21) hQN ⟨⟨_, HS.1⟩, HS.2⟩ (by kernel_rfl) (by kernel_rfl) (fun w' hw => exec_load_cell 3 (.tmp 1) (by kernel_rfl) pf 0 (by kernel_rfl) _ (hw.2.2.1.cell rfl) _ Try.underlying3 rfl) ?_
  have BD : Hid (Below q w w1.drew) := BE.out.drew
  have SD : Hid (w1.drew.heap.size = q + 1) := S1.out
  refine reg_callP 1 52 #[.agg cs.toArray] (some 19) _ (by kernel_rfl) (by kernel_rfl) (by kernel_rfl) (valid_walk t cs w1.drew (HT.out.step (Step.of_below BD.out (by have := hq.out; omega))) hs hn) ?_
  rintro e w2 (⟨hv, rfl, hb2⟩ | ⟨hv, ⟨kk, rfl⟩, hb2⟩)
  rotate_left
  · exact .inr ⟨_, rfl, hP _ _ _ fun a' ha' => ⟨ha', Builds.no (by rw [hq.out]; exact BD.out.trans (hb2.mono (by have := SD.out; omega))) (hR.out.symm.trans (if_neg (by rw [hv]; simp))) ⟨kk, rfl⟩⟩⟩
  have HV := Lib.hid hv
  have RE : Hid (R = okO (shO b f t)) := hR.out.symm.trans (if_pos ⟨⟨⟨c1, c2⟩, c3, c4⟩, hv⟩)
  have BE2 : Hid (Below q w w2) := BD.out.trans (hb2.mono (by have := SD.out; omega))
  have HS2 : Blk w2 q 25 z5T ∧ IntAt w2 pb b ∧ IntAt w2 pf f ∧ Blk w2 pt 25 cs := ⟨HS.1.below hb2 HS.1.lt, HS.2.1.below hb2 HS.2.1.lt, HS.2.2.1.below hb2 HS.2.2.1.lt, HS.2.2.2.below hb2 HS.2.2.2.lt⟩
  have S2 : Hid (q + 1 ≤ w2.heap.size) := by have := hb2.size; have := SD.out; rw [Hid]; omega
  refine .inl ⟨_, rfl, ⟨⟨_, HS2.1⟩, HS2.2⟩, ?_⟩
  clear HS hb2 hv BD SD
  refine reg_callP 4 53 #[.agg cs.toArray, .int .i64 b, .int .i64 f] (some 22) _ (by kernel_rfl) (by kernel_rfl) (by kernel_rfl) (shifted_walk t b f cs w2 (HT.out.step (Step.of_below BE2.out (by have := hq.out; omega))) hs (rightP_bnd HV.out) (by omega) (by omega)) ?_
  intro e w3 hbu
  obtain ⟨hb3, ⟨r, cr, hr, rfl, htr⟩ | ⟨hr, ⟨kk, rfl⟩⟩⟩ := hbu.cases
  rotate_left
  · exact .inr ⟨_, rfl, hP _ _ _ fun a' ha' => ⟨ha', Builds.no (by rw [hq.out]; exact BE2.out.trans (hb3.mono (by have := S2.out; omega))) (RE.out.trans (by rw [hr]; rfl)) ⟨kk, rfl⟩⟩⟩
  have HR := Lib.hid hr
  have BE3 : Hid (Below q w w3) := BE2.out.trans (hb3.mono (by have := S2.out; omega))
  have HS3 : Blk w3 q 25 z5T ∧ IntAt w3 pb b ∧ IntAt w3 pf f ∧ Blk w3 pt 25 cs := ⟨HS2.1.below hb3 HS2.1.lt, HS2.2.1.below hb3 HS2.2.1.lt, HS2.2.2.1.below hb3 HS2.2.2.1.lt, HS2.2.2.2.below hb3 HS2.2.2.2.lt⟩
  have S3 : Hid (q + 1 ≤ w3.heap.size) := by have := hb3.size; have := S2.out; rw [Hid]; omega
  have HTR := Lib.hid (htr.range S2.out)
  have CR5 := Lib.hid htr.len
  have SMR := shO_sm hr hs
  refine .inl ⟨_, rfl, ⟨⟨_, HS3.1⟩, HS3.2⟩, ?_⟩
  clear HS2 hb3 hr htr hbu
  refine reg_callP 5 52 #[.agg cr.toArray] (some 23) _ (by kernel_rfl) (by kernel_rfl) (by kernel_rfl) (valid_walk r cr w3 HTR.out SMR.1 (by omega)) ?_
  rintro e w4 (⟨hv, rfl, hb4⟩ | ⟨hv, ⟨kk, rfl⟩, hb4⟩)
  rotate_left
  · exact .inr ⟨_, rfl, hP _ _ _ fun a' ha' => ⟨ha', Builds.no (by rw [hq.out]; exact BE3.out.trans (hb4.mono (by have := S3.out; omega))) (RE.out.trans (by rw [HR.out]; exact okO_no hv)) ⟨kk, rfl⟩⟩⟩
  have RS : Hid (R = some r) := RE.out.trans (by rw [HR.out]; exact okO_yes hv)
  have BE4 : Hid (Below q w w4) := BE3.out.trans (hb4.mono (by have := S3.out; omega))
  have HS4 : Blk w4 q 25 z5T ∧ IntAt w4 pb b ∧ IntAt w4 pf f ∧ Blk w4 pt 25 cs := ⟨HS3.1.below hb4 HS3.1.lt, HS3.2.1.below hb4 HS3.2.1.lt, HS3.2.2.1.below hb4 HS3.2.2.1.lt, HS3.2.2.2.below hb4 HS3.2.2.2.lt⟩
  have T4 : Hid (TmAt (List.range (q + 1)) w4 r cr) := HTR.out.below hb4
  have ONE := Lib.hid HTR.out.one
  refine .inl ⟨_, rfl, ⟨⟨_, HS4.1⟩, HS4.2⟩, ?_⟩
  clear HS3 hb4 hv HTR
  refine reg_putT 6 25 (.tmp 3) (.tmp 23) q 25 z5T cr (by kernel_rfl) (by kernel_rfl) (by kernel_rfl) (by kernel_rfl) (by kernel_rfl) HS4.1 (CR5.out.trans (rfl : 5 = z5T.length)) (t5Size CR5.out) (by simpa using ONE.out) ?_
  intro w5 bw5 uw5
  have h3 := HQ.out
  refine ⟨⟨⟨_, bw5⟩, uw5.blk HS4.2.1 (by omega), uw5.blk HS4.2.2.1 (by omega), uw5.blk HS4.2.2.2 (by omega)⟩, ?_⟩
  refine reg_done (by kernel_rfl) (hN _ _ ?_)
  generalize hact : Act.put _ none _ = act
  simp only [Act.put, sA, sC, sZ] at hact
  subst hact
  go_wp2
  refine bodyPost_ret (v := .agg cr.toArray) ?_ rfl (Builds.yes (by rw [hq.out]; exact uw5.below BE4.out (by omega) (by have := BE4.out.size; have := hq.out; omega)) RS.out rfl (by rw [hq.out]; exact (TmAt.step (Step.of_upd uw5 (List.mem_range.2 (by omega))) _ _ T4.out).range (by omega)))
  exact results_cell_row (g := q) (t := 25) (cs := (cr).toArray) (fr := (0, 0)) Try.results50 _ _ _ rfl bw5 Try.underlying25 rfl (t5Size CR5.out)
set_option maxHeartbeats 4000000 in
theorem shift_walk {F : List Nat} (t : Tm) (b f : Int) (cs : List Value) (w : World) (ht : TmAt F w t cs) (hs : SmT t) (hn : nodesT t ≤ 100000000000) : Calls Try.prog 19 #[.agg cs.toArray, .int .i64 b, .int .i64 f] w fun e w' => ∃ cs', e = .returned (.tuple #[.agg cs'.toArray, .bool (shiftO b f t).isSome]) ∧ TmAt (List.range w.heap.size) w' ((shiftO b f t).getD zT) cs' ∧ Below w.heap.size w w' := by
  obtain ⟨q, hq⟩ : ∃ q, Hid (w.heap.size = q) := ⟨_, rfl⟩
  have HT := Lib.hid ht
  have C5 := Lib.hid ht.len
  clear ht
  obtain ⟨R, hR⟩ : ∃ R, Hid (shiftO b f t = R) := ⟨_, rfl⟩
  rw [hR.out]
  go_enter Try.func19, Try.ntmps19
  go_upto_region 0 with (fail)
  refine lbeg (opsOf Try.f19 0) ?_
  refine lbox 0 25 (.tmp 0) (cs) (q) (some 3) hq ?_
  intro w1 bw1 bew1 hsw1
  refine lin_box1 1 3 (.tmp 1) (.int .i64 b) (q + 1) (some 4) (by kernel_rfl) (by kernel_rfl) (by kernel_rfl) (by kernel_rfl) (by rfl) hsw1 ?_
  intro w2 bw2 bew2 hsw2
  refine lin_box1 2 3 (.tmp 2) (.int .i64 f) (q + 1 + 1) (some 5) (by kernel_rfl) (by kernel_rfl) (by kernel_rfl) (by kernel_rfl) (by rfl) hsw2 ?_
  intro w3 bw3 bew3 hsw3
  refine lall 3 25 z5T (q + 1 + 1 + 1) (some 6) hsw3 ?_
  intro w4 bw4 bew4 hsw4
  refine lnow 4 (.bool false) (some 7) ?_
  refine ldn 5 ?_
  generalize hact : Act.put _ (some 7) _ = act
  simp only [Act.put, sA, sC, sZ] at hact
  subst hact
  have B0 : Hid (Blk w4 (q) 25 cs) := (((bw1.below bew2 (by omega)).below bew3 (by omega)).below bew4 (by omega))
  have B1 : Hid (Blk w4 (q + 1) 3 [.int .i64 b]) := ((bw2.below bew3 (by omega)).below bew4 (by omega))
  have B2 : Hid (Blk w4 (q + 1 + 1) 3 [.int .i64 f]) := (bw3.below bew4 (by omega))
  have BR : Hid (Blk w4 (q + 1 + 1 + 1) 25 z5T) := bw4
  have BE : Hid (Below q w w4) := (((bew1.trans (bew2.mono (by omega))).trans (bew3.mono (by omega))).trans (bew4.mono (by omega)))
  have SZ : Hid (w4.heap.size = q + 4) := hsw4
  have LB : Hid (∀ k, w.heap.size ≤ k → True) := fun _ _ => trivial
  clear bw1 bew1 hsw1
  clear bw2 bew2 hsw2
  clear bw3 bew3 hsw3
  clear bw4 bew4 hsw4
  obtain ⟨wa, hwa⟩ : ∃ y, y = w4 := ⟨_, rfl⟩
  rw [← hwa] at BE SZ BR B0 B1 B2 ⊢
  clear hwa
  go_upto_region 1 with (fail)
  refine lbeg (opsOf Try.f19 1) ?_
  refine lin_now 0 (.func (.func 50) #[] #[.pointer (some ⟨q + 1, 0, none⟩), .pointer (some ⟨q + 1 + 1, 0, none⟩), .pointer (some ⟨q, 0, none⟩)]) (some 8) (by kernel_rfl) (by kernel_rfl) (by first | kernel_rfl | rfl) ?_
  have BW := built_walk 50 #[.pointer (some ⟨q + 1, 0, none⟩), .pointer (some ⟨q + 1 + 1, 0, none⟩), .pointer (some ⟨q, 0, none⟩)] wa (enters_of Try.func50 (by kernel_rfl) rfl) R (fun w1 h1 => by
    show Calls Try.prog 50 #[.pointer (some ⟨q + 1, 0, none⟩), .pointer (some ⟨q + 1 + 1, 0, none⟩), .pointer (some ⟨q, 0, none⟩)] w1 _
    rw [← hR.out]
    exact shift1_walk t b f (q + 1) (q + 1 + 1) q cs w1 ((HT.out.step (Step.of_below BE.out (by have := hq.out; omega))).below h1) hs hn (B1.out.below h1 B1.out.lt) (B2.out.below h1 B2.out.lt) (B0.out.below h1 B0.out.lt))
  refine lcal 1 49 #[.func (.func 50) #[] #[.pointer (some ⟨q + 1, 0, none⟩), .pointer (some ⟨q + 1 + 1, 0, none⟩), .pointer (some ⟨q, 0, none⟩)]] (some 9) _ (BW) ?_
  rintro e wb ⟨cr, rfl, hcr, hbb⟩
  refine ⟨_, rfl, ?_⟩
  refine lnow 2 (.agg cr.toArray) (some 10) ?_
  refine lnow 3 (.bool R.isSome) (some 11) ?_
  have CR5 := Lib.hid hcr.len
  have BRb : Hid (Blk wb (q + 1 + 1 + 1) 25 z5T) := BR.out.below hbb BR.out.lt
  have BEb : Hid (Below q w wb) := BE.out.trans (hbb.mono (by have := SZ.out; omega))
  refine lin_put 4 25 (.tmp 6) (.tmp 10) (q + 1 + 1 + 1) _ (z5T) (cr) (by kernel_rfl) (by kernel_rfl) (by kernel_rfl) (by kernel_rfl) (by kernel_rfl) BRb.out (CR5.out.trans (rfl : z5T.length = 5).symm) (t5Size CR5.out) (by simpa using hcr.one) ?_
  intro wc bwc uwc
  refine lnow 5 (.bool R.isSome) (some 7) ?_
  refine ldn 6 ?_
  generalize hact : Act.put _ (some 7) _ = act
  simp only [Act.put, sA, sC, sZ] at hact
  subst hact
  go_wp2
  refine bodyPost_ret (v := .tuple #[.agg cr.toArray, .bool R.isSome]) ?_ rfl ⟨cr, rfl, (TmAt.step (Step.of_upd uwc (List.mem_range.2 (by have := SZ.out; omega))) _ _ hcr).range (by have := SZ.out; have := hq.out; omega), by rw [hq.out]; exact uwc.below BEb.out (by omega) (by have := BEb.out.size; have := hq.out; omega)⟩
  exact results_cell_tmp Try.results19 _ _ (q + 1 + 1 + 1) 25 cr.toArray (0, 0) _ _ rfl rfl bwc Try.underlying25 rfl (t5Size CR5.out)
end Go.Proofs.Ytndbpmkglddjjaa
