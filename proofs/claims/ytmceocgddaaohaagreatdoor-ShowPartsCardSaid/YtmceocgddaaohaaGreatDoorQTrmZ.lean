/- Package term's Same. -/
import Derived.Test.YtmceocgddaaohaaGreatDoorQGenT
import Derived.Test.YtmceocgddaaohaaGreatDoorQTrmF
namespace Go.Proofs.YtmceocgddaaohaaGreatDoor
open Go Go.RowKit
set_option maxRecDepth 100000
/-- Levels that came in, by their values alone. -/
theorem take_eq_succ {α : Type} {a b : List α} {i : Nat} {x y : α} (h : a.take i = b.take i) (hx : a[i]? = some x) (hy : b[i]? = some y) (e : x = y) : a.take (i + 1) = b.take (i + 1) := by
 rw [List.take_add_one, List.take_add_one, hx, hy, h, e]
theorem ne_of_at {α : Type} {a b : List α} {i : Nat} {x y : α} (hx : a[i]? = some x) (hy : b[i]? = some y) (e : x ≠ y) : a ≠ b := fun h => by
 subst h
 rw [hx] at hy
 exact e (Option.some.inj hy)
theorem eqT_bool (x y : Tm) : (eqT x y = true ∧ x = y) ∨ (eqT x y = false ∧ x ≠ y) := by
 by_cases h : x = y
 ·exact .inl ⟨eqT_yes h, h⟩
 ·exact .inr ⟨eqT_no h, h⟩
noncomputable def eqTs (x y : List Tm) : Bool := @decide (x = y) (Classical.propDecidable _)
theorem eqTs_yes {x y : List Tm} (h : x = y) : eqTs x y = true := @decide_eq_true _ (Classical.propDecidable _) h
theorem eqTs_no {x y : List Tm} (h : x ≠ y) : eqTs x y = false := @decide_eq_false _ (Classical.propDecidable _) h
set_option maxHeartbeats 4000000 in
theorem lvsequal_walk {F G : List Nat} (a b : List Lv) (u v : Value) (w : World) (h1 : LvsOff F w u a) (h2 : LvsOff G w v b) (sa : a.length * 40 ≤ 140737488351232) : Calls Tryz.prog 115 #[u, v] w fun e w' => e = .returned (.bool (decide (a = b))) ∧ Below w.heap.size w w' := by
 obtain ⟨aa, ac, rfl⟩ := h1.slice
 obtain ⟨ba, bc, rfl⟩ := h2.slice
 obtain ⟨N, hAN⟩ : ∃ N, Hid (a.length = N) := ⟨_, rfl⟩
 obtain ⟨M, hBM⟩ : ∃ M, Hid (b.length = M) := ⟨_, rfl⟩
 rw [hAN.out] at h1 sa ⊢
 rw [hBM.out] at h2 ⊢
 have H1 := Lib.hid h1
 have H2 := Lib.hid h2
 clear h1 h2
 go_enter Tryz.func115, Tryz.ntmps115
 by_cases hNM : (N : Int) = (M : Int)
 rotate_left
 ·have r0 : (!decide ((N : Int) = (M : Int))) = true := by rw [decide_eq_false hNM]; rfl
  go_upto_region 1 with (fail)
  refine lbeg (opsOf Tryz.f115 1) ?_
  refine lnow 0 (.slice aa N ac) (some 6) ?_
  refine lnow 1 (.int .i64 (N : Int)) (some 7) ?_
  refine lnow 2 (.slice ba M bc) (some 8) ?_
  refine lnow 3 (.int .i64 (M : Int)) (some 9) ?_
  refine lnow 4 (.bool (!decide ((N : Int) = (M : Int)))) (some 10) ?_
  rw [r0]
  refine ldn 5 ?_
  generalize hact : Act.put _ (some 10) _ = act
  simp only [Act.put, sA, sC, sZ] at hact
  subst hact
  go_wp2
  go_ret
  exact ⟨by rw [decide_eq_false (fun h => hNM (by have h1 := hAN.out; have h2 := hBM.out; rw [h] at h1; omega))]; rfl, Below.refl _ _⟩
 have r0 : (!decide ((N : Int) = (M : Int))) = false := by rw [decide_eq_true hNM]; rfl
 go_upto_region 1 with (fail)
 refine lbeg (opsOf Tryz.f115 1) ?_
 refine lnow 0 (.slice aa N ac) (some 6) ?_
 refine lnow 1 (.int .i64 (N : Int)) (some 7) ?_
 refine lnow 2 (.slice ba M bc) (some 8) ?_
 refine lnow 3 (.int .i64 (M : Int)) (some 9) ?_
 refine lnow 4 (.bool (!decide ((N : Int) = (M : Int)))) (some 10) ?_
 rw [r0]
 refine ldn 5 ?_
 generalize hact : Act.put _ (some 10) _ = act
 simp only [Act.put, sA, sC, sZ] at hact
 subst hact
 obtain rfl : N = M := by omega
 go_upto_region 3 with (fail)
 refine lbeg (opsOf Tryz.f115 3) ?_
 refine lnow 0 (.slice aa N ac) (some 11) ?_
 refine lnow 1 (.int .i64 (N : Int)) (some 12) ?_
 refine lnow 2 (.int .i64 0) (some 13) ?_
 refine ldn 3 ?_
 generalize hact : Act.put _ (some 13) _ = act
 simp only [Act.put, sA, sC, sZ] at hact
 subst hact
 go_wp2
 go_loopw [13] (fun iv wr => ∃ i : Nat, i ≤ N ∧ iv = .int .i64 (i : Int) ∧ Hid (a.take i = b.take i) ∧ Hid (Below w.heap.size w wr)) (fun iv _ => N - (intOf iv).toNat)
 case atStart => exact ⟨0, Nat.zero_le _, rfl, by rw [Hid]; simp, Below.refl _ _⟩
 case round =>
  obtain ⟨i, hi, rfl, EQ, BE⟩ := hrel
  by_cases hlt : i < N
  rotate_left
  ·have r1 : ¬ (i : Int) < (N : Int) := by omega
   have FIN : Hid (decide (a = b) = true) := by
    have h := EQ.out
    rw [List.take_of_length_le (by have := hAN.out; omega), List.take_of_length_le (by have := hBM.out; omega)] at h
    exact decide_eq_true h
   go_wp2
   go_ret
   exact ⟨by rw [FIN.out]; rfl, BE.out⟩
  have r1 : (i : Int) < (N : Int) := by omega
  obtain ⟨x, hx⟩ : ∃ x, a[i]? = some x := ⟨_, List.getElem?_eq_getElem (by have := hAN.out; omega)⟩
  obtain ⟨y, hy⟩ : ∃ y, b[i]? = some y := ⟨_, List.getElem?_eq_getElem (by have := hBM.out; omega)⟩
  have H1r : LvsOff F wr (.slice aa N ac) a := H1.out.step (Step.of_below BE.out (Nat.le_refl _))
  have H2r : LvsOff G wr (.slice ba N bc) b := H2.out.step (Step.of_below BE.out (Nat.le_refl _))
  obtain ⟨x4, pb, po, rfl, -⟩ := H1r.at hx
  obtain ⟨y4, pb2, po2, rfl, -⟩ := H2r.at hy
  have HX := Lib.hid (H1r.rng hx)
  have HY := Lib.hid (H2r.rng hy)
  have HXI := Lib.hid hx
  have HYI := Lib.hid hy
  clear H1r H2r hx hy
  go_upto_region 5 with (fail)
  refine lbeg (opsOf Tryz.f115 5) ?_
  refine lnow 0 (.int .i64 (i : Int)) (some 15) ?_
  refine lnow 1 (.int .i64 (i : Int)) (some 5) ?_
  refine ldn 2 ?_
  generalize hact : Act.put _ (some 5) _ = act
  simp only [Act.put, sA, sC, sZ] at hact
  subst hact
  go_upto_region 6 with (fail)
  refine region_begin (opsOf Tryz.f115 6) (fun W' => W' = wr.drew) (by kernel_rfl) (by kernel_rfl) 9 (by kernel_rfl) ?_
  intro Q' hQN hN
  have HXd : Hid (wr.drew.rangeAt pb (po + 5 * i) (ints .i64 x.zs)) := HX.out
  have HYd : Hid (wr.drew.rangeAt pb2 (po2 + 5 * i) (ints .i64 y.zs)) := HY.out
  have BD : Hid (Below w.heap.size w wr.drew) := BE.out.drew
  generalize wr.drew = wd at HXd HYd BD ⊢
  have HSd : wd = wd := rfl
  refine reg_now 0 (.slice (some ⟨pb, po, none⟩) N ac) (some 16) hQN HSd (by kernel_rfl) (by kernel_rfl) (fun w => by kernel_rfl) ?_
  refine reg_now 1 (.int .i64 (i : Int)) (some 17) hQN HSd (by kernel_rfl) (by kernel_rfl) (fun w => by kernel_rfl) ?_
  refine reg_now 2 (.pointer (some ⟨pb, po + 5 * i, none⟩)) (some 18) hQN HSd (by kernel_rfl) (by kernel_rfl) (fun w' => exec_indexAt 22 (.tmp 16) (.tmp 17) (by kernel_rfl) _ _ _ (by kernel_rfl) (by kernel_rfl) (run_at_lv pb po N ac i hlt w')) ?_
  refine reg_nowIf 3 (.agg (ints .i64 x.zs).toArray) (some 19) hQN HSd (by kernel_rfl) (by kernel_rfl) (fun w' hw => by subst hw; exact exec_load_mid 80 (.tmp 18) (by kernel_rfl) pb (po + 5 * i) (by kernel_rfl) (ints .i64 x.zs) _ HXd.out Tryz.underlying80 rfl (lvSize x4)) ?_
  refine reg_now 4 (.slice (some ⟨pb2, po2, none⟩) N bc) (some 20) hQN HSd (by kernel_rfl) (by kernel_rfl) (fun w => by kernel_rfl) ?_
  refine reg_now 5 (.int .i64 (i : Int)) (some 21) hQN HSd (by kernel_rfl) (by kernel_rfl) (fun w => by kernel_rfl) ?_
  refine reg_now 6 (.pointer (some ⟨pb2, po2 + 5 * i, none⟩)) (some 22) hQN HSd (by kernel_rfl) (by kernel_rfl) (fun w' => exec_indexAt 22 (.tmp 20) (.tmp 21) (by kernel_rfl) _ _ _ (by kernel_rfl) (by kernel_rfl) (run_at_lv pb2 po2 N bc i hlt w')) ?_
  refine reg_nowIf 7 (.agg (ints .i64 y.zs).toArray) (some 23) hQN HSd (by kernel_rfl) (by kernel_rfl) (fun w' hw => by subst hw; exact exec_load_mid 80 (.tmp 22) (by kernel_rfl) pb2 (po2 + 5 * i) (by kernel_rfl) (ints .i64 y.zs) _ HYd.out Tryz.underlying80 rfl (lvSize y4)) ?_
  refine reg_nowIf 8 (.bool (!decide (x = y))) (some 24) hQN HSd (by kernel_rfl) (by kernel_rfl) (fun w' hw => exec_neqlv (.tmp 19) (.tmp 23) 80 (by kernel_rfl) x4 y4 (by kernel_rfl) (by kernel_rfl)) ?_
  refine reg_done (by kernel_rfl) (hN _ _ ?_)
  generalize hact : Act.put _ (some 24) _ = act
  simp only [Act.put, sA, sC, sZ] at hact
  subst hact
  by_cases hxy : x = y
  rotate_left
  ·have r2 : (!decide (x = y)) = true := by rw [decide_eq_false hxy]; rfl
   rw [r2]
   have FIN : Hid (decide (a = b) = false) := decide_eq_false (ne_of_at HXI.out HYI.out hxy)
   clear HXd HYd HX HY EQ
   go_wp2
   go_ret
   exact ⟨by rw [FIN.out]; rfl, BD.out⟩
  have r2 : (!decide (x = y)) = false := by rw [decide_eq_true hxy]; rfl
  rw [r2]
  have NE : Hid (a.take (i + 1) = b.take (i + 1)) := take_eq_succ EQ.out HXI.out HYI.out hxy
  clear HXd HYd HX HY EQ HXI HYI hxy
  have bl := sa
  go_wp2
  go_roundw
  case rel => exact ⟨i + 1, by omega, by go_num, NE, BD⟩
  case measure => simp [intOf]; omega
theorem block_of_range {w : World} {b o : Nat} {cs : List Value} (h : w.rangeAt b o cs) (h5 : cs.length = 5) : b < w.heap.size :=
 block_lt_of_cell (a := ⟨b, o + 0, none⟩) (h 0 (cs[0]'(by omega)) (List.getElem?_eq_getElem (by omega)))
set_option maxHeartbeats 4000000 in
theorem tmsequal_walk {F G : List Nat} (a b : List Tm) (ih : ∀ x ∈ a, ∀ (y : Tm) (cx cy : List Value) (w : World) (F G : List Nat), TmAt F w x cx → TmAt G w y cy → SmT x → SmT y → Calls Tryz.prog 93 #[.agg cx.toArray, .agg cy.toArray] w fun e w' => e = .returned (.bool (eqT x y)) ∧ Below w.heap.size w w')
    (u v : Value) (w : World) (h1 : TmsAt F w a u) (h2 : TmsAt G w b v) (ss : SmTs a) (ss2 : SmTs b) (sa : a.length * 80 ≤ 140737488351232) : Calls Tryz.prog 116 #[u, v, .func (.func 93) #[] #[]] w fun e w' => e = .returned (.bool (eqTs a b)) ∧ Below w.heap.size w w' := by
  obtain ⟨aa, ac, rfl⟩ := h1.slice
  obtain ⟨ba, bc, rfl⟩ := h2.slice
  obtain ⟨N, hAN⟩ : ∃ N, Hid (a.length = N) := ⟨_, rfl⟩
  obtain ⟨M, hBM⟩ : ∃ M, Hid (b.length = M) := ⟨_, rfl⟩
  rw [hAN.out] at h1 sa ⊢
  rw [hBM.out] at h2 ⊢
  have H1 := Lib.hid h1
  have H2 := Lib.hid h2
  have SS := Lib.hid ss
  have SS2 := Lib.hid ss2
  clear h1 h2 ss ss2
  go_enter Tryz.func116, Tryz.ntmps116
  by_cases hNM : (N : Int) = (M : Int)
  rotate_left
  · have r0 : (!decide ((N : Int) = (M : Int))) = true := by rw [decide_eq_false hNM]; rfl
    go_upto_region 1 with (fail)
    refine lbeg (opsOf Tryz.f116 1) ?_
    refine lnow 0 (.slice aa N ac) (some 10) ?_
    refine lnow 1 (.int .i64 (N : Int)) (some 11) ?_
    refine lnow 2 (.slice ba M bc) (some 12) ?_
    refine lnow 3 (.int .i64 (M : Int)) (some 13) ?_
    refine lnow 4 (.bool (!decide ((N : Int) = (M : Int)))) (some 14) ?_
    rw [r0]
    refine ldn 5 ?_
    generalize hact : Act.put _ (some 14) _ = act
    simp only [Act.put, sA, sC, sZ] at hact
    subst hact
    go_wp2
    go_ret
    exact ⟨by rw [eqTs_no (fun h => hNM (by have h1 := hAN.out; have h2 := hBM.out; rw [h] at h1; omega))]; rfl, Below.refl _ _⟩
  have r0 : (!decide ((N : Int) = (M : Int))) = false := by rw [decide_eq_true hNM]; rfl
  go_upto_region 1 with (fail)
  refine lbeg (opsOf Tryz.f116 1) ?_
  refine lnow 0 (.slice aa N ac) (some 10) ?_
  refine lnow 1 (.int .i64 (N : Int)) (some 11) ?_
  refine lnow 2 (.slice ba M bc) (some 12) ?_
  refine lnow 3 (.int .i64 (M : Int)) (some 13) ?_
  refine lnow 4 (.bool (!decide ((N : Int) = (M : Int)))) (some 14) ?_
  rw [r0]
  refine ldn 5 ?_
  generalize hact : Act.put _ (some 14) _ = act
  simp only [Act.put, sA, sC, sZ] at hact
  subst hact
  obtain rfl : N = M := by omega
  go_upto_region 3 with (fail)
  refine lbeg (opsOf Tryz.f116 3) ?_
  refine lnow 0 (.slice aa N ac) (some 15) ?_
  refine lnow 1 (.int .i64 (N : Int)) (some 16) ?_
  refine lnow 2 (.int .i64 0) (some 17) ?_
  refine ldn 3 ?_
  generalize hact : Act.put _ (some 17) _ = act
  simp only [Act.put, sA, sC, sZ] at hact
  subst hact
  go_wp2
  go_loopw [17] (fun iv wr => ∃ i : Nat, i ≤ N ∧ iv = .int .i64 (i : Int) ∧ Hid (a.take i = b.take i) ∧ Hid (Below w.heap.size w wr)) (fun iv _ => N - (intOf iv).toNat)
  case atStart => exact ⟨0, Nat.zero_le _, rfl, by rw [Hid]; simp, Below.refl _ _⟩
  case round =>
    obtain ⟨i, hi, rfl, EQ, BE⟩ := hrel
    by_cases hlt : i < N
    rotate_left
    · have r1 : ¬ (i : Int) < (N : Int) := by omega
      have FIN : Hid (eqTs a b = true) := by
        have h := EQ.out
        rw [List.take_of_length_le (by have := hAN.out; omega), List.take_of_length_le (by have := hBM.out; omega)] at h
        exact eqTs_yes h
      go_wp2
      go_ret
      exact ⟨by rw [FIN.out]; rfl, BE.out⟩
    have r1 : (i : Int) < (N : Int) := by omega
    have H1r : TmsAt F wr a (.slice aa N ac) := TmsAt.step (Step.of_below BE.out (Nat.le_refl _)) a _ H1.out
    have H2r : TmsAt G wr b (.slice ba N bc) := TmsAt.step (Step.of_below BE.out (Nat.le_refl _)) b _ H2.out
    obtain ⟨x, pb, po, cx, hx, hxm, haa, -, -, -, hrx, htx⟩ := H1r.get hAN.out hlt
    obtain ⟨y, pb2, po2, cy, hy, hym, hbb, -, -, -, hry, hty⟩ := H2r.get hBM.out hlt
    subst haa
    subst hbb
    have IH := ih x hxm y
    have SX := SmTs.mem SS.out hxm
    have SY := SmTs.mem SS2.out hym
    have HX := Lib.hid hrx
    have HY := Lib.hid hry
    have TX := Lib.hid htx
    have TY := Lib.hid hty
    have X5 := Lib.hid htx.len
    have Y5 := Lib.hid hty.len
    have X1 := Lib.hid htx.one
    have Y1 := Lib.hid hty.one
    have HXI := Lib.hid hx
    have HYI := Lib.hid hy
    clear H1r H2r hx hy hxm hym hrx hry htx hty
    obtain ⟨qr, hqr⟩ : ∃ z, Hid (wr.heap.size = z) := ⟨_, rfl⟩
    go_upto_region 5 with (fail)
    refine lbeg (opsOf Tryz.f116 5) ?_
    refine lnow 0 (.int .i64 (i : Int)) (some 19) ?_
    refine lix 1 (.pointer (some ⟨pb, po + 5 * i, none⟩)) (some 20) 23 15 17 (run_at_tm pb po N ac i hlt _) ?_
    refine lrl 2 cx (some 21) 25 20 pb (po + 5 * i) HX.out Tryz.underlying25 (t5Size X5.out) ?_
    refine lall 3 25 z5T (qr) (some 8) hqr ?_
    intro w3 bw3 bew3 hsw3
    refine lnow 4 (.int .i64 (i : Int)) (some 7) ?_
    refine lput 5 25 (.tmp 8) (.tmp 21) (qr) _ (z5T) (cx) bw3 (X5.out.trans (rfl : z5T.length = 5).symm) (t5Size X5.out) (by simpa using X1.out) ?_
    intro w4 bw4 uw4
    refine ldn 6 ?_
    generalize hact : Act.put _ none _ = act
    simp only [Act.put, sA, sC, sZ] at hact
    subst hact
    have K4 : Hid (Below wr.heap.size wr w4) := by rw [Hid, hqr.out]; exact uw4.below bew3 (Nat.le_refl _) (by have := bew3.size; have := hqr.out; omega)
    have S4 : Hid (qr < w4.heap.size) := bw4.lt
    have B4 := Lib.hid bw4
    have HY4 := Lib.hid (rangeBelow K4.out (block_of_range HY.out Y5.out) HY.out)
    clear bw3 bew3 hsw3 bw4 uw4
    obtain ⟨qs, hqs⟩ : ∃ z, Hid (w4.heap.size = z) := ⟨_, rfl⟩
    go_upto_region 6 with (fail)
    refine lbeg (opsOf Tryz.f116 6) ?_
    refine lnow 0 (.slice (some ⟨pb2, po2, none⟩) N bc) (some 22) ?_
    refine lnow 1 (.int .i64 (i : Int)) (some 23) ?_
    refine lix 2 (.pointer (some ⟨pb2, po2 + 5 * i, none⟩)) (some 24) 23 22 23 (run_at_tm pb2 po2 N bc i hlt _) ?_
    refine lrl 3 cy (some 25) 25 24 pb2 (po2 + 5 * i) HY4.out Tryz.underlying25 (t5Size Y5.out) ?_
    refine lall 4 25 z5T (qs) (some 9) hqs ?_
    intro w5 bw5 bew5 hsw5
    refine lput 5 25 (.tmp 9) (.tmp 25) (qs) _ (z5T) (cy) bw5 (Y5.out.trans (rfl : z5T.length = 5).symm) (t5Size Y5.out) (by simpa using Y1.out) ?_
    intro w6 bw6 uw6
    refine ldn 6 ?_
    generalize hact : Act.put _ none _ = act
    simp only [Act.put, sA, sC, sZ] at hact
    subst hact
    have K6 : Hid (Below w4.heap.size w4 w6) := by rw [Hid, hqs.out]; exact uw6.below bew5 (Nat.le_refl _) (by have := bew5.size; have := hqs.out; omega)
    have B6 : Hid (Blk w6 qr 25 cx) := B4.out.below K6.out S4.out
    have B6s := Lib.hid bw6
    have KK : Hid (Below wr.heap.size wr w6) := K4.out.trans (K6.out.mono K4.out.size)
    have CALL := IH cx cy w6 F G (TX.out.below KK.out) (TY.out.below KK.out) SX SY
    have BN : Hid (Below w.heap.size w w6) := BE.out.trans (KK.out.mono BE.out.size)
    clear bw5 bew5 hsw5 bw6 uw6 IH
    rcases eqT_bool x y with ⟨eb, hxy⟩ | ⟨eb, hxy⟩
    · rw [eb] at CALL
      go_upto_region 7 with (fail)
      refine lbeg (opsOf Tryz.f116 7) ?_
      refine lnow 0 (.func (.func 93) #[] #[]) (some 26) ?_
      refine lrl 1 (cx) (some 27) 25 8 (qr) 0 (B6.out).whole Tryz.underlying25 (t5Size X5.out) ?_
      refine lrl 2 (cy) (some 28) 25 9 (qs) 0 (B6s.out).whole Tryz.underlying25 (t5Size Y5.out) ?_
      refine lcal 3 93 #[.agg cx.toArray, .agg cy.toArray] (some 29) _ (CALL) ?_
      rintro e w7 ⟨rfl, hb7⟩
      refine ⟨_, rfl, ?_⟩
      refine lnow 4 (.bool false) (some 30) ?_
      refine ldn 5 ?_
      generalize hact : Act.put _ (some 30) _ = act
      simp only [Act.put, sA, sC, sZ] at hact
      subst hact
      have BN7 : Hid (Below w.heap.size w w7) := BN.out.trans (hb7.mono BN.out.size)
      have NE : Hid (a.take (i + 1) = b.take (i + 1)) := take_eq_succ EQ.out HXI.out HYI.out hxy
      clear hb7 B6 B6s KK K4 K6 TX TY HX HY HY4 EQ HXI HYI hxy BN BE eb
      have bl := sa
      go_wp2
      go_roundw
      case rel => exact ⟨i + 1, by omega, by go_num, NE, BN7⟩
      case measure => simp [intOf]; omega
    · rw [eb] at CALL
      go_upto_region 7 with (fail)
      refine lbeg (opsOf Tryz.f116 7) ?_
      refine lnow 0 (.func (.func 93) #[] #[]) (some 26) ?_
      refine lrl 1 (cx) (some 27) 25 8 (qr) 0 (B6.out).whole Tryz.underlying25 (t5Size X5.out) ?_
      refine lrl 2 (cy) (some 28) 25 9 (qs) 0 (B6s.out).whole Tryz.underlying25 (t5Size Y5.out) ?_
      refine lcal 3 93 #[.agg cx.toArray, .agg cy.toArray] (some 29) _ (CALL) ?_
      rintro e w7 ⟨rfl, hb7⟩
      refine ⟨_, rfl, ?_⟩
      refine lnow 4 (.bool true) (some 30) ?_
      refine ldn 5 ?_
      generalize hact : Act.put _ (some 30) _ = act
      simp only [Act.put, sA, sC, sZ] at hact
      subst hact
      have BN7 : Hid (Below w.heap.size w w7) := BN.out.trans (hb7.mono BN.out.size)
      have FIN : Hid (eqTs a b = false) := eqTs_no (ne_of_at HXI.out HYI.out hxy)
      go_wp2
      go_ret
      exact ⟨by rw [FIN.out]; rfl, BN7.out⟩
set_option maxHeartbeats 8000000 in
theorem same_walkT : ∀ (x y : Tm) (cx cy : List Value) (w : World) (F G : List Nat), TmAt F w x cx → TmAt G w y cy → SmT x → SmT y → Calls Tryz.prog 93 #[.agg cx.toArray, .agg cy.toArray] w fun e w' => e = .returned (.bool (eqT x y)) ∧ Below w.heap.size w w' := by
 refine Tm.byParts fun k n s ls a ih y cx cy w F G hx hy sx sy => ?_
 obtain ⟨k2, n2, s2, ls2, a2⟩ := y
 obtain ⟨lv, av, rfl, h1, h2⟩ := hx.open
 obtain ⟨lv2, av2, rfl, h3, h4⟩ := hy.open
 obtain ⟨-, sl, sa, ss⟩ := sx.open
 obtain ⟨-, sl2, sa2, ss2⟩ := sy.open
 dsimp only [Tm.kind, Tm.n, Tm.name, Tm.levels, Tm.args] at *
 obtain ⟨la, lc, rfl⟩ := h1.slice
 obtain ⟨aa, ac, rfl⟩ := h2.slice
 obtain ⟨lb, lc2, rfl⟩ := h3.slice
 obtain ⟨ab, ac2, rfl⟩ := h4.slice
 have hr : reachBytes = 140737488351232 := rfl
 rw [hr] at sl sa
 have LE : ∀ w1, Below w.heap.size w w1 → Calls Tryz.prog 115 #[.slice la ls.length lc, .slice lb ls2.length lc2] w1 fun e w' => e = .returned (.bool (decide (ls = ls2))) ∧ Below w1.heap.size w1 w' := fun w1 hb => lvsequal_walk ls ls2 _ _ w1 (h1.step (Step.of_below hb (Nat.le_refl _))) (h3.step (Step.of_below hb (Nat.le_refl _))) sl
 have TE : ∀ w1, Below w.heap.size w w1 → Calls Tryz.prog 116 #[.slice aa a.length ac, .slice ab a2.length ac2, .func (.func 93) #[] #[]] w1 fun e w' => e = .returned (.bool (eqTs a a2)) ∧ Below w1.heap.size w1 w' := fun w1 hb => tmsequal_walk a a2 ih _ _ w1 (TmsAt.step (Step.of_below hb (Nat.le_refl _)) a _ h2) (TmsAt.step (Step.of_below hb (Nat.le_refl _)) a2 _ h4) ss ss2 sa
 have YES : k = k2 → n = n2 → s = s2 → ls = ls2 → eqT (.mk k n s ls a) (.mk k2 n2 s2 ls2 a2) = eqTs a a2 := by
  rintro rfl rfl rfl rfl
  by_cases e : a = a2
  ·rw [eqTs_yes e, e, eqT_yes rfl]
  ·rw [eqTs_no e, eqT_no (fun h => e (by cases h; rfl))]
 have NO : ¬ (k = k2 ∧ n = n2 ∧ s = s2 ∧ ls = ls2) → eqT (.mk k n s ls a) (.mk k2 n2 s2 ls2 a2) = false := fun h => eqT_no (fun e => h (by cases e; exact ⟨rfl, rfl, rfl, rfl⟩))
 have HYES := Lib.hid YES
 have HNO := Lib.hid NO
 obtain ⟨eb, heb⟩ : ∃ z, Hid (eqT (.mk k n s ls a) (.mk k2 n2 s2 ls2 a2) = z) := ⟨_, rfl⟩
 rw [heb.out] at HYES HNO ⊢
 obtain ⟨L, hL⟩ : ∃ L, Hid (ls.length = L) := ⟨_, rfl⟩
 obtain ⟨L2, hL2⟩ : ∃ L, Hid (ls2.length = L) := ⟨_, rfl⟩
 obtain ⟨N, hN1⟩ : ∃ N, Hid (a.length = N) := ⟨_, rfl⟩
 obtain ⟨N2, hN2⟩ : ∃ N, Hid (a2.length = N) := ⟨_, rfl⟩
 rw [hL.out, hL2.out] at LE
 rw [hN1.out, hN2.out] at TE
 rw [hL.out, hN1.out]
 rw [hL2.out, hN2.out]
 obtain ⟨q, hq⟩ : ∃ q, Hid (w.heap.size = q) := ⟨_, rfl⟩
 rw [hq.out] at LE TE ⊢
 clear hx hy sx sy h1 h2 h3 h4 sl sa ss sl2 sa2 ss2 ih YES NO heb hr
 go_enter Tryz.func93, Tryz.ntmps93
 go_upto_region 0 with (fail)
 refine lbeg (opsOf Tryz.f93 0) ?_
 refine lbox 0 25 (.tmp 0) ([.int .i64 k, .int .i64 n, strT s, .slice la L lc, .slice aa N ac]) (q) (some 2) hq ?_
 intro w1 bw1 bew1 hsw1
 refine lbox 1 25 (.tmp 1) ([.int .i64 k2, .int .i64 n2, strT s2, .slice lb L2 lc2, .slice ab N2 ac2]) (q + 1) (some 3) hsw1 ?_
 intro w2 bw2 bew2 hsw2
 refine lnow 2 (.bool false) (some 4) ?_
 refine ldn 3 ?_
 generalize hact : Act.put _ (some 4) _ = act
 simp only [Act.put, sA, sC, sZ] at hact
 subst hact
 have B1 : Hid (Blk w2 q 25 [.int .i64 k, .int .i64 n, strT s, .slice la L lc, .slice aa N ac]) := bw1.below bew2 (by omega)
 have B2 : Hid (Blk w2 (q + 1) 25 [.int .i64 k2, .int .i64 n2, strT s2, .slice lb L2 lc2, .slice ab N2 ac2]) := bw2
 have BE : Hid (Below q w w2) := bew1.trans (bew2.mono (by omega))
 have S2 : Hid (w2.heap.size = q + 2) := hsw2
 clear bw1 bew1 hsw1 bw2 bew2 hsw2
 by_cases h1 : k = k2
 rotate_left
 ·have e1 : decide (k = k2) = false := decide_eq_false h1
  go_upto_region 1 with (fail)
  refine lbeg (opsOf Tryz.f93 1) ?_
  refine lnow 0 (.pointer (some ⟨q, 0, none⟩)) (some 5) ?_
  refine lcl 1 (.int .i64 k) (some 6) 3 5 (q) 0 (B1.out.cell rfl) Tryz.underlying3 ?_
  refine lnow 2 (.pointer (some ⟨q + 1, 0, none⟩)) (some 7) ?_
  refine lcl 3 (.int .i64 k2) (some 8) 3 7 (q + 1) 0 (B2.out.cell rfl) Tryz.underlying3 ?_
  refine lnow 4 (.bool (decide (k = k2))) (some 9) ?_
  rw [e1]
  refine lnow 5 (.bool false) (some 10) ?_
  refine lpas 6 (some 11) ?_
  refine lpas 7 (some 12) ?_
  refine lpas 8 (some 13) ?_
  refine lpas 9 (some 14) ?_
  refine lpas 10 (some 15) ?_
  refine lnow 11 (.bool false) (some 16) ?_
  refine lnow 12 (.bool false) (some 17) ?_
  refine lpas 13 (some 18) ?_
  refine lpas 14 (some 19) ?_
  refine lpas 15 (some 20) ?_
  refine lpas 16 (some 21) ?_
  refine lpas 17 (some 22) ?_
  refine lnow 18 (.bool false) (some 23) ?_
  refine lnow 19 (.bool false) (some 24) ?_
  refine lpas 20 (some 25) ?_
  refine lpas 21 (some 26) ?_
  refine lpas 22 (some 27) ?_
  refine lpas 23 (some 28) ?_
  refine lpas 24 (some 29) ?_
  refine lnow 25 (.bool false) (some 30) ?_
  refine lnow 26 (.bool false) (some 31) ?_
  refine lpas 27 (some 32) ?_
  refine lpas 28 (some 33) ?_
  refine lpas 29 (some 34) ?_
  refine lpas 30 (some 35) ?_
  refine lpas 31 (some 36) ?_
  refine lnow 32 (.bool false) (some 37) ?_
  refine lnow 33 (.bool false) (some 4) ?_
  refine ldn 34 ?_
  generalize hact : Act.put _ (some 4) _ = act
  simp only [Act.put, sA, sC, sZ] at hact
  subst hact
  go_wp2
  go_ret
  exact ⟨by rw [HNO.out (fun h => h1 h.1)]; rfl, BE.out⟩
 have e1 : decide (k = k2) = true := decide_eq_true h1
 by_cases h2 : n = n2
 rotate_left
 ·have e2 : decide (n = n2) = false := decide_eq_false h2
  go_upto_region 1 with (fail)
  refine lbeg (opsOf Tryz.f93 1) ?_
  refine lnow 0 (.pointer (some ⟨q, 0, none⟩)) (some 5) ?_
  refine lcl 1 (.int .i64 k) (some 6) 3 5 (q) 0 (B1.out.cell rfl) Tryz.underlying3 ?_
  refine lnow 2 (.pointer (some ⟨q + 1, 0, none⟩)) (some 7) ?_
  refine lcl 3 (.int .i64 k2) (some 8) 3 7 (q + 1) 0 (B2.out.cell rfl) Tryz.underlying3 ?_
  refine lnow 4 (.bool (decide (k = k2))) (some 9) ?_
  rw [e1]
  refine lnow 5 (.bool true) (some 10) ?_
  refine lnow 6 (.pointer (some ⟨q, 1, none⟩)) (some 11) ?_
  refine lcl 7 (.int .i64 n) (some 12) 3 11 (q) 1 (B1.out.cell rfl) Tryz.underlying3 ?_
  refine lnow 8 (.pointer (some ⟨q + 1, 1, none⟩)) (some 13) ?_
  refine lcl 9 (.int .i64 n2) (some 14) 3 13 (q + 1) 1 (B2.out.cell rfl) Tryz.underlying3 ?_
  refine lnow 10 (.bool (decide (n = n2))) (some 15) ?_
  rw [e2]
  refine lnow 11 (.bool false) (some 16) ?_
  refine lnow 12 (.bool false) (some 17) ?_
  refine lpas 13 (some 18) ?_
  refine lpas 14 (some 19) ?_
  refine lpas 15 (some 20) ?_
  refine lpas 16 (some 21) ?_
  refine lpas 17 (some 22) ?_
  refine lnow 18 (.bool false) (some 23) ?_
  refine lnow 19 (.bool false) (some 24) ?_
  refine lpas 20 (some 25) ?_
  refine lpas 21 (some 26) ?_
  refine lpas 22 (some 27) ?_
  refine lpas 23 (some 28) ?_
  refine lpas 24 (some 29) ?_
  refine lnow 25 (.bool false) (some 30) ?_
  refine lnow 26 (.bool false) (some 31) ?_
  refine lpas 27 (some 32) ?_
  refine lpas 28 (some 33) ?_
  refine lpas 29 (some 34) ?_
  refine lpas 30 (some 35) ?_
  refine lpas 31 (some 36) ?_
  refine lnow 32 (.bool false) (some 37) ?_
  refine lnow 33 (.bool false) (some 4) ?_
  refine ldn 34 ?_
  generalize hact : Act.put _ (some 4) _ = act
  simp only [Act.put, sA, sC, sZ] at hact
  subst hact
  go_wp2
  go_ret
  exact ⟨by rw [HNO.out (fun h => h2 h.2.1)]; rfl, BE.out⟩
 have e2 : decide (n = n2) = true := decide_eq_true h2
 by_cases h3 : s = s2
 rotate_left
 ·have e3 : decide (s = s2) = false := decide_eq_false h3
  go_upto_region 1 with (fail)
  refine lbeg (opsOf Tryz.f93 1) ?_
  refine lnow 0 (.pointer (some ⟨q, 0, none⟩)) (some 5) ?_
  refine lcl 1 (.int .i64 k) (some 6) 3 5 (q) 0 (B1.out.cell rfl) Tryz.underlying3 ?_
  refine lnow 2 (.pointer (some ⟨q + 1, 0, none⟩)) (some 7) ?_
  refine lcl 3 (.int .i64 k2) (some 8) 3 7 (q + 1) 0 (B2.out.cell rfl) Tryz.underlying3 ?_
  refine lnow 4 (.bool (decide (k = k2))) (some 9) ?_
  rw [e1]
  refine lnow 5 (.bool true) (some 10) ?_
  refine lnow 6 (.pointer (some ⟨q, 1, none⟩)) (some 11) ?_
  refine lcl 7 (.int .i64 n) (some 12) 3 11 (q) 1 (B1.out.cell rfl) Tryz.underlying3 ?_
  refine lnow 8 (.pointer (some ⟨q + 1, 1, none⟩)) (some 13) ?_
  refine lcl 9 (.int .i64 n2) (some 14) 3 13 (q + 1) 1 (B2.out.cell rfl) Tryz.underlying3 ?_
  refine lnow 10 (.bool (decide (n = n2))) (some 15) ?_
  rw [e2]
  refine lnow 11 (.bool true) (some 16) ?_
  refine lnow 12 (.bool true) (some 17) ?_
  refine lnow 13 (.pointer (some ⟨q, 2, none⟩)) (some 18) ?_
  refine lcl 14 (strT s) (some 19) 9 18 (q) 2 (B1.out.cell rfl) Tryz.underlying9 ?_
  refine lnow 15 (.pointer (some ⟨q + 1, 2, none⟩)) (some 20) ?_
  refine lcl 16 (strT s2) (some 21) 9 20 (q + 1) 2 (B2.out.cell rfl) Tryz.underlying9 ?_
  refine lnowP 17 (.bool (decide (s = s2))) (some 22) (exec_streqT 9 9 (.tmp 19) (.tmp 21) (by kernel_rfl) s s2 (by kernel_rfl) (by kernel_rfl) (fun w => by kernel_rfl)) ?_
  rw [e3]
  refine lnow 18 (.bool false) (some 23) ?_
  refine lnow 19 (.bool false) (some 24) ?_
  refine lpas 20 (some 25) ?_
  refine lpas 21 (some 26) ?_
  refine lpas 22 (some 27) ?_
  refine lpas 23 (some 28) ?_
  refine lpas 24 (some 29) ?_
  refine lnow 25 (.bool false) (some 30) ?_
  refine lnow 26 (.bool false) (some 31) ?_
  refine lpas 27 (some 32) ?_
  refine lpas 28 (some 33) ?_
  refine lpas 29 (some 34) ?_
  refine lpas 30 (some 35) ?_
  refine lpas 31 (some 36) ?_
  refine lnow 32 (.bool false) (some 37) ?_
  refine lnow 33 (.bool false) (some 4) ?_
  refine ldn 34 ?_
  generalize hact : Act.put _ (some 4) _ = act
  simp only [Act.put, sA, sC, sZ] at hact
  subst hact
  go_wp2
  go_ret
  exact ⟨by rw [HNO.out (fun h => h3 h.2.2.1)]; rfl, BE.out⟩
 have e3 : decide (s = s2) = true := decide_eq_true h3
 by_cases h4 : ls = ls2
 rotate_left
 ·have e4 : decide (ls = ls2) = false := decide_eq_false h4
  go_upto_region 1 with (fail)
  refine lbeg (opsOf Tryz.f93 1) ?_
  refine lnow 0 (.pointer (some ⟨q, 0, none⟩)) (some 5) ?_
  refine lcl 1 (.int .i64 k) (some 6) 3 5 (q) 0 (B1.out.cell rfl) Tryz.underlying3 ?_
  refine lnow 2 (.pointer (some ⟨q + 1, 0, none⟩)) (some 7) ?_
  refine lcl 3 (.int .i64 k2) (some 8) 3 7 (q + 1) 0 (B2.out.cell rfl) Tryz.underlying3 ?_
  refine lnow 4 (.bool (decide (k = k2))) (some 9) ?_
  rw [e1]
  refine lnow 5 (.bool true) (some 10) ?_
  refine lnow 6 (.pointer (some ⟨q, 1, none⟩)) (some 11) ?_
  refine lcl 7 (.int .i64 n) (some 12) 3 11 (q) 1 (B1.out.cell rfl) Tryz.underlying3 ?_
  refine lnow 8 (.pointer (some ⟨q + 1, 1, none⟩)) (some 13) ?_
  refine lcl 9 (.int .i64 n2) (some 14) 3 13 (q + 1) 1 (B2.out.cell rfl) Tryz.underlying3 ?_
  refine lnow 10 (.bool (decide (n = n2))) (some 15) ?_
  rw [e2]
  refine lnow 11 (.bool true) (some 16) ?_
  refine lnow 12 (.bool true) (some 17) ?_
  refine lnow 13 (.pointer (some ⟨q, 2, none⟩)) (some 18) ?_
  refine lcl 14 (strT s) (some 19) 9 18 (q) 2 (B1.out.cell rfl) Tryz.underlying9 ?_
  refine lnow 15 (.pointer (some ⟨q + 1, 2, none⟩)) (some 20) ?_
  refine lcl 16 (strT s2) (some 21) 9 20 (q + 1) 2 (B2.out.cell rfl) Tryz.underlying9 ?_
  refine lnowP 17 (.bool (decide (s = s2))) (some 22) (exec_streqT 9 9 (.tmp 19) (.tmp 21) (by kernel_rfl) s s2 (by kernel_rfl) (by kernel_rfl) (fun w => by kernel_rfl)) ?_
  rw [e3]
  refine lnow 18 (.bool true) (some 23) ?_
  refine lnow 19 (.bool true) (some 24) ?_
  refine lnow 20 (.pointer (some ⟨q, 3, none⟩)) (some 25) ?_
  refine lcl 21 (.slice la L lc) (some 26) 22 25 (q) 3 (B1.out.cell rfl) Tryz.underlying22 ?_
  refine lnow 22 (.pointer (some ⟨q + 1, 3, none⟩)) (some 27) ?_
  refine lcl 23 (.slice lb L2 lc2) (some 28) 22 27 (q + 1) 3 (B2.out.cell rfl) Tryz.underlying22 ?_
  refine lcal 24 115 #[.slice la L lc, .slice lb L2 lc2] (some 29) _ (LE w2 BE.out) ?_
  rintro e w3 ⟨rfl, hb3⟩
  rw [e4]
  refine ⟨_, rfl, ?_⟩
  have BE3 : Hid (Below q w w3) := BE.out.trans (hb3.mono (by have := S2.out; omega))
  refine lnow 25 (.bool false) (some 30) ?_
  refine lnow 26 (.bool false) (some 31) ?_
  refine lpas 27 (some 32) ?_
  refine lpas 28 (some 33) ?_
  refine lpas 29 (some 34) ?_
  refine lpas 30 (some 35) ?_
  refine lpas 31 (some 36) ?_
  refine lnow 32 (.bool false) (some 37) ?_
  refine lnow 33 (.bool false) (some 4) ?_
  refine ldn 34 ?_
  generalize hact : Act.put _ (some 4) _ = act
  simp only [Act.put, sA, sC, sZ] at hact
  subst hact
  go_wp2
  go_ret
  exact ⟨by rw [HNO.out (fun h => h4 h.2.2.2)]; rfl, BE3.out⟩
 have e4 : decide (ls = ls2) = true := decide_eq_true h4
 have FIN := Lib.hid (HYES.out h1 h2 h3 h4)
 clear HYES HNO h1 h2 h3 h4
 go_upto_region 1 with (fail)
 refine lbeg (opsOf Tryz.f93 1) ?_
 refine lnow 0 (.pointer (some ⟨q, 0, none⟩)) (some 5) ?_
 refine lcl 1 (.int .i64 k) (some 6) 3 5 (q) 0 (B1.out.cell rfl) Tryz.underlying3 ?_
 refine lnow 2 (.pointer (some ⟨q + 1, 0, none⟩)) (some 7) ?_
 refine lcl 3 (.int .i64 k2) (some 8) 3 7 (q + 1) 0 (B2.out.cell rfl) Tryz.underlying3 ?_
 refine lnow 4 (.bool (decide (k = k2))) (some 9) ?_
 rw [e1]
 refine lnow 5 (.bool true) (some 10) ?_
 refine lnow 6 (.pointer (some ⟨q, 1, none⟩)) (some 11) ?_
 refine lcl 7 (.int .i64 n) (some 12) 3 11 (q) 1 (B1.out.cell rfl) Tryz.underlying3 ?_
 refine lnow 8 (.pointer (some ⟨q + 1, 1, none⟩)) (some 13) ?_
 refine lcl 9 (.int .i64 n2) (some 14) 3 13 (q + 1) 1 (B2.out.cell rfl) Tryz.underlying3 ?_
 refine lnow 10 (.bool (decide (n = n2))) (some 15) ?_
 rw [e2]
 refine lnow 11 (.bool true) (some 16) ?_
 refine lnow 12 (.bool true) (some 17) ?_
 refine lnow 13 (.pointer (some ⟨q, 2, none⟩)) (some 18) ?_
 refine lcl 14 (strT s) (some 19) 9 18 (q) 2 (B1.out.cell rfl) Tryz.underlying9 ?_
 refine lnow 15 (.pointer (some ⟨q + 1, 2, none⟩)) (some 20) ?_
 refine lcl 16 (strT s2) (some 21) 9 20 (q + 1) 2 (B2.out.cell rfl) Tryz.underlying9 ?_
 refine lnowP 17 (.bool (decide (s = s2))) (some 22) (exec_streqT 9 9 (.tmp 19) (.tmp 21) (by kernel_rfl) s s2 (by kernel_rfl) (by kernel_rfl) (fun w => by kernel_rfl)) ?_
 rw [e3]
 refine lnow 18 (.bool true) (some 23) ?_
 refine lnow 19 (.bool true) (some 24) ?_
 refine lnow 20 (.pointer (some ⟨q, 3, none⟩)) (some 25) ?_
 refine lcl 21 (.slice la L lc) (some 26) 22 25 (q) 3 (B1.out.cell rfl) Tryz.underlying22 ?_
 refine lnow 22 (.pointer (some ⟨q + 1, 3, none⟩)) (some 27) ?_
 refine lcl 23 (.slice lb L2 lc2) (some 28) 22 27 (q + 1) 3 (B2.out.cell rfl) Tryz.underlying22 ?_
 refine lcal 24 115 #[.slice la L lc, .slice lb L2 lc2] (some 29) _ (LE w2 BE.out) ?_
 rintro e w3 ⟨rfl, hb3⟩
 rw [e4]
 refine ⟨_, rfl, ?_⟩
 have BE3 : Hid (Below q w w3) := BE.out.trans (hb3.mono (by have := S2.out; omega))
 refine lnow 25 (.bool true) (some 30) ?_
 refine lnow 26 (.bool true) (some 31) ?_
 refine lnow 27 (.pointer (some ⟨q, 4, none⟩)) (some 32) ?_
 refine lcl 28 (.slice aa N ac) (some 33) 23 32 (q) 4 ((B1.out.below hb3 B1.out.lt).cell rfl) Tryz.underlying23 ?_
 refine lnow 29 (.pointer (some ⟨q + 1, 4, none⟩)) (some 34) ?_
 refine lcl 30 (.slice ab N2 ac2) (some 35) 23 34 (q + 1) 4 ((B2.out.below hb3 B2.out.lt).cell rfl) Tryz.underlying23 ?_
 refine lcal 31 116 #[.slice aa N ac, .slice ab N2 ac2, .func (.func 93) #[] #[]] (some 36) _ (TE w3 BE3.out) ?_
 rintro e w4 ⟨rfl, hb4⟩
 refine ⟨_, rfl, ?_⟩
 have BE4 : Hid (Below q w w4) := BE3.out.trans (hb4.mono (by have := S2.out; have := hb3.size; omega))
 refine lnow 32 (.bool (eqTs a a2)) (some 37) ?_
 refine lnow 33 (.bool (eqTs a a2)) (some 4) ?_
 refine ldn 34 ?_
 generalize hact : Act.put _ (some 4) _ = act
 simp only [Act.put, sA, sC, sZ] at hact
 subst hact
 go_wp2
 go_ret
 exact ⟨by rw [FIN.out]; rfl, BE4.out⟩
end Go.Proofs.YtmceocgddaaohaaGreatDoor
