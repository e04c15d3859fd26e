/- Package move: Rename. -/
import Derived.Test.YtndbpmkglddjjaaQGenT
import Derived.Test.YtndbpmkglddjjaaQMovG
import Derived.Test.YtndbpmkglddjjaaQTrmW
namespace Go.Proofs.Ytndbpmkglddjjaa
open Go Go.RowKit
set_option maxRecDepth 100000
def renN (fr to : List UInt8) (t : Tm) (_ : Int) : Option Tm := some (if t.name = fr ∧ (t.kind = 4 ∨ t.kind = 9) then .mk t.kind t.n to t.levels t.args else t)
def renG (fr to : List UInt8) (_ : Unit) (t : Tm) (d : Int) : Option (Unit × Tm) := (renN fr to t d).map fun r => ((), r)
def renO (fr to : List UInt8) (t : Tm) : Option Tm := (rebT (renG fr to) () 0 t).map (·.2)
def renameO (fr to : List UInt8) (t : Tm) : Option Tm := if wordB to = true ∧ rightP 4 1099511627776 t = true then renO fr to t else none
abbrev StrAt (w : World) (b : Nat) (s : List UInt8) : Prop := Blk w b 9 [strT s]
set_option maxHeartbeats 4000000 in
theorem rename11_walk (fr to : List UInt8) (bf bt : Nat) (t : Tm) (d : Int) (cs : List Value) (w : World) (B : Nat) (ha : t.args = []) (ht : TmAt (List.range B) w t cs) (hf : StrAt w bf fr) (hb : StrAt w bt to) :
    Calls Try.prog 58 #[.agg cs.toArray, .int .i64 d, .pointer (some ⟨bf, 0, none⟩), .pointer (some ⟨bt, 0, none⟩)] w (Made (renN fr to t d) B w) := by
  obtain ⟨k, n, nm, ls, a⟩ := t
  dsimp only [Tm.kind, Tm.n, Tm.name, Tm.levels, Tm.args] at ha ⊢
  subst ha
  obtain ⟨R, hR⟩ : ∃ R, Hid (renN fr to (.mk k n nm ls []) d = R) := ⟨_, rfl⟩
  rw [hR.out]
  obtain ⟨lv, av, rfl, h1, h2⟩ := ht.open
  dsimp only [Tm.kind, Tm.n, Tm.name, Tm.levels, Tm.args] at h1 h2 ⊢
  obtain ⟨q, hq⟩ : ∃ q, Hid (w.heap.size = q) := ⟨_, rfl⟩
  have HQ : Hid (bf < q ∧ bt < q) := by have := hf.lt; have := hb.lt; have := hq.out; rw [Hid]; omega
  have HF := Lib.hid hf
  have HB := Lib.hid hb
  have H1 := Lib.hid h1
  have H2 := Lib.hid h2
  clear hf hb ht
  obtain ⟨CS, hCS⟩ : ∃ x, Hid ([.int .i64 k, .int .i64 n, strT nm, lv, av] = x) := ⟨_, rfl⟩
  rw [hCS.out]
  have C5 : Hid (CS.length = 5) := by rw [Hid, ← hCS.out]; rfl
  have C1 : Hid (∀ u ∈ CS, u.oneCell' = true) := by have h : TmAt (List.range B) w (.mk k n nm ls []) [.int .i64 k, .int .i64 n, strT nm, lv, av] := TmAt.mk (t := .mk k n nm ls []) h1 h2; rw [hCS.out] at h; exact h.one
  clear h1 h2
  go_enter Try.func58, Try.ntmps58
  go_upto_region 0 with (fail)
  refine lbeg (opsOf Try.f58 0) ?_
  refine lbox 0 25 (.tmp 0) (CS) (q) (some 4) hq ?_
  intro w1 bw1 bew1 hsw1
  refine lall 1 25 z5T (q + 1) (some 6) hsw1 ?_
  intro w2 bw2 bew2 hsw2
  refine ldn 2 ?_
  generalize hact : Act.put _ (some 6) _ = act
  simp only [Act.put, sA, sC, sZ] at hact
  subst hact
  have hbq := HQ.out
  have B1 : Hid (Blk w2 q 25 CS) := bw1.below bew2 (by omega)
  have B2 : Hid (Blk w2 (q + 1) 25 z5T) := bw2
  have BE : Hid (Below q w w2) := bew1.trans (bew2.mono (by omega))
  have S2 : Hid (w2.heap.size = q + 2) := hsw2
  have F2 : Hid (StrAt w2 bf fr) := HF.out.below BE.out hbq.1
  have G2 : Hid (StrAt w2 bt to) := HB.out.below BE.out hbq.2
  clear bw1 bew1 hsw1 bw2 bew2 hsw2 HF HB
  by_cases hnm : nm = fr
  rotate_left
  · skip
    have OPT : Hid (R = some (.mk k n nm ls [])) := hR.out.symm.trans (congrArg some (if_neg (fun h => hnm h.1)))
    go_upto_region 1 with (fail)
    refine lbeg (opsOf Try.f58 1) ?_
    refine lnow 0 (.pointer (some ⟨q, 2, none⟩)) (some 7) ?_
    refine lcl 1 (strT nm) (some 8) 9 7 (q) 2 (B1.out.cell (by rw [← hCS.out]; rfl)) Try.underlying9 ?_
    refine lcl 2 (strT fr) (some 9) 9 2 (bf) 0 (F2.out.cell rfl) Try.underlying9 ?_
    refine lnowP 3 (.bool (decide (nm = fr))) (some 10) (exec_streqT 9 9 (.tmp 8) (.tmp 9) (by kernel_rfl) nm fr (by kernel_rfl) (by kernel_rfl) (fun _ => rfl)) ?_
    rw [show decide (nm = fr) = false from decide_eq_false hnm]
    refine lnow 4 (.bool false) (some 11) ?_
    refine lpas 5 (some 12) ?_
    refine lpas 6 (some 13) ?_
    refine lpas 7 (some 14) ?_
    refine lpas 8 (some 15) ?_
    refine lpas 9 (some 16) ?_
    refine lpas 10 (some 17) ?_
    refine lpas 11 (some 18) ?_
    refine lpas 12 (some 19) ?_
    refine lnow 13 (.bool false) (some 20) ?_
    refine ldn 14 ?_
    generalize hact : Act.put _ (some 20) _ = act
    simp only [Act.put, sA, sC, sZ] at hact
    subst hact
    have N5 := C5
    have N1 := C1
    have N0 := hCS
    have R2 := B2
    go_upto_region 3 with (fail)
    refine lbeg (opsOf Try.f58 3) ?_
    refine lrl 0 (CS) (some 23) 25 4 (q) 0 (B1.out).whole Try.underlying25 (t5Size N5.out) ?_
    refine lin_put 1 25 (.tmp 6) (.tmp 23) (q + 1) _ (z5T) (CS) (by kernel_rfl) (by kernel_rfl) (by kernel_rfl) (by kernel_rfl) (by kernel_rfl) R2.out (N5.out.trans (rfl : z5T.length = 5).symm) (t5Size N5.out) (by simpa using N1.out) ?_
    intro w9 bw9 uw9
    refine ldn 2 ?_
    generalize hact : Act.put _ none _ = act
    simp only [Act.put, sA, sC, sZ] at hact
    subst hact
    have BE9 : Hid (Below q w w9) := uw9.below BE.out (by omega) (by have := BE.out.size; have := hq.out; omega)
    have FT : Hid (TmAt (List.range B) w9 (.mk k n nm ls []) CS) := by rw [Hid, ← N0.out]; exact TmAt.mk (t := (.mk k n nm ls [])) (H1.out.step (Step.of_below BE9.out (by have := hq.out; omega))) (TmsAt.below H2.out (by rw [hq.out]; exact BE9.out))
    go_wp2
    refine bodyPost_ret (v := .agg (CS).toArray) ?_ rfl (Made.yes (by rw [hq.out]; exact BE9.out) OPT.out rfl FT.out)
    exact results_cell_row (g := q + 1) (t := 25) (cs := (CS).toArray) (fr := (0, 0)) Try.results58 _ _ _ rfl bw9 Try.underlying25 rfl (t5Size N5.out)
  by_cases hk4 : k = 4
  · skip
    have OPT : Hid (R = some (.mk k n to ls [])) := hR.out.symm.trans (congrArg some (if_pos ⟨hnm, .inl hk4⟩))
    go_upto_region 1 with (fail)
    refine lbeg (opsOf Try.f58 1) ?_
    refine lnow 0 (.pointer (some ⟨q, 2, none⟩)) (some 7) ?_
    refine lcl 1 (strT nm) (some 8) 9 7 (q) 2 (B1.out.cell (by rw [← hCS.out]; rfl)) Try.underlying9 ?_
    refine lcl 2 (strT fr) (some 9) 9 2 (bf) 0 (F2.out.cell rfl) Try.underlying9 ?_
    refine lnowP 3 (.bool (decide (nm = fr))) (some 10) (exec_streqT 9 9 (.tmp 8) (.tmp 9) (by kernel_rfl) nm fr (by kernel_rfl) (by kernel_rfl) (fun _ => rfl)) ?_
    rw [show decide (nm = fr) = true from decide_eq_true hnm]
    refine lnow 4 (.bool true) (some 11) ?_
    refine lnow 5 (.pointer (some ⟨q, 0, none⟩)) (some 12) ?_
    refine lcl 6 (.int .i64 k) (some 13) 3 12 (q) 0 (B1.out.cell (by rw [← hCS.out]; rfl)) Try.underlying3 ?_
    refine lnowP 7 (.bool true) (some 14) (exec_eqli_yes hk4 (by kernel_rfl)) ?_
    refine lnow 8 (.bool true) (some 15) ?_
    refine lpas 9 (some 16) ?_
    refine lpas 10 (some 17) ?_
    refine lpas 11 (some 18) ?_
    refine lnow 12 (.bool true) (some 19) ?_
    refine lnow 13 (.bool true) (some 20) ?_
    refine ldn 14 ?_
    generalize hact : Act.put _ (some 20) _ = act
    simp only [Act.put, sA, sC, sZ] at hact
    subst hact
    clear hk4 hnm
    go_upto_region 2 with (fail)
    refine lbeg (opsOf Try.f58 2) ?_
    refine lcl 0 (strT to) (some 21) 9 3 (bt) 0 (G2.out.cell rfl) Try.underlying9 ?_
    refine lnow 1 (.pointer (some ⟨q, 2, none⟩)) (some 22) ?_
    refine lin_putF 2 2 9 (.tmp 22) (.tmp 21) q 25 CS (strT to) (by kernel_rfl) (by kernel_rfl) (by kernel_rfl) (by kernel_rfl) (by kernel_rfl) B1.out (by rw [C5.out]; decide) (by kernel_rfl) (by rfl) (by rfl) ?_
    intro w3 bw3 uw3
    refine ldn 3 ?_
    generalize hact : Act.put _ none _ = act
    simp only [Act.put, sA, sC, sZ] at hact
    subst hact
    obtain ⟨CN, hCN⟩ : ∃ x, Hid (CS.set 2 (strT to) = x) := ⟨_, rfl⟩
    rw [hCN.out] at bw3
    have N0 : Hid ([.int .i64 k, .int .i64 n, strT to, lv, av] = CN) := by rw [Hid, ← hCN.out, ← hCS.out]; rfl
    have N5 : Hid (CN.length = 5) := by rw [Hid, ← N0.out]; rfl
    have N1 : Hid (∀ u ∈ CN, u.oneCell' = true) := by have h : TmAt (List.range B) w (.mk k n to ls []) [.int .i64 k, .int .i64 n, strT to, lv, av] := TmAt.mk (t := .mk k n to ls []) H1.out H2.out; rw [N0.out] at h; exact h.one
    have D1 : Hid (Blk w3 q 25 CN) := bw3
    have R2 : Hid (Blk w3 (q + 1) 25 z5T) := uw3.blk B2.out (by omega)
    have DE : Hid (Below q w w3) := uw3.below BE.out (by omega) (by have := BE.out.size; have := hq.out; omega)
    clear bw3 uw3 B1 B2 BE
    go_upto_region 3 with (fail)
    refine lbeg (opsOf Try.f58 3) ?_
    refine lrl 0 (CN) (some 23) 25 4 (q) 0 (D1.out).whole Try.underlying25 (t5Size N5.out) ?_
    refine lin_put 1 25 (.tmp 6) (.tmp 23) (q + 1) _ (z5T) (CN) (by kernel_rfl) (by kernel_rfl) (by kernel_rfl) (by kernel_rfl) (by kernel_rfl) R2.out (N5.out.trans (rfl : z5T.length = 5).symm) (t5Size N5.out) (by simpa using N1.out) ?_
    intro w9 bw9 uw9
    refine ldn 2 ?_
    generalize hact : Act.put _ none _ = act
    simp only [Act.put, sA, sC, sZ] at hact
    subst hact
    have BE9 : Hid (Below q w w9) := uw9.below DE.out (by omega) (by have := DE.out.size; have := hq.out; omega)
    have FT : Hid (TmAt (List.range B) w9 (.mk k n to ls []) CN) := by rw [Hid, ← N0.out]; exact TmAt.mk (t := (.mk k n to ls [])) (H1.out.step (Step.of_below BE9.out (by have := hq.out; omega))) (TmsAt.below H2.out (by rw [hq.out]; exact BE9.out))
    go_wp2
    refine bodyPost_ret (v := .agg (CN).toArray) ?_ rfl (Made.yes (by rw [hq.out]; exact BE9.out) OPT.out rfl FT.out)
    exact results_cell_row (g := q + 1) (t := 25) (cs := (CN).toArray) (fr := (0, 0)) Try.results58 _ _ _ rfl bw9 Try.underlying25 rfl (t5Size N5.out)
  by_cases hk9 : k = 9
  · skip
    have OPT : Hid (R = some (.mk k n to ls [])) := hR.out.symm.trans (congrArg some (if_pos ⟨hnm, .inr hk9⟩))
    go_upto_region 1 with (fail)
    refine lbeg (opsOf Try.f58 1) ?_
    refine lnow 0 (.pointer (some ⟨q, 2, none⟩)) (some 7) ?_
    refine lcl 1 (strT nm) (some 8) 9 7 (q) 2 (B1.out.cell (by rw [← hCS.out]; rfl)) Try.underlying9 ?_
    refine lcl 2 (strT fr) (some 9) 9 2 (bf) 0 (F2.out.cell rfl) Try.underlying9 ?_
    refine lnowP 3 (.bool (decide (nm = fr))) (some 10) (exec_streqT 9 9 (.tmp 8) (.tmp 9) (by kernel_rfl) nm fr (by kernel_rfl) (by kernel_rfl) (fun _ => rfl)) ?_
    rw [show decide (nm = fr) = true from decide_eq_true hnm]
    refine lnow 4 (.bool true) (some 11) ?_
    refine lnow 5 (.pointer (some ⟨q, 0, none⟩)) (some 12) ?_
    refine lcl 6 (.int .i64 k) (some 13) 3 12 (q) 0 (B1.out.cell (by rw [← hCS.out]; rfl)) Try.underlying3 ?_
    refine lnowP 7 (.bool false) (some 14) (exec_eqli hk4 (by kernel_rfl)) ?_
    refine lnow 8 (.bool false) (some 15) ?_
    refine lnow 9 (.pointer (some ⟨q, 0, none⟩)) (some 16) ?_
    refine lcl 10 (.int .i64 k) (some 17) 3 16 (q) 0 (B1.out.cell (by rw [← hCS.out]; rfl)) Try.underlying3 ?_
    refine lnowP 11 (.bool true) (some 18) (exec_eqli_yes hk9 (by kernel_rfl)) ?_
    refine lnow 12 (.bool true) (some 19) ?_
    refine lnow 13 (.bool true) (some 20) ?_
    refine ldn 14 ?_
    generalize hact : Act.put _ (some 20) _ = act
    simp only [Act.put, sA, sC, sZ] at hact
    subst hact
    clear hk4 hk9 hnm
    go_upto_region 2 with (fail)
    refine lbeg (opsOf Try.f58 2) ?_
    refine lcl 0 (strT to) (some 21) 9 3 (bt) 0 (G2.out.cell rfl) Try.underlying9 ?_
    refine lnow 1 (.pointer (some ⟨q, 2, none⟩)) (some 22) ?_
    refine lin_putF 2 2 9 (.tmp 22) (.tmp 21) q 25 CS (strT to) (by kernel_rfl) (by kernel_rfl) (by kernel_rfl) (by kernel_rfl) (by kernel_rfl) B1.out (by rw [C5.out]; decide) (by kernel_rfl) (by rfl) (by rfl) ?_
    intro w3 bw3 uw3
    refine ldn 3 ?_
    generalize hact : Act.put _ none _ = act
    simp only [Act.put, sA, sC, sZ] at hact
    subst hact
    obtain ⟨CN, hCN⟩ : ∃ x, Hid (CS.set 2 (strT to) = x) := ⟨_, rfl⟩
    rw [hCN.out] at bw3
    have N0 : Hid ([.int .i64 k, .int .i64 n, strT to, lv, av] = CN) := by rw [Hid, ← hCN.out, ← hCS.out]; rfl
    have N5 : Hid (CN.length = 5) := by rw [Hid, ← N0.out]; rfl
    have N1 : Hid (∀ u ∈ CN, u.oneCell' = true) := by have h : TmAt (List.range B) w (.mk k n to ls []) [.int .i64 k, .int .i64 n, strT to, lv, av] := TmAt.mk (t := .mk k n to ls []) H1.out H2.out; rw [N0.out] at h; exact h.one
    have D1 : Hid (Blk w3 q 25 CN) := bw3
    have R2 : Hid (Blk w3 (q + 1) 25 z5T) := uw3.blk B2.out (by omega)
    have DE : Hid (Below q w w3) := uw3.below BE.out (by omega) (by have := BE.out.size; have := hq.out; omega)
    clear bw3 uw3 B1 B2 BE
    go_upto_region 3 with (fail)
    refine lbeg (opsOf Try.f58 3) ?_
    refine lrl 0 (CN) (some 23) 25 4 (q) 0 (D1.out).whole Try.underlying25 (t5Size N5.out) ?_
    refine lin_put 1 25 (.tmp 6) (.tmp 23) (q + 1) _ (z5T) (CN) (by kernel_rfl) (by kernel_rfl) (by kernel_rfl) (by kernel_rfl) (by kernel_rfl) R2.out (N5.out.trans (rfl : z5T.length = 5).symm) (t5Size N5.out) (by simpa using N1.out) ?_
    intro w9 bw9 uw9
    refine ldn 2 ?_
    generalize hact : Act.put _ none _ = act
    simp only [Act.put, sA, sC, sZ] at hact
    subst hact
    have BE9 : Hid (Below q w w9) := uw9.below DE.out (by omega) (by have := DE.out.size; have := hq.out; omega)
    have FT : Hid (TmAt (List.range B) w9 (.mk k n to ls []) CN) := by rw [Hid, ← N0.out]; exact TmAt.mk (t := (.mk k n to ls [])) (H1.out.step (Step.of_below BE9.out (by have := hq.out; omega))) (TmsAt.below H2.out (by rw [hq.out]; exact BE9.out))
    go_wp2
    refine bodyPost_ret (v := .agg (CN).toArray) ?_ rfl (Made.yes (by rw [hq.out]; exact BE9.out) OPT.out rfl FT.out)
    exact results_cell_row (g := q + 1) (t := 25) (cs := (CN).toArray) (fr := (0, 0)) Try.results58 _ _ _ rfl bw9 Try.underlying25 rfl (t5Size N5.out)
  have OPT : Hid (R = some (.mk k n nm ls [])) := hR.out.symm.trans (congrArg some (if_neg (fun h => h.2.elim hk4 hk9)))
  go_upto_region 1 with (fail)
  refine lbeg (opsOf Try.f58 1) ?_
  refine lnow 0 (.pointer (some ⟨q, 2, none⟩)) (some 7) ?_
  refine lcl 1 (strT nm) (some 8) 9 7 (q) 2 (B1.out.cell (by rw [← hCS.out]; rfl)) Try.underlying9 ?_
  refine lcl 2 (strT fr) (some 9) 9 2 (bf) 0 (F2.out.cell rfl) Try.underlying9 ?_
  refine lnowP 3 (.bool (decide (nm = fr))) (some 10) (exec_streqT 9 9 (.tmp 8) (.tmp 9) (by kernel_rfl) nm fr (by kernel_rfl) (by kernel_rfl) (fun _ => rfl)) ?_
  rw [show decide (nm = fr) = true from decide_eq_true hnm]
  refine lnow 4 (.bool true) (some 11) ?_
  refine lnow 5 (.pointer (some ⟨q, 0, none⟩)) (some 12) ?_
  refine lcl 6 (.int .i64 k) (some 13) 3 12 (q) 0 (B1.out.cell (by rw [← hCS.out]; rfl)) Try.underlying3 ?_
  refine lnowP 7 (.bool false) (some 14) (exec_eqli hk4 (by kernel_rfl)) ?_
  refine lnow 8 (.bool false) (some 15) ?_
  refine lnow 9 (.pointer (some ⟨q, 0, none⟩)) (some 16) ?_
  refine lcl 10 (.int .i64 k) (some 17) 3 16 (q) 0 (B1.out.cell (by rw [← hCS.out]; rfl)) Try.underlying3 ?_
  refine lnowP 11 (.bool false) (some 18) (exec_eqli hk9 (by kernel_rfl)) ?_
  refine lnow 12 (.bool false) (some 19) ?_
  refine lnow 13 (.bool false) (some 20) ?_
  refine ldn 14 ?_
  generalize hact : Act.put _ (some 20) _ = act
  simp only [Act.put, sA, sC, sZ] at hact
  subst hact
  clear hk4 hk9 hnm
  have N5 := C5
  have N1 := C1
  have N0 := hCS
  have R2 := B2
  go_upto_region 3 with (fail)
  refine lbeg (opsOf Try.f58 3) ?_
  refine lrl 0 (CS) (some 23) 25 4 (q) 0 (B1.out).whole Try.underlying25 (t5Size N5.out) ?_
  refine lin_put 1 25 (.tmp 6) (.tmp 23) (q + 1) _ (z5T) (CS) (by kernel_rfl) (by kernel_rfl) (by kernel_rfl) (by kernel_rfl) (by kernel_rfl) R2.out (N5.out.trans (rfl : z5T.length = 5).symm) (t5Size N5.out) (by simpa using N1.out) ?_
  intro w9 bw9 uw9
  refine ldn 2 ?_
  generalize hact : Act.put _ none _ = act
  simp only [Act.put, sA, sC, sZ] at hact
  subst hact
  have BE9 : Hid (Below q w w9) := uw9.below BE.out (by omega) (by have := BE.out.size; have := hq.out; omega)
  have FT : Hid (TmAt (List.range B) w9 (.mk k n nm ls []) CS) := by rw [Hid, ← N0.out]; exact TmAt.mk (t := (.mk k n nm ls [])) (H1.out.step (Step.of_below BE9.out (by have := hq.out; omega))) (TmsAt.below H2.out (by rw [hq.out]; exact BE9.out))
  go_wp2
  refine bodyPost_ret (v := .agg (CS).toArray) ?_ rfl (Made.yes (by rw [hq.out]; exact BE9.out) OPT.out rfl FT.out)
  exact results_cell_row (g := q + 1) (t := 25) (cs := (CS).toArray) (fr := (0, 0)) Try.results58 _ _ _ rfl bw9 Try.underlying25 rfl (t5Size N5.out)
theorem rename_swap (fr to : List UInt8) (bf bt : Nat) (w0 : World) (hf : StrAt w0 bf fr) (hb : StrAt w0 bt to) : Swap (renG fr to) 58 #[.pointer (some ⟨bf, 0, none⟩), .pointer (some ⟨bt, 0, none⟩)] (fun _ w => Bel [] w0.heap.size w0 w) [] w0.heap.size :=
  Swap.of (g := renN fr to) (enters_of Try.func58 (by kernel_rfl) rfl) (fun w w' h hE hb => h.trans hb)
    (fun t d cs w B ha hs hn hd ht hE hB hI _ => rename11_walk fr to bf bt t d cs w B ha ht (hI.blk hf hf.lt (by simp)) (hI.blk hb hb.lt (by simp)))
set_option maxHeartbeats 4000000 in
theorem rename1_walk {F : List Nat} (fr to : List UInt8) (pf po pt : Nat) (t : Tm) (cs : List Value) (w : World) (ht : TmAt F w t cs) (hs : SmT t) (hn : nodesT t ≤ 100000000000) (hlo : to.length ≤ 140737488351232) (hf : StrAt w pf fr) (hb : StrAt w po to) (hc : Blk w pt 25 cs) :
    Calls Try.prog 56 #[.pointer (some ⟨po, 0, none⟩), .pointer (some ⟨pt, 0, none⟩), .pointer (some ⟨pf, 0, none⟩)] w (Builds (renameO fr to t) w) := by
  have C5 := Lib.hid ht.len
  have HT := Lib.hid ht
  obtain ⟨R, hR⟩ : ∃ R, Hid (renameO fr to t = R) := ⟨_, rfl⟩
  rw [hR.out]
  obtain ⟨q, hq⟩ : ∃ q, Hid (w.heap.size = q) := ⟨_, rfl⟩
  have HQ : Hid (pf < q ∧ po < q ∧ pt < q) := by have := hf.lt; have := hb.lt; have := hc.lt; have := hq.out; rw [Hid]; omega
  have HF := Lib.hid hf
  have HB := Lib.hid hb
  have HC := Lib.hid hc
  obtain ⟨wb, hwb⟩ : ∃ y, Hid (wordB to = y) := ⟨_, rfl⟩
  have WW := fun w => word_walk to hlo w
  rw [hwb.out] at WW
  clear ht hf hb hc
  go_enter Try.func56, Try.ntmps56
  go_upto_region 0 with (fail)
  refine lbeg (opsOf Try.f56 0) ?_
  refine lall 0 25 z5T (q) (some 3) hq ?_
  intro w1 bw1 bew1 hsw1
  refine ldn 1 ?_
  generalize hact : Act.put _ (some 3) _ = act
  simp only [Act.put, sA, sC, sZ] at hact
  subst hact
  have h3 := HQ.out
  have BR : Hid (Blk w1 q 25 z5T) := bw1
  have BE : Hid (Below q w w1) := bew1
  have S1 : Hid (q + 1 ≤ w1.heap.size) := by have := hsw1.out; rw [Hid]; omega
  have K1 : Hid (StrAt w1 pf fr) := HF.out.below BE.out h3.1
  have K2 : Hid (StrAt w1 po to) := HB.out.below BE.out h3.2.1
  have K3 : Hid (Blk w1 pt 25 cs) := HC.out.below BE.out h3.2.2
  clear bw1 bew1 hsw1 HF HB HC
  cases wb
  · skip
    go_upto_region 1 with (fail)
    refine lbeg (opsOf Try.f56 1) ?_
    refine lcl 0 (strT to) (some 4) 9 0 (po) 0 (K2.out.cell rfl) Try.underlying9 ?_
    refine lcal 1 33 #[strT to] (some 5) _ (WW w1) ?_
    rintro e w' ⟨rfl, hw'⟩
    obtain rfl := hw'.symm
    refine ⟨_, rfl, ?_⟩
    refine lin_callP 2 51 #[.bool false, .int .i64 10] (some 6) _ (by kernel_rfl) (by kernel_rfl) (by kernel_rfl) (need_no 10 w1) ?_
    rintro e w' ⟨rfl, hw'⟩
    obtain rfl := hw'.symm
    exact .inr ⟨_, rfl, rfl, Builds.no (by rw [hq.out]; exact BE.out) (hR.out.symm.trans (if_neg (fun h => by have := h.1; rw [hwb.out] at this; cases this))) ⟨_, rfl⟩⟩
  go_upto_region 1 with (fail)
  refine lbeg (opsOf Try.f56 1) ?_
  refine lcl 0 (strT to) (some 4) 9 0 (po) 0 (K2.out.cell rfl) Try.underlying9 ?_
  refine lcal 1 33 #[strT to] (some 5) _ (WW w1) ?_
  rintro e w' ⟨rfl, hw'⟩
  obtain rfl := hw'.symm
  refine ⟨_, rfl, ?_⟩
  refine lcal 2 51 #[.bool true, .int .i64 10] (some 6) _ (need_yes 10 w1) ?_
  rintro e w' ⟨rfl, hw'⟩
  obtain rfl := hw'.symm
  refine ⟨_, rfl, ?_⟩
  refine ldn 3 ?_
  generalize hact : Act.put _ (some 6) _ = act
  simp only [Act.put, sA, sC, sZ] at hact
  subst hact
  go_upto_region 2 with (fail)
  refine lbeg (opsOf Try.f56 2) ?_
  refine lrl 0 (cs) (some 7) 25 1 (pt) 0 (K3.out).whole Try.underlying25 (t5Size C5.out) ?_
  refine lin_callP 1 52 #[.agg cs.toArray] (some 8) _ (by kernel_rfl) (by kernel_rfl) (by kernel_rfl) (valid_walk t cs w1 (HT.out.step (Step.of_below BE.out (by have := hq.out; omega))) hs hn) ?_
  rintro e w2 (⟨hv, rfl, hb2⟩ | ⟨hv, ⟨kk, rfl⟩, hb2⟩)
  rotate_left
  · exact .inr ⟨_, rfl, rfl, Builds.no (by rw [hq.out]; exact BE.out.trans (hb2.mono (by have := S1.out; omega))) (hR.out.symm.trans (if_neg (by rw [hv]; simp))) ⟨kk, rfl⟩⟩
  refine .inl ⟨_, rfl, ?_⟩
  have RE : Hid (R = renO fr to t) := hR.out.symm.trans (if_pos ⟨hwb.out, hv⟩)
  have BE2 : Hid (Below q w w2) := BE.out.trans (hb2.mono (by have := S1.out; omega))
  have BR2 : Hid (Blk w2 q 25 z5T) := BR.out.below hb2 BR.out.lt
  have K12 : Hid (StrAt w2 pf fr) := K1.out.below hb2 K1.out.lt
  have K22 : Hid (StrAt w2 po to) := K2.out.below hb2 K2.out.lt
  have S2 : Hid (q + 1 ≤ w2.heap.size) := by have := hb2.size; have := S1.out; rw [Hid]; omega
  have np := (rightP_parts hv).2.1
  have CALL := rebuilt_walk (rename_swap fr to pf po w2 K12.out K22.out) t cs w2 () F (HT.out.step (Step.of_below BE2.out (by have := hq.out; omega))) (fun k hk => by cases hk) (Nat.le_refl _) (Bel.refl _ _ _) hs (rightP_bnd hv) (by omega)
  obtain ⟨RT, hRT⟩ : ∃ y, Hid (rebT (renG fr to) () 0 t = y) := ⟨_, rfl⟩
  have SO : Hid (R = RT.map (·.2)) := RE.out.trans (by unfold renO; rw [hRT.out])
  rw [hRT.out] at CALL
  clear hb2 hv
  refine lnow 2 (.func (.func 58) #[] #[.pointer (some ⟨pf, 0, none⟩), .pointer (some ⟨po, 0, none⟩)]) (some 9) ?_
  refine lin_callP 3 57 #[.agg cs.toArray, .func (.func 58) #[] #[.pointer (some ⟨pf, 0, none⟩), .pointer (some ⟨po, 0, none⟩)]] (some 10) _ (by kernel_rfl) (by kernel_rfl) (by kernel_rfl) (CALL) ?_
  rintro e w5 ⟨hb, hres⟩
  have hbb : Below w2.heap.size w2 w5 := hb.below (fun k hk => by cases hk)
  have BE5 : Hid (Below q w w5) := BE2.out.trans (hbb.mono (by have := S2.out; omega))
  have BR5 : Hid (Blk w5 q 25 z5T) := BR2.out.below hbb BR2.out.lt
  obtain _ | ⟨s', r⟩ := RT
  · obtain ⟨kk, rfl⟩ := hres
    exact .inr ⟨_, rfl, rfl, Builds.no (by rw [hq.out]; exact BE5.out) SO.out ⟨kk, rfl⟩⟩
  obtain ⟨⟨cr, rfl, htr, -⟩⟩ := hres
  refine .inl ⟨_, rfl, ?_⟩
  have CR5 := Lib.hid htr.len
  refine lin_put 4 25 (.tmp 3) (.tmp 10) (q) _ (z5T) (cr) (by kernel_rfl) (by kernel_rfl) (by kernel_rfl) (by kernel_rfl) (by kernel_rfl) BR5.out (htr.len.trans (rfl : z5T.length = 5).symm) (t5Size htr.len) (by simpa using htr.one) ?_
  intro w6 bw6 uw6
  refine ldn 5 ?_
  generalize hact : Act.put _ none _ = act
  simp only [Act.put, sA, sC, sZ] at hact
  subst hact
  go_wp2
  refine bodyPost_ret (v := .agg cr.toArray) ?_ rfl (Builds.yes (by rw [hq.out]; exact uw6.below BE5.out (by omega) (by have := BE5.out.size; have := hq.out; omega)) SO.out rfl ((TmAt.step (Step.of_upd uw6 (List.mem_range.2 (by have := S2.out; omega))) _ _ htr).range (by have := S2.out; have := hq.out; omega)))
  exact results_cell_row (g := q) (t := 25) (cs := (cr).toArray) (fr := (0, 0)) Try.results56 _ _ _ rfl bw6 Try.underlying25 rfl (t5Size CR5.out)
set_option maxHeartbeats 4000000 in
theorem rename_walk {F : List Nat} (fr to : List UInt8) (t : Tm) (cs : List Value) (w : World) (ht : TmAt F w t cs) (hs : SmT t) (hn : nodesT t ≤ 100000000000) (hlo : to.length ≤ 140737488351232) : Calls Try.prog 21 #[.agg cs.toArray, strT fr, strT to] w fun e w' => ∃ cs', e = .returned (.tuple #[.agg cs'.toArray, .bool (renameO fr to t).isSome]) ∧ TmAt (List.range w.heap.size) w' ((renameO fr to t).getD zT) cs' ∧ Below w.heap.size w w' := by
  obtain ⟨q, hq⟩ : ∃ q, Hid (w.heap.size = q) := ⟨_, rfl⟩
  have HT := Lib.hid ht
  have C5 := Lib.hid ht.len
  clear ht
  obtain ⟨R, hR⟩ : ∃ R, Hid (renameO fr to t = R) := ⟨_, rfl⟩
  rw [hR.out]
  go_enter Try.func21, Try.ntmps21
  go_upto_region 0 with (fail)
  refine lbeg (opsOf Try.f21 0) ?_
  refine lbox 0 25 (.tmp 0) (cs) (q) (some 3) hq ?_
  intro w1 bw1 bew1 hsw1
  refine lin_box1 1 9 (.tmp 1) (strT fr) (q + 1) (some 4) (by kernel_rfl) (by kernel_rfl) (by kernel_rfl) (by kernel_rfl) (by rfl) hsw1 ?_
  intro w2 bw2 bew2 hsw2
  refine lin_box1 2 9 (.tmp 2) (strT to) (q + 1 + 1) (some 5) (by kernel_rfl) (by kernel_rfl) (by kernel_rfl) (by kernel_rfl) (by rfl) hsw2 ?_
  intro w3 bw3 bew3 hsw3
  refine lall 3 25 z5T (q + 1 + 1 + 1) (some 6) hsw3 ?_
  intro w4 bw4 bew4 hsw4
  refine lnow 4 (.bool false) (some 7) ?_
  refine ldn 5 ?_
  generalize hact : Act.put _ (some 7) _ = act
  simp only [Act.put, sA, sC, sZ] at hact
  subst hact
  have B0 : Hid (Blk w4 (q) 25 cs) := (((bw1.below bew2 (by omega)).below bew3 (by omega)).below bew4 (by omega))
  have B1 : Hid (Blk w4 (q + 1) 9 [strT fr]) := ((bw2.below bew3 (by omega)).below bew4 (by omega))
  have B2 : Hid (Blk w4 (q + 1 + 1) 9 [strT to]) := (bw3.below bew4 (by omega))
  have BR : Hid (Blk w4 (q + 1 + 1 + 1) 25 z5T) := bw4
  have BE : Hid (Below q w w4) := (((bew1.trans (bew2.mono (by omega))).trans (bew3.mono (by omega))).trans (bew4.mono (by omega)))
  have SZ : Hid (w4.heap.size = q + 4) := hsw4
  have LB : Hid (∀ k, w.heap.size ≤ k → True) := fun _ _ => trivial
  clear bw1 bew1 hsw1
  clear bw2 bew2 hsw2
  clear bw3 bew3 hsw3
  clear bw4 bew4 hsw4
  obtain ⟨wa, hwa⟩ : ∃ y, y = w4 := ⟨_, rfl⟩
  rw [← hwa] at BE SZ BR B0 B1 B2 ⊢
  clear hwa
  go_upto_region 1 with (fail)
  refine lbeg (opsOf Try.f21 1) ?_
  refine lin_now 0 (.func (.func 56) #[] #[.pointer (some ⟨q + 1 + 1, 0, none⟩), .pointer (some ⟨q, 0, none⟩), .pointer (some ⟨q + 1, 0, none⟩)]) (some 8) (by kernel_rfl) (by kernel_rfl) (by first | kernel_rfl | rfl) ?_
  have BW := built_walk 56 #[.pointer (some ⟨q + 1 + 1, 0, none⟩), .pointer (some ⟨q, 0, none⟩), .pointer (some ⟨q + 1, 0, none⟩)] wa (enters_of Try.func56 (by kernel_rfl) rfl) R (fun w1 h1 => by
    show Calls Try.prog 56 #[.pointer (some ⟨q + 1 + 1, 0, none⟩), .pointer (some ⟨q, 0, none⟩), .pointer (some ⟨q + 1, 0, none⟩)] w1 _
    rw [← hR.out]
    exact rename1_walk fr to (q + 1) (q + 1 + 1) q t cs w1 ((HT.out.step (Step.of_below BE.out (by have := hq.out; omega))).below h1) hs hn hlo (B1.out.below h1 B1.out.lt) (B2.out.below h1 B2.out.lt) (B0.out.below h1 B0.out.lt))
  refine lcal 1 49 #[.func (.func 56) #[] #[.pointer (some ⟨q + 1 + 1, 0, none⟩), .pointer (some ⟨q, 0, none⟩), .pointer (some ⟨q + 1, 0, none⟩)]] (some 9) _ (BW) ?_
  rintro e wb ⟨cr, rfl, hcr, hbb⟩
  refine ⟨_, rfl, ?_⟩
  refine lnow 2 (.agg cr.toArray) (some 10) ?_
  refine lnow 3 (.bool R.isSome) (some 11) ?_
  have CR5 := Lib.hid hcr.len
  have BRb : Hid (Blk wb (q + 1 + 1 + 1) 25 z5T) := BR.out.below hbb BR.out.lt
  have BEb : Hid (Below q w wb) := BE.out.trans (hbb.mono (by have := SZ.out; omega))
  refine lin_put 4 25 (.tmp 6) (.tmp 10) (q + 1 + 1 + 1) _ (z5T) (cr) (by kernel_rfl) (by kernel_rfl) (by kernel_rfl) (by kernel_rfl) (by kernel_rfl) BRb.out (CR5.out.trans (rfl : z5T.length = 5).symm) (t5Size CR5.out) (by simpa using hcr.one) ?_
  intro wc bwc uwc
  refine lnow 5 (.bool R.isSome) (some 7) ?_
  refine ldn 6 ?_
  generalize hact : Act.put _ (some 7) _ = act
  simp only [Act.put, sA, sC, sZ] at hact
  subst hact
  go_wp2
  refine bodyPost_ret (v := .tuple #[.agg cr.toArray, .bool R.isSome]) ?_ rfl ⟨cr, rfl, (TmAt.step (Step.of_upd uwc (List.mem_range.2 (by have := SZ.out; omega))) _ _ hcr).range (by have := SZ.out; have := hq.out; omega), by rw [hq.out]; exact uwc.below BEb.out (by omega) (by have := BEb.out.size; have := hq.out; omega)⟩
  exact results_cell_tmp Try.results21 _ _ (q + 1 + 1 + 1) 25 cr.toArray (0, 0) _ _ rfl rfl bwc Try.underlying25 rfl (t5Size CR5.out)
end Go.Proofs.Ytndbpmkglddjjaa
