/- Package move: shifted, Shift. -/
import Derived.Test.YtndbpmkglddjjaaQGenT
import Derived.Test.YtndbpmkglddjjaaQMovN
namespace Go.Proofs.Ytndbpmkglddjjaa
open Go Go.RowKit
set_option maxRecDepth 100000
/-- The node that shifted's closure makes. -/
def shN (b f : Int) (t : Tm) (d : Int) : Option Tm := if t.kind = 1 ∧ f ≤ t.n - d then (if f ≤ t.n + b - d then some (.mk t.kind (t.n + b) t.name t.levels t.args) else none) else some t
def shG (b f : Int) (_ : Unit) (t : Tm) (d : Int) : Option (Unit × Tm) := (shN b f t d).map fun r => ((), r)
def shO (b f : Int) (t : Tm) : Option Tm := (rebT (shG b f) () 0 t).map (·.2)
theorem shG_sm {b f : Int} (s : Unit) (k n : Int) (nm : List UInt8) (l : List Lv) (d : Int) (s' : Unit) (r : Tm) (h : shG b f s (.mk k n nm l []) d = some (s', r)) (hs : SmT (.mk k n nm l [])) : SmT r := by
  unfold shG shN at h
  split at h
  · split at h
    · cases h
      rw [SmT] at hs
      simp only [Tm.kind, Tm.n, Tm.name, Tm.levels, Tm.args]
      rw [SmT]
      exact hs
    · cases h
  · cases h
    exact hs
theorem shG_nodes {b f : Int} (s : Unit) (k n : Int) (nm : List UInt8) (l : List Lv) (d : Int) (s' : Unit) (r : Tm) (h : shG b f s (.mk k n nm l []) d = some (s', r)) : (nodesT r : Int) + (0 : Int) ≤ (nodesT (.mk k n nm l []) : Int) + 0 := by
  unfold shG shN at h
  split at h
  · split at h
    · cases h
      simp [nodesT, Tm.levels, Tm.args]
    · cases h
  · cases h
    exact Int.le_refl _
theorem shO_sm {b f : Int} {t r : Tm} (h : shO b f t = some r) (hs : SmT t) : SmT r ∧ nodesT r ≤ nodesT t := by
  unfold shO at h
  cases h1 : rebT (shG b f) () 0 t with
  | none => rw [h1] at h; cases h
  | some p =>
    obtain ⟨s', r'⟩ := p
    rw [h1] at h
    cases h
    refine ⟨reb_sm (g := shG b f) shG_sm h1 hs, ?_⟩
    have := reb_nodes (g := shG b f) (ν := fun _ => 0) shG_nodes h1
    show nodesT r' ≤ nodesT t
    omega
set_option maxHeartbeats 4000000 in
theorem shifted1_walk (b f : Int) (bf bb : Nat) (t : Tm) (d : Int) (cs : List Value) (w : World) (B : Nat) (hbd : (-1125899906842624 ≤ b ∧ b ≤ 1125899906842624) ∧ -1125899906842624 ≤ f ∧ f ≤ 1125899906842624) (ha : t.args = []) (hn : 0 ≤ t.n ∧ t.n ≤ 1125899906842624) (hd : 0 ≤ d ∧ d ≤ 1125899906842624) (ht : TmAt (List.range B) w t cs) (_hB : B ≤ w.heap.size) (hf : IntAt w bf f) (hb : IntAt w bb b) :
    Calls Try.prog 88 #[.agg cs.toArray, .int .i64 d, .pointer (some ⟨bf, 0, none⟩), .pointer (some ⟨bb, 0, none⟩)] w (Made (shN b f t d) B w) := by
  obtain ⟨k, n, nm, ls, a⟩ := t
  dsimp only [Tm.kind, Tm.n, Tm.name, Tm.levels, Tm.args] at ha hn ⊢
  subst ha
  obtain ⟨R, hR⟩ : ∃ R, Hid (shN b f (.mk k n nm ls []) d = R) := ⟨_, rfl⟩
  rw [hR.out]
  obtain ⟨lv, av, rfl, h1, h2⟩ := ht.open
  dsimp only [Tm.kind, Tm.n, Tm.name, Tm.levels, Tm.args] at h1 h2 ⊢
  obtain ⟨q, hq⟩ : ∃ q, Hid (w.heap.size = q) := ⟨_, rfl⟩
  have hbQ : Hid (bf < q ∧ bb < q) := by have := hf.lt; have := hb.lt; have := hq.out; rw [Hid]; omega
  have HF := Lib.hid hf
  have HB := Lib.hid hb
  have H1 := Lib.hid h1
  have H2 := Lib.hid h2
  clear hf hb ht
  obtain ⟨CS, hCS⟩ : ∃ x, Hid ([.int .i64 k, .int .i64 n, strT nm, lv, av] = x) := ⟨_, rfl⟩
  rw [hCS.out]
  have C5 : Hid (CS.length = 5) := by rw [Hid, ← hCS.out]; rfl
  have C1 : Hid (∀ u ∈ CS, u.oneCell' = true) := by have h : TmAt (List.range B) w (.mk k n nm ls []) [.int .i64 k, .int .i64 n, strT nm, lv, av] := TmAt.mk (t := .mk k n nm ls []) h1 h2; rw [hCS.out] at h; exact h.one
  clear h1 h2
  go_enter Try.func88, Try.ntmps88
  go_upto_region 0 with (fail)
  refine lbeg (opsOf Try.f88 0) ?_
  refine lbox 0 25 (.tmp 0) (CS) (q) (some 4) hq ?_
  intro w1 bw1 bew1 hsw1
  refine lall 1 25 z5T (q + 1) (some 6) hsw1 ?_
  intro w2 bw2 bew2 hsw2
  refine ldn 2 ?_
  generalize hact : Act.put _ (some 6) _ = act
  simp only [Act.put, sA, sC, sZ] at hact
  subst hact
  have B1 : Hid (Blk w2 q 25 CS) := bw1.below bew2 (by omega)
  have B2 : Hid (Blk w2 (q + 1) 25 z5T) := bw2
  have BE : Hid (Below q w w2) := bew1.trans (bew2.mono (by omega))
  have S2 : Hid (w2.heap.size = q + 2) := hsw2
  have F2 : Hid (IntAt w2 bf f) := by have h := hbQ.out; exact (HF.out.below BE.out h.1)
  have G2 : Hid (IntAt w2 bb b) := by have h := hbQ.out; exact (HB.out.below BE.out h.2)
  clear bw1 bew1 hsw1 bw2 bew2 hsw2 HF HB
  have hbq := hbQ.out
  by_cases hk : k = 1
  rotate_left
  · skip
    go_upto_region 1 with (fail)
    refine lbeg (opsOf Try.f88 1) ?_
    refine lnow 0 (.pointer (some ⟨q, 0, none⟩)) (some 7) ?_
    refine lcl 1 (.int .i64 k) (some 8) 3 7 (q) 0 (B1.out.cell (by rw [← hCS.out]; rfl)) Try.underlying3 ?_
    refine lnowP 2 (.bool false) (some 9) (exec_eqli hk (by kernel_rfl)) ?_
    refine lnow 3 (.bool false) (some 10) ?_
    refine lpas 4 (some 11) ?_
    refine lpas 5 (some 12) ?_
    refine lpas 6 (some 13) ?_
    refine lpas 7 (some 14) ?_
    refine lpas 8 (some 15) ?_
    refine lpas 9 (some 16) ?_
    refine lnow 10 (.bool false) (some 17) ?_
    refine ldn 11 ?_
    generalize hact : Act.put _ (some 17) _ = act
    simp only [Act.put, sA, sC, sZ] at hact
    subst hact
    have N5 := C5
    have N1 := C1
    have N0 := hCS
    have R2 := B2
    have OPT : Hid (R = some (.mk k n nm ls [])) := hR.out.symm.trans (if_neg (fun h => hk h.1))
    go_upto_region 4 with (fail)
    refine lbeg (opsOf Try.f88 4) ?_
    refine lrl 0 (CS) (some 30) 25 4 (q) 0 (B1.out).whole Try.underlying25 (t5Size N5.out) ?_
    refine lin_put 1 25 (.tmp 6) (.tmp 30) (q + 1) _ (z5T) (CS) (by kernel_rfl) (by kernel_rfl) (by kernel_rfl) (by kernel_rfl) (by kernel_rfl) R2.out (N5.out.trans (rfl : z5T.length = 5).symm) (t5Size N5.out) (by simpa using N1.out) ?_
    intro w9 bw9 uw9
    refine ldn 2 ?_
    generalize hact : Act.put _ none _ = act
    simp only [Act.put, sA, sC, sZ] at hact
    subst hact
    have BE9 : Hid (Below q w w9) := uw9.below BE.out (by omega) (by have := BE.out.size; have := hq.out; omega)
    have FT : Hid (TmAt (List.range B) w9 (.mk k n nm ls []) CS) := by rw [Hid, ← N0.out]; exact TmAt.mk (t := (.mk k n nm ls [])) (H1.out.step (Step.of_below BE9.out (by have := hq.out; omega))) (TmsAt.below H2.out (by rw [hq.out]; exact BE9.out))
    go_wp2
    refine bodyPost_ret (v := .agg (CS).toArray) ?_ rfl (Made.yes (by rw [hq.out]; exact BE9.out) OPT.out rfl FT.out)
    exact results_cell_row (g := q + 1) (t := 25) (cs := (CS).toArray) (fr := (0, 0)) Try.results88 _ _ _ rfl bw9 Try.underlying25 rfl (t5Size N5.out)
  by_cases hge : n - d ≥ f
  rotate_left
  · skip
    go_upto_region 1 with (fail)
    refine lbeg (opsOf Try.f88 1) ?_
    refine lnow 0 (.pointer (some ⟨q, 0, none⟩)) (some 7) ?_
    refine lcl 1 (.int .i64 k) (some 8) 3 7 (q) 0 (B1.out.cell (by rw [← hCS.out]; rfl)) Try.underlying3 ?_
    refine lnowP 2 (.bool true) (some 9) (exec_eqli_yes hk (by kernel_rfl)) ?_
    refine lnow 3 (.bool true) (some 10) ?_
    refine lnow 4 (.pointer (some ⟨q, 1, none⟩)) (some 11) ?_
    refine lcl 5 (.int .i64 n) (some 12) 3 11 (q) 1 (B1.out.cell (by rw [← hCS.out]; rfl)) Try.underlying3 ?_
    refine lnow 6 (.int .i64 d) (some 13) ?_
    refine lnow 7 (.int .i64 (IntKind.i64.wrap (n - d))) (some 14) ?_
    rw [show IntKind.i64.wrap (n - d) = n - d from IntWalk.i64_in _ (by omega)]
    refine lcl 8 (.int .i64 f) (some 15) 3 2 (bf) 0 (F2.out.cell rfl) Try.underlying3 ?_
    refine lnow 9 (.bool (decide (n - d ≥ f))) (some 16) ?_
    rw [show decide (n - d ≥ f) = false from decide_eq_false hge]
    refine lnow 10 (.bool false) (some 17) ?_
    refine ldn 11 ?_
    generalize hact : Act.put _ (some 17) _ = act
    simp only [Act.put, sA, sC, sZ] at hact
    subst hact
    have N5 := C5
    have N1 := C1
    have N0 := hCS
    have R2 := B2
    have OPT : Hid (R = some (.mk k n nm ls [])) := hR.out.symm.trans (if_neg (fun h => hge h.2))
    go_upto_region 4 with (fail)
    refine lbeg (opsOf Try.f88 4) ?_
    refine lrl 0 (CS) (some 30) 25 4 (q) 0 (B1.out).whole Try.underlying25 (t5Size N5.out) ?_
    refine lin_put 1 25 (.tmp 6) (.tmp 30) (q + 1) _ (z5T) (CS) (by kernel_rfl) (by kernel_rfl) (by kernel_rfl) (by kernel_rfl) (by kernel_rfl) R2.out (N5.out.trans (rfl : z5T.length = 5).symm) (t5Size N5.out) (by simpa using N1.out) ?_
    intro w9 bw9 uw9
    refine ldn 2 ?_
    generalize hact : Act.put _ none _ = act
    simp only [Act.put, sA, sC, sZ] at hact
    subst hact
    have BE9 : Hid (Below q w w9) := uw9.below BE.out (by omega) (by have := BE.out.size; have := hq.out; omega)
    have FT : Hid (TmAt (List.range B) w9 (.mk k n nm ls []) CS) := by rw [Hid, ← N0.out]; exact TmAt.mk (t := (.mk k n nm ls [])) (H1.out.step (Step.of_below BE9.out (by have := hq.out; omega))) (TmsAt.below H2.out (by rw [hq.out]; exact BE9.out))
    go_wp2
    refine bodyPost_ret (v := .agg (CS).toArray) ?_ rfl (Made.yes (by rw [hq.out]; exact BE9.out) OPT.out rfl FT.out)
    exact results_cell_row (g := q + 1) (t := 25) (cs := (CS).toArray) (fr := (0, 0)) Try.results88 _ _ _ rfl bw9 Try.underlying25 rfl (t5Size N5.out)
  go_upto_region 1 with (fail)
  refine lbeg (opsOf Try.f88 1) ?_
  refine lnow 0 (.pointer (some ⟨q, 0, none⟩)) (some 7) ?_
  refine lcl 1 (.int .i64 k) (some 8) 3 7 (q) 0 (B1.out.cell (by rw [← hCS.out]; rfl)) Try.underlying3 ?_
  refine lnowP 2 (.bool true) (some 9) (exec_eqli_yes hk (by kernel_rfl)) ?_
  refine lnow 3 (.bool true) (some 10) ?_
  refine lnow 4 (.pointer (some ⟨q, 1, none⟩)) (some 11) ?_
  refine lcl 5 (.int .i64 n) (some 12) 3 11 (q) 1 (B1.out.cell (by rw [← hCS.out]; rfl)) Try.underlying3 ?_
  refine lnow 6 (.int .i64 d) (some 13) ?_
  refine lnow 7 (.int .i64 (IntKind.i64.wrap (n - d))) (some 14) ?_
  rw [show IntKind.i64.wrap (n - d) = n - d from IntWalk.i64_in _ (by omega)]
  refine lcl 8 (.int .i64 f) (some 15) 3 2 (bf) 0 (F2.out.cell rfl) Try.underlying3 ?_
  refine lnow 9 (.bool (decide (n - d ≥ f))) (some 16) ?_
  rw [show decide (n - d ≥ f) = true from decide_eq_true hge]
  refine lnow 10 (.bool true) (some 17) ?_
  refine ldn 11 ?_
  generalize hact : Act.put _ (some 17) _ = act
  simp only [Act.put, sA, sC, sZ] at hact
  subst hact
  go_upto_region 2 with (fail)
  refine lbeg (opsOf Try.f88 2) ?_
  refine lnow 0 (.pointer (some ⟨q, 1, none⟩)) (some 18) ?_
  refine lcl 1 (.int .i64 n) (some 19) 3 18 (q) 1 (B1.out.cell (by rw [← hCS.out]; rfl)) Try.underlying3 ?_
  refine lcl 2 (.int .i64 b) (some 20) 3 3 (bb) 0 (G2.out.cell rfl) Try.underlying3 ?_
  refine lnow 3 (.int .i64 (IntKind.i64.wrap (n + b))) (some 21) ?_
  rw [show IntKind.i64.wrap (n + b) = n + b from IntWalk.i64_in _ (by omega)]
  refine lnow 4 (.pointer (some ⟨q, 1, none⟩)) (some 22) ?_
  refine lin_putF 5 1 3 (.tmp 22) (.tmp 21) q 25 CS (.int .i64 (n + b)) (by kernel_rfl) (by kernel_rfl) (by kernel_rfl) (by kernel_rfl) (by kernel_rfl) B1.out (by rw [C5.out]; decide) (by kernel_rfl) (by rfl) (by rfl) ?_
  intro w3 bw3 uw3
  refine ldn 6 ?_
  generalize hact : Act.put _ none _ = act
  simp only [Act.put, sA, sC, sZ] at hact
  subst hact
  obtain ⟨CN, hCN⟩ : ∃ x, Hid (CS.set 1 (.int .i64 (n + b)) = x) := ⟨_, rfl⟩
  rw [hCN.out] at bw3
  have N0 : Hid ([.int .i64 k, .int .i64 (n + b), strT nm, lv, av] = CN) := by rw [Hid, ← hCN.out, ← hCS.out]; rfl
  have N5 : Hid (CN.length = 5) := by rw [Hid, ← N0.out]; rfl
  have N1 : Hid (∀ u ∈ CN, u.oneCell' = true) := by have h : TmAt (List.range B) w (.mk k (n + b) nm ls []) [.int .i64 k, .int .i64 (n + b), strT nm, lv, av] := TmAt.mk (t := .mk k (n + b) nm ls []) H1.out H2.out; rw [N0.out] at h; exact h.one
  have D1 : Hid (Blk w3 q 25 CN) := bw3
  have R2 : Hid (Blk w3 (q + 1) 25 z5T) := uw3.blk B2.out (by omega)
  have DE : Hid (Below q w w3) := uw3.below BE.out (by omega) (by have := BE.out.size; have := hq.out; omega)
  have F3 : Hid (IntAt w3 bf f) := uw3.blk F2.out (by omega)
  clear bw3 uw3 B1 B2 BE F2 G2
  by_cases hg2 : n + b - d ≥ f
  rotate_left
  · skip
    have NOP : Hid (R = none) := hR.out.symm.trans ((if_pos ⟨hk, hge⟩).trans (if_neg hg2))
    go_upto_region 3 with (fail)
    refine lbeg (opsOf Try.f88 3) ?_
    refine lnow 0 (.pointer (some ⟨q, 1, none⟩)) (some 23) ?_
    refine lcl 1 (.int .i64 (n + b)) (some 24) 3 23 (q) 1 (D1.out.cell (by rw [← N0.out]; rfl)) Try.underlying3 ?_
    refine lnow 2 (.int .i64 d) (some 25) ?_
    refine lnow 3 (.int .i64 (IntKind.i64.wrap (n + b - d))) (some 26) ?_
    rw [show IntKind.i64.wrap (n + b - d) = n + b - d from IntWalk.i64_in _ (by omega)]
    refine lcl 4 (.int .i64 f) (some 27) 3 2 (bf) 0 (F3.out.cell rfl) Try.underlying3 ?_
    refine lnow 5 (.bool (decide (n + b - d ≥ f))) (some 28) ?_
    rw [show decide (n + b - d ≥ f) = false from decide_eq_false hg2]
    refine lin_callP 6 51 #[.bool false, .int .i64 11] (some 29) _ (by kernel_rfl) (by kernel_rfl) (by kernel_rfl) (need_no 11 w3) ?_
    rintro e w' ⟨rfl, hw'⟩
    obtain rfl := hw'.symm
    exact .inr ⟨_, rfl, rfl, Made.no (by rw [hq.out]; exact DE.out) NOP.out ⟨_, rfl⟩⟩
  go_upto_region 3 with (fail)
  refine lbeg (opsOf Try.f88 3) ?_
  refine lnow 0 (.pointer (some ⟨q, 1, none⟩)) (some 23) ?_
  refine lcl 1 (.int .i64 (n + b)) (some 24) 3 23 (q) 1 (D1.out.cell (by rw [← N0.out]; rfl)) Try.underlying3 ?_
  refine lnow 2 (.int .i64 d) (some 25) ?_
  refine lnow 3 (.int .i64 (IntKind.i64.wrap (n + b - d))) (some 26) ?_
  rw [show IntKind.i64.wrap (n + b - d) = n + b - d from IntWalk.i64_in _ (by omega)]
  refine lcl 4 (.int .i64 f) (some 27) 3 2 (bf) 0 (F3.out.cell rfl) Try.underlying3 ?_
  refine lnow 5 (.bool (decide (n + b - d ≥ f))) (some 28) ?_
  rw [show decide (n + b - d ≥ f) = true from decide_eq_true hg2]
  refine lcal 6 51 #[.bool true, .int .i64 11] (some 29) _ (need_yes 11 w3) ?_
  rintro e w' ⟨rfl, hw'⟩
  obtain rfl := hw'.symm
  refine ⟨_, rfl, ?_⟩
  refine ldn 7 ?_
  generalize hact : Act.put _ (some 29) _ = act
  simp only [Act.put, sA, sC, sZ] at hact
  subst hact
  have OPT : Hid (R = some (.mk k (n + b) nm ls [])) := hR.out.symm.trans ((if_pos ⟨hk, hge⟩).trans (if_pos hg2))
  go_upto_region 4 with (fail)
  refine lbeg (opsOf Try.f88 4) ?_
  refine lrl 0 (CN) (some 30) 25 4 (q) 0 (D1.out).whole Try.underlying25 (t5Size N5.out) ?_
  refine lin_put 1 25 (.tmp 6) (.tmp 30) (q + 1) _ (z5T) (CN) (by kernel_rfl) (by kernel_rfl) (by kernel_rfl) (by kernel_rfl) (by kernel_rfl) R2.out (N5.out.trans (rfl : z5T.length = 5).symm) (t5Size N5.out) (by simpa using N1.out) ?_
  intro w9 bw9 uw9
  refine ldn 2 ?_
  generalize hact : Act.put _ none _ = act
  simp only [Act.put, sA, sC, sZ] at hact
  subst hact
  have BE9 : Hid (Below q w w9) := uw9.below DE.out (by omega) (by have := DE.out.size; have := hq.out; omega)
  have FT : Hid (TmAt (List.range B) w9 (.mk k (n + b) nm ls []) CN) := by rw [Hid, ← N0.out]; exact TmAt.mk (t := (.mk k (n + b) nm ls [])) (H1.out.step (Step.of_below BE9.out (by have := hq.out; omega))) (TmsAt.below H2.out (by rw [hq.out]; exact BE9.out))
  go_wp2
  refine bodyPost_ret (v := .agg (CN).toArray) ?_ rfl (Made.yes (by rw [hq.out]; exact BE9.out) OPT.out rfl FT.out)
  exact results_cell_row (g := q + 1) (t := 25) (cs := (CN).toArray) (fr := (0, 0)) Try.results88 _ _ _ rfl bw9 Try.underlying25 rfl (t5Size N5.out)
theorem shifted_swap (b f : Int) (bf bb E : Nat) (hbd : (-1125899906842624 ≤ b ∧ b ≤ 1125899906842624) ∧ -1125899906842624 ≤ f ∧ f ≤ 1125899906842624) (h1 : bf < E) (h2 : bb < E) : Swap (shG b f) 88 #[.pointer (some ⟨bf, 0, none⟩), .pointer (some ⟨bb, 0, none⟩)] (fun _ w => IntAt w bf f ∧ IntAt w bb b) [] E :=
  Swap.of (g := shN b f) (enters_of Try.func88 (by kernel_rfl) rfl) (fun w w' h hE hb => ⟨hb.blk h.1 h1 (by simp), hb.blk h.2 h2 (by simp)⟩)
    (fun t d cs w B ha hs hn hd ht hE hB hI _ => shifted1_walk b f bf bb t d cs w B hbd ha hn hd ht hB hI.1 hI.2)
set_option maxHeartbeats 4000000 in
theorem shifted_walk {F : List Nat} (t : Tm) (b f : Int) (cs : List Value) (w : World) (ht : TmAt F w t cs) (hs : SmT t) (hbt : BndT t) (hn : (nodesT t : Int) ≤ 1125899906842624) (hbd : (-1125899906842624 ≤ b ∧ b ≤ 1125899906842624) ∧ -1125899906842624 ≤ f ∧ f ≤ 1125899906842624) :
    Calls Try.prog 53 #[.agg cs.toArray, .int .i64 b, .int .i64 f] w (Builds (shO b f t) w) := by
  have C5 := Lib.hid ht.len
  have HT := Lib.hid ht
  obtain ⟨q, hq⟩ : ∃ q, Hid (w.heap.size = q) := ⟨_, rfl⟩
  clear ht
  go_enter Try.func53, Try.ntmps53
  go_upto_region 0 with (fail)
  refine lbeg (opsOf Try.f53 0) ?_
  refine lbox 0 25 (.tmp 0) (cs) (q) (some 3) hq ?_
  intro w1 bw1 bew1 hsw1
  refine lin_box1 1 3 (.tmp 1) (.int .i64 b) (q + 1) (some 4) (by kernel_rfl) (by kernel_rfl) (by kernel_rfl) (by kernel_rfl) (by rfl) hsw1 ?_
  intro w2 bw2 bew2 hsw2
  refine lin_box1 2 3 (.tmp 2) (.int .i64 f) (q + 1 + 1) (some 5) (by kernel_rfl) (by kernel_rfl) (by kernel_rfl) (by kernel_rfl) (by rfl) hsw2 ?_
  intro w3 bw3 bew3 hsw3
  refine lall 3 25 z5T (q + 1 + 1 + 1) (some 6) hsw3 ?_
  intro w4 bw4 bew4 hsw4
  refine ldn 4 ?_
  generalize hact : Act.put _ (some 6) _ = act
  simp only [Act.put, sA, sC, sZ] at hact
  subst hact
  have B0 : Hid (Blk w4 q 25 cs) := ((bw1.below bew2 (by omega)).below bew3 (by omega)).below bew4 (by omega)
  have B1 : Hid (IntAt w4 (q + 1) b) := (bw2.below bew3 (by omega)).below bew4 (by omega)
  have B2 : Hid (IntAt w4 (q + 1 + 1) f) := bw3.below bew4 (by omega)
  have B3 : Hid (Blk w4 (q + 1 + 1 + 1) 25 z5T) := bw4
  have BE : Hid (Below q w w4) := ((bew1.trans (bew2.mono (by omega))).trans (bew3.mono (by omega))).trans (bew4.mono (by omega))
  have S4 : Hid (w4.heap.size = q + 4) := hsw4
  clear bw1 bew1 hsw1 bw2 bew2 hsw2 bw3 bew3 hsw3 bw4 bew4 hsw4
  have CALL := rebuilt_walk (shifted_swap b f (q + 1 + 1) (q + 1) w4.heap.size hbd (by have := S4.out; omega) (by have := S4.out; omega)) t cs w4 () F (HT.out.step (Step.of_below BE.out (by have := hq.out; omega))) (fun k hk => by cases hk) (Nat.le_refl _) ⟨B2.out, B1.out⟩ hs hbt hn
  obtain ⟨RT, hRT⟩ : ∃ y, Hid (rebT (shG b f) () 0 t = y) := ⟨_, rfl⟩
  have SO : Hid (shO b f t = RT.map (·.2)) := by unfold shO; rw [Hid, hRT.out]
  rw [hRT.out] at CALL
  go_upto_region 1 with (fail)
  refine lbeg (opsOf Try.f53 1) ?_
  refine lrl 0 (cs) (some 7) 25 3 (q) 0 (B0.out).whole Try.underlying25 (t5Size C5.out) ?_
  refine lnow 1 (.func (.func 88) #[] #[.pointer (some ⟨q + 1 + 1, 0, none⟩), .pointer (some ⟨q + 1, 0, none⟩)]) (some 8) ?_
  refine lin_callP 2 57 #[.agg cs.toArray, .func (.func 88) #[] #[.pointer (some ⟨q + 1 + 1, 0, none⟩), .pointer (some ⟨q + 1, 0, none⟩)]] (some 9) _ (by kernel_rfl) (by kernel_rfl) (by kernel_rfl) (CALL) ?_
  rintro e w5 ⟨hb, hres⟩
  have hbb : Below w4.heap.size w4 w5 := hb.below (fun k hk => by cases hk)
  have BE5 : Hid (Below q w w5) := BE.out.trans (hbb.mono (by have := S4.out; omega))
  have B35 : Hid (Blk w5 (q + 1 + 1 + 1) 25 z5T) := B3.out.below hbb B3.out.lt
  obtain _ | ⟨s', r⟩ := RT
  · obtain ⟨kk, rfl⟩ := hres
    exact .inr ⟨_, rfl, rfl, Builds.no (by rw [hq.out]; exact BE5.out) SO.out ⟨kk, rfl⟩⟩
  obtain ⟨⟨cr, rfl, htr, -⟩⟩ := hres
  refine .inl ⟨_, rfl, ?_⟩
  have CR5 := Lib.hid htr.len
  refine lin_put 3 25 (.tmp 6) (.tmp 9) (q + 1 + 1 + 1) _ (z5T) (cr) (by kernel_rfl) (by kernel_rfl) (by kernel_rfl) (by kernel_rfl) (by kernel_rfl) B35.out (htr.len.trans (rfl : z5T.length = 5).symm) (t5Size htr.len) (by simpa using htr.one) ?_
  intro w6 bw6 uw6
  refine ldn 4 ?_
  generalize hact : Act.put _ none _ = act
  simp only [Act.put, sA, sC, sZ] at hact
  subst hact
  go_wp2
  refine bodyPost_ret (v := .agg cr.toArray) ?_ rfl (Builds.yes (by rw [hq.out]; exact uw6.below BE5.out (by omega) (by have := BE5.out.size; have := hq.out; omega)) SO.out rfl ((TmAt.step (Step.of_upd uw6 (List.mem_range.2 (by have := S4.out; omega))) _ _ htr).range (by have := S4.out; have := hq.out; omega)))
  exact results_cell_row (g := q + 1 + 1 + 1) (t := 25) (cs := (cr).toArray) (fr := (0, 0)) Try.results53 _ _ _ rfl bw6 Try.underlying25 rfl (t5Size CR5.out)
end Go.Proofs.Ytndbpmkglddjjaa
