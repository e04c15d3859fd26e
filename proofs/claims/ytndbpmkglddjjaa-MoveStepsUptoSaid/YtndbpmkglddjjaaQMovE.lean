/- Package move: replaced, Put. -/
import Derived.Test.YtndbpmkglddjjaaQGenT
import Derived.Test.YtndbpmkglddjjaaQMovD
import Derived.Test.YtndbpmkglddjjaaQTrmK
namespace Go.Proofs.Ytndbpmkglddjjaa
open Go Go.RowKit
set_option maxRecDepth 100000
def cntT (t : Tm) : Int := ((min (nodesT t) 3001 : Nat) : Int)
theorem nodes_pos (t : Tm) : 1 ≤ nodesT t := by obtain ⟨k, n, s, l, a⟩ := t; rw [nodesT]; omega
/-- The node that replaced's closure makes, while there is room for so many more. -/
def puN (xa : List Tm) (s : Int) (t : Tm) (d : Int) : Option (Int × Tm) :=
  if t.kind ≠ 1 ∨ (xa.length : Int) ≤ (xa.length : Int) - 1 - (t.n - d) then some (s, t)
  else if (xa.length : Int) - 1 - (t.n - d) < 0 then some (s, .mk t.kind (t.n - (xa.length : Int)) t.name t.levels t.args)
  else match xa[((xa.length : Int) - 1 - (t.n - d)).toNat]? with
    | none => none
    | some x => if 0 ≤ s - (cntT x - 1) then (shO d 0 x).map fun r => (s - (cntT x - 1), r) else none
def puO (xa : List Tm) (t : Tm) : Option Tm := (rebT (puN xa) (3000 - cntT t) 0 t).map (·.2)
/-- What is asked of the terms that are put in. -/
def FitT (x : Tm) : Prop := SmT x ∧ BndT x ∧ nodesT x ≤ 3000
theorem fit_of {x : Tm} (hs : SmT x) (h : rightP 4 1099511627776 x = true) : FitT x := ⟨hs, rightP_bnd h, (rightP_parts h).2.1⟩
theorem puN_sm {xa : List Tm} (hf : ∀ x ∈ xa, FitT x) (s k n : Int) (nm : List UInt8) (l : List Lv) (d s' : Int) (r : Tm) (h : puN xa s (.mk k n nm l []) d = some (s', r)) (hs : SmT (.mk k n nm l [])) : SmT r := by
  unfold puN at h
  split at h
  · cases h; exact hs
  · split at h
    · cases h
      rw [SmT] at hs
      simp only [Tm.kind, Tm.n, Tm.name, Tm.levels, Tm.args]
      rw [SmT]
      exact hs
    · split at h
      · cases h
      · rename_i x hx
        split at h
        · cases h1 : shO d 0 x with
          | none => rw [h1] at h; cases h
          | some r' => rw [h1] at h; cases h; exact (shO_sm h1 (hf x (List.mem_of_getElem? hx)).1).1
        · cases h
theorem puN_nodes {xa : List Tm} (hf : ∀ x ∈ xa, FitT x) (s k n : Int) (nm : List UInt8) (l : List Lv) (d s' : Int) (r : Tm) (h : puN xa s (.mk k n nm l []) d = some (s', r)) : (nodesT r : Int) + s' ≤ (nodesT (.mk k n nm l []) : Int) + s := by
  unfold puN at h
  split at h
  · cases h; exact Int.le_refl _
  · split at h
    · cases h
      simp [nodesT, Tm.levels, Tm.args]
    · split at h
      · cases h
      · rename_i x hx
        split at h
        · cases h1 : shO d 0 x with
          | none => rw [h1] at h; cases h
          | some r' =>
            rw [h1] at h
            simp only [Option.map_some, Option.some.injEq, Prod.mk.injEq] at h
            obtain ⟨h6, h7⟩ := h
            have h2 := (shO_sm h1 (hf x (List.mem_of_getElem? hx)).1).2
            have h3 := (hf x (List.mem_of_getElem? hx)).2.2
            have h4 : cntT x = nodesT x := by unfold cntT; omega
            have h5 := nodes_pos (.mk k n nm l [])
            rw [← h7]
            omega
        · cases h
theorem puN_pos {xa : List Tm} {s d s' : Int} {t r : Tm} (h : puN xa s t d = some (s', r)) (hs : 0 ≤ s) : 0 ≤ s' := by
  unfold puN at h
  split at h
  · cases h; exact hs
  · split at h
    · cases h; exact hs
    · split at h
      · cases h
      · split at h
        · rename_i x _ h0
          cases h1 : shO d 0 x with
          | none => rw [h1] at h; cases h
          | some r' => rw [h1] at h; cases h; exact h0
        · cases h
theorem reb_pos {xa : List Tm} {t r : Tm} {s d s' : Int} (h : rebT (puN xa) s d t = some (s', r)) (hs : 0 ≤ s) : 0 ≤ s' := by
  refine reb_parts (g := puN xa) (C := fun s _ s' _ => 0 ≤ s → 0 ≤ s') (D := fun s _ s' _ => 0 ≤ s → 0 ≤ s') (fun s k n nm l d s' r h => puN_pos h) (fun _ h => h) (fun s t s1 x ts s2 xs h1 h2 h => h2 (h1 h)) (fun s k n nm l d s1 r a s2 xs h1 h0 hl h2 h => h2 (puN_pos h1 h)) t s d s' r h hs
theorem puO_sm {xa : List Tm} (hf : ∀ x ∈ xa, FitT x) {t r : Tm} (h : puO xa t = some r) (hs : SmT t) (hn : nodesT t ≤ 3000) : SmT r ∧ nodesT r ≤ 3000 := by
  unfold puO at h
  cases h1 : rebT (puN xa) (3000 - cntT t) 0 t with
  | none => rw [h1] at h; cases h
  | some p =>
    obtain ⟨s', r'⟩ := p
    rw [h1] at h
    cases h
    refine ⟨reb_sm (g := puN xa) (puN_sm hf) h1 hs, ?_⟩
    have h2 := reb_nodes (g := puN xa) (ν := fun s => s) (puN_nodes hf) h1
    have h3 : cntT t = nodesT t := by unfold cntT; omega
    have h4 := reb_pos h1 (by omega)
    show nodesT r' ≤ 3000
    omega
set_option maxHeartbeats 8000000 in
theorem replaced1_walk {FA : List Nat} (xa : List Tm) (N : Nat) (aa : Option Addr) (ac : Nat) (ba bs : Nat) (s : Int) (t : Tm) (d : Int) (cs : List Value) (w : World) (B : Nat) (hf : ∀ x ∈ xa, FitT x) (hN2 : xa.length = N) (hN : N ≤ 2000000000000) (hs : 0 ≤ s ∧ s ≤ 3000) (hne : ba ≠ bs ∧ bs ∈ FA) (ha : t.args = []) (hn : 0 ≤ t.n ∧ t.n ≤ 1125899906842624) (hd : 0 ≤ d ∧ d ≤ 1125899906842624) (ht : TmAt (List.range B) w t cs) (hB : B ≤ w.heap.size)
    (hb : Blk w ba 23 [.slice aa N ac]) (hA : TmsAt FA w xa (.slice aa N ac)) (hr : IntAt w bs s) :
    Calls Try.prog 89 #[.agg cs.toArray, .int .i64 d, .pointer (some ⟨ba, 0, none⟩), .pointer (some ⟨bs, 0, none⟩)] w fun e w' => Reb (puN xa s t d) (fun s w => IntAt w bs s ∧ 0 ≤ s ∧ s ≤ 3000) [bs] B w e w' := by
  obtain ⟨k, n, nm, ls, a⟩ := t
  dsimp only [Tm.kind, Tm.n, Tm.name, Tm.levels, Tm.args] at ha hn ⊢
  subst ha
  obtain ⟨R, hR⟩ : ∃ R, Hid (puN xa s (.mk k n nm ls []) d = R) := ⟨_, rfl⟩
  rw [hR.out]
  obtain ⟨lv, av, rfl, h1, h2⟩ := ht.open
  dsimp only [Tm.kind, Tm.n, Tm.name, Tm.levels, Tm.args] at h1 h2 ⊢
  obtain ⟨q, hq⟩ : ∃ q, Hid (w.heap.size = q) := ⟨_, rfl⟩
  rw [hq.out] at hB
  have hbQ : Hid (ba < q ∧ bs < q) := by have := hb.lt; have := hr.lt; have := hq.out; rw [Hid]; omega
  have HB := Lib.hid hb
  have HR := Lib.hid hr
  have HA := Lib.hid hA
  have FF := Lib.hid hf
  have NB := Lib.hid hne
  have H1 := Lib.hid h1
  have H2 := Lib.hid h2
  clear hb hr hA ht hf hne
  obtain ⟨CS, hCS⟩ : ∃ x, Hid ([.int .i64 k, .int .i64 n, strT nm, lv, av] = x) := ⟨_, rfl⟩
  rw [hCS.out]
  have C5 : Hid (CS.length = 5) := by rw [Hid, ← hCS.out]; rfl
  have C1 : Hid (∀ u ∈ CS, u.oneCell' = true) := by have h : TmAt (List.range B) w (.mk k n nm ls []) [.int .i64 k, .int .i64 n, strT nm, lv, av] := TmAt.mk (t := .mk k n nm ls []) h1 h2; rw [hCS.out] at h; exact h.one
  clear h1 h2
  have NBD : N ≤ 2000000000000 := hN
  obtain ⟨z, hz⟩ : ∃ z : Int, Hid ((N : Int) - 1 - (n - d) = z) := ⟨_, rfl⟩
  have hzo := hz.out
  go_enter Try.func89, Try.ntmps89
  go_upto_region 0 with (fail)
  refine lbeg (opsOf Try.f89 0) ?_
  refine lbox 0 25 (.tmp 0) (CS) (q) (some 4) hq ?_
  intro w1 bw1 bew1 hsw1
  refine lall 1 25 z5T (q + 1) (some 6) hsw1 ?_
  intro w2 bw2 bew2 hsw2
  refine ldn 2 ?_
  generalize hact : Act.put _ (some 6) _ = act
  simp only [Act.put, sA, sC, sZ] at hact
  subst hact
  have hbq := hbQ.out
  have B1 : Hid (Blk w2 q 25 CS) := bw1.below bew2 (by omega)
  have B2 : Hid (Blk w2 (q + 1) 25 z5T) := bw2
  have BE : Hid (Below q w w2) := bew1.trans (bew2.mono (by omega))
  have S2 : Hid (w2.heap.size = q + 2) := hsw2
  have A2 : Hid (Blk w2 ba 23 [.slice aa N ac]) := HB.out.below BE.out hbq.1
  have R2 : Hid (IntAt w2 bs s) := HR.out.below BE.out hbq.2
  have T2 : Hid (TmsAt FA w2 xa (.slice aa N ac)) := HA.out.step (Step.of_below BE.out (by have := hq.out; omega))
  clear bw1 bew1 hsw1 bw2 bew2 hsw2 HB HR HA
  go_upto_region 1 with (fail)
  refine lbeg (opsOf Try.f89 1) ?_
  refine lcl 0 (.slice aa N ac) (some 8) 23 2 (ba) 0 (A2.out.cell rfl) Try.underlying23 ?_
  refine lnow 1 (.int .i64 (N : Int)) (some 9) ?_
  refine lnow 2 (.int .i64 (IntKind.i64.wrap ((N : Int) - 1))) (some 10) ?_
  rw [show IntKind.i64.wrap ((N : Int) - 1) = (N : Int) - 1 from IntWalk.i64_in _ (by omega)]
  refine lnow 3 (.pointer (some ⟨q, 1, none⟩)) (some 11) ?_
  refine lcl 4 (.int .i64 n) (some 12) 3 11 (q) 1 (B1.out.cell (by rw [← hCS.out]; rfl)) Try.underlying3 ?_
  refine lnow 5 (.int .i64 d) (some 13) ?_
  refine lnow 6 (.int .i64 (IntKind.i64.wrap (n - d))) (some 14) ?_
  rw [show IntKind.i64.wrap (n - d) = n - d from IntWalk.i64_in _ (by omega)]
  refine lnow 7 (.int .i64 (IntKind.i64.wrap ((N : Int) - 1 - (n - d)))) (some 15) ?_
  rw [show IntKind.i64.wrap ((N : Int) - 1 - (n - d)) = (N : Int) - 1 - (n - d) from IntWalk.i64_in _ (by omega)]
  rw [hz.out]
  refine lnow 8 (.int .i64 z) (some 7) ?_
  refine ldn 9 ?_
  generalize hact : Act.put _ (some 7) _ = act
  simp only [Act.put, sA, sC, sZ] at hact
  subst hact
  by_cases hk : k = 1
  rotate_left
  · skip
    have OPT : Hid (R = some (s, .mk k n nm ls [])) := hR.out.symm.trans (if_pos (.inl hk))
    go_upto_region 2 with (fail)
    refine lbeg (opsOf Try.f89 2) ?_
    refine lnow 0 (.pointer (some ⟨q, 0, none⟩)) (some 16) ?_
    refine lcl 1 (.int .i64 k) (some 17) 3 16 (q) 0 (B1.out.cell (by rw [← hCS.out]; rfl)) Try.underlying3 ?_
    refine lnow 2 (.bool (!decide (k = 1))) (some 18) ?_
    rw [show (!decide (k = 1)) = true by rw [decide_eq_false hk]; rfl]
    refine lnow 3 (.bool true) (some 19) ?_
    refine lpas 4 (some 20) ?_
    refine lpas 5 (some 21) ?_
    refine lpas 6 (some 22) ?_
    refine lpas 7 (some 23) ?_
    refine lnow 8 (.bool true) (some 24) ?_
    refine ldn 9 ?_
    generalize hact : Act.put _ (some 24) _ = act
    simp only [Act.put, sA, sC, sZ] at hact
    subst hact
    have N5 := C5
    have N1 := C1
    have N0 := hCS
    go_upto_region 3 with (fail)
    refine lbeg (opsOf Try.f89 3) ?_
    refine lrl 0 (CS) (some 25) 25 4 (q) 0 (B1.out).whole Try.underlying25 (t5Size N5.out) ?_
    refine lin_put 1 25 (.tmp 6) (.tmp 25) (q + 1) _ (z5T) (CS) (by kernel_rfl) (by kernel_rfl) (by kernel_rfl) (by kernel_rfl) (by kernel_rfl) B2.out (N5.out.trans (rfl : z5T.length = 5).symm) (t5Size N5.out) (by simpa using N1.out) ?_
    intro w9 bw9 uw9
    refine ldn 2 ?_
    generalize hact : Act.put _ none _ = act
    simp only [Act.put, sA, sC, sZ] at hact
    subst hact
    have BE9 : Hid (Below q w w9) := uw9.below BE.out (by omega) (by have := BE.out.size; have := hq.out; omega)
    have R9 : Hid (IntAt w9 bs s) := uw9.blk R2.out (by omega)
    have FT : Hid (TmAt (List.range B) w9 (.mk k n nm ls []) CS) := by rw [Hid, ← N0.out]; exact TmAt.mk (t := (.mk k n nm ls [])) (H1.out.step (Step.of_below BE9.out (by have := hq.out; omega))) (TmsAt.below H2.out (by rw [hq.out]; exact BE9.out))
    go_wp2
    refine bodyPost_ret (v := .agg (CS).toArray) ?_ rfl (Reb.yes (Bel.of (BE9.out.mono hB)) OPT.out rfl FT.out ⟨R9.out, hs⟩)
    exact results_cell_row (g := q + 1) (t := 25) (cs := (CS).toArray) (fr := (0, 0)) Try.results89 _ _ _ rfl bw9 Try.underlying25 rfl (t5Size N5.out)
  by_cases hge : z ≥ (N : Int)
  · skip
    have OPT : Hid (R = some (s, .mk k n nm ls [])) := hR.out.symm.trans (if_pos (.inr (by rw [hN2]; show (N : Int) ≤ (N : Int) - 1 - (n - d); omega)))
    go_upto_region 2 with (fail)
    refine lbeg (opsOf Try.f89 2) ?_
    refine lnow 0 (.pointer (some ⟨q, 0, none⟩)) (some 16) ?_
    refine lcl 1 (.int .i64 k) (some 17) 3 16 (q) 0 (B1.out.cell (by rw [← hCS.out]; rfl)) Try.underlying3 ?_
    refine lnow 2 (.bool (!decide (k = 1))) (some 18) ?_
    rw [show (!decide (k = 1)) = false by rw [decide_eq_true hk]; rfl]
    refine lnow 3 (.bool false) (some 19) ?_
    refine lnow 4 (.int .i64 z) (some 20) ?_
    refine lcl 5 (.slice aa N ac) (some 21) 23 2 (ba) 0 (A2.out.cell rfl) Try.underlying23 ?_
    refine lnow 6 (.int .i64 (N : Int)) (some 22) ?_
    refine lnow 7 (.bool (decide (z ≥ (N : Int)))) (some 23) ?_
    rw [show decide (z ≥ (N : Int)) = true from decide_eq_true hge]
    refine lnow 8 (.bool true) (some 24) ?_
    refine ldn 9 ?_
    generalize hact : Act.put _ (some 24) _ = act
    simp only [Act.put, sA, sC, sZ] at hact
    subst hact
    have N5 := C5
    have N1 := C1
    have N0 := hCS
    go_upto_region 3 with (fail)
    refine lbeg (opsOf Try.f89 3) ?_
    refine lrl 0 (CS) (some 25) 25 4 (q) 0 (B1.out).whole Try.underlying25 (t5Size N5.out) ?_
    refine lin_put 1 25 (.tmp 6) (.tmp 25) (q + 1) _ (z5T) (CS) (by kernel_rfl) (by kernel_rfl) (by kernel_rfl) (by kernel_rfl) (by kernel_rfl) B2.out (N5.out.trans (rfl : z5T.length = 5).symm) (t5Size N5.out) (by simpa using N1.out) ?_
    intro w9 bw9 uw9
    refine ldn 2 ?_
    generalize hact : Act.put _ none _ = act
    simp only [Act.put, sA, sC, sZ] at hact
    subst hact
    have BE9 : Hid (Below q w w9) := uw9.below BE.out (by omega) (by have := BE.out.size; have := hq.out; omega)
    have R9 : Hid (IntAt w9 bs s) := uw9.blk R2.out (by omega)
    have FT : Hid (TmAt (List.range B) w9 (.mk k n nm ls []) CS) := by rw [Hid, ← N0.out]; exact TmAt.mk (t := (.mk k n nm ls [])) (H1.out.step (Step.of_below BE9.out (by have := hq.out; omega))) (TmsAt.below H2.out (by rw [hq.out]; exact BE9.out))
    go_wp2
    refine bodyPost_ret (v := .agg (CS).toArray) ?_ rfl (Reb.yes (Bel.of (BE9.out.mono hB)) OPT.out rfl FT.out ⟨R9.out, hs⟩)
    exact results_cell_row (g := q + 1) (t := 25) (cs := (CS).toArray) (fr := (0, 0)) Try.results89 _ _ _ rfl bw9 Try.underlying25 rfl (t5Size N5.out)
  have G1 : Hid (¬ (k ≠ 1 ∨ (xa.length : Int) ≤ (xa.length : Int) - 1 - (n - d))) := by rw [Hid, hN2]; omega
  go_upto_region 2 with (fail)
  refine lbeg (opsOf Try.f89 2) ?_
  refine lnow 0 (.pointer (some ⟨q, 0, none⟩)) (some 16) ?_
  refine lcl 1 (.int .i64 k) (some 17) 3 16 (q) 0 (B1.out.cell (by rw [← hCS.out]; rfl)) Try.underlying3 ?_
  refine lnow 2 (.bool (!decide (k = 1))) (some 18) ?_
  rw [show (!decide (k = 1)) = false by rw [decide_eq_true hk]; rfl]
  refine lnow 3 (.bool false) (some 19) ?_
  refine lnow 4 (.int .i64 z) (some 20) ?_
  refine lcl 5 (.slice aa N ac) (some 21) 23 2 (ba) 0 (A2.out.cell rfl) Try.underlying23 ?_
  refine lnow 6 (.int .i64 (N : Int)) (some 22) ?_
  refine lnow 7 (.bool (decide (z ≥ (N : Int)))) (some 23) ?_
  rw [show decide (z ≥ (N : Int)) = false from decide_eq_false hge]
  refine lnow 8 (.bool false) (some 24) ?_
  refine ldn 9 ?_
  generalize hact : Act.put _ (some 24) _ = act
  simp only [Act.put, sA, sC, sZ] at hact
  subst hact
  by_cases hlt : z < 0
  · skip
    have OPT : Hid (R = some (s, .mk k (n - (N : Int)) nm ls [])) := hR.out.symm.trans ((if_neg G1.out).trans ((if_pos (by rw [hN2]; show (N : Int) - 1 - (n - d) < 0; omega)).trans (by rw [hN2]; rfl)))
    go_upto_region 4 with (fail)
    refine lbeg (opsOf Try.f89 4) ?_
    refine lnow 0 (.int .i64 z) (some 26) ?_
    refine lnow 1 (.bool (decide (z < 0))) (some 27) ?_
    rw [show decide (z < 0) = true from decide_eq_true hlt]
    refine ldn 2 ?_
    generalize hact : Act.put _ (some 27) _ = act
    simp only [Act.put, sA, sC, sZ] at hact
    subst hact
    go_upto_region 5 with (fail)
    refine lbeg (opsOf Try.f89 5) ?_
    refine lnow 0 (.pointer (some ⟨q, 1, none⟩)) (some 28) ?_
    refine lcl 1 (.int .i64 n) (some 29) 3 28 (q) 1 (B1.out.cell (by rw [← hCS.out]; rfl)) Try.underlying3 ?_
    refine lcl 2 (.slice aa N ac) (some 30) 23 2 (ba) 0 (A2.out.cell rfl) Try.underlying23 ?_
    refine lnow 3 (.int .i64 (N : Int)) (some 31) ?_
    refine lnow 4 (.int .i64 (IntKind.i64.wrap (n - (N : Int)))) (some 32) ?_
    rw [show IntKind.i64.wrap (n - (N : Int)) = n - (N : Int) from IntWalk.i64_in _ (by omega)]
    refine lnow 5 (.pointer (some ⟨q, 1, none⟩)) (some 33) ?_
    refine lin_putF 6 1 3 (.tmp 33) (.tmp 32) q 25 CS (.int .i64 (n - (N : Int))) (by kernel_rfl) (by kernel_rfl) (by kernel_rfl) (by kernel_rfl) (by kernel_rfl) B1.out (by rw [C5.out]; decide) (by kernel_rfl) (by rfl) (by rfl) ?_
    intro w3 bw3 uw3
    refine ldn 7 ?_
    generalize hact : Act.put _ none _ = act
    simp only [Act.put, sA, sC, sZ] at hact
    subst hact
    obtain ⟨CN, hCN⟩ : ∃ x, Hid (CS.set 1 (.int .i64 (n - (N : Int))) = x) := ⟨_, rfl⟩
    rw [hCN.out] at bw3
    have N0 : Hid ([.int .i64 k, .int .i64 (n - (N : Int)), strT nm, lv, av] = CN) := by rw [Hid, ← hCN.out, ← hCS.out]; rfl
    have N5 : Hid (CN.length = 5) := by rw [Hid, ← N0.out]; rfl
    have N1 : Hid (∀ u ∈ CN, u.oneCell' = true) := by have h : TmAt (List.range B) w (.mk k (n - (N : Int)) nm ls []) [.int .i64 k, .int .i64 (n - (N : Int)), strT nm, lv, av] := TmAt.mk (t := .mk k (n - (N : Int)) nm ls []) H1.out H2.out; rw [N0.out] at h; exact h.one
    have D1 : Hid (Blk w3 q 25 CN) := bw3
    have D2 : Hid (Blk w3 (q + 1) 25 z5T) := uw3.blk B2.out (by omega)
    have DE : Hid (Below q w w3) := uw3.below BE.out (by omega) (by have := BE.out.size; have := hq.out; omega)
    have R3 : Hid (IntAt w3 bs s) := uw3.blk R2.out (by omega)
    clear bw3 uw3 B1 B2 BE R2
    go_upto_region 6 with (fail)
    refine lbeg (opsOf Try.f89 6) ?_
    refine lrl 0 (CN) (some 34) 25 4 (q) 0 (D1.out).whole Try.underlying25 (t5Size N5.out) ?_
    refine lin_put 1 25 (.tmp 6) (.tmp 34) (q + 1) _ (z5T) (CN) (by kernel_rfl) (by kernel_rfl) (by kernel_rfl) (by kernel_rfl) (by kernel_rfl) D2.out (N5.out.trans (rfl : z5T.length = 5).symm) (t5Size N5.out) (by simpa using N1.out) ?_
    intro w9 bw9 uw9
    refine ldn 2 ?_
    generalize hact : Act.put _ none _ = act
    simp only [Act.put, sA, sC, sZ] at hact
    subst hact
    have BE9 : Hid (Below q w w9) := uw9.below DE.out (by omega) (by have := DE.out.size; have := hq.out; omega)
    have R9 : Hid (IntAt w9 bs s) := uw9.blk R3.out (by omega)
    have FT : Hid (TmAt (List.range B) w9 (.mk k (n - (N : Int)) nm ls []) CN) := by rw [Hid, ← N0.out]; exact TmAt.mk (t := (.mk k (n - (N : Int)) nm ls [])) (H1.out.step (Step.of_below BE9.out (by have := hq.out; omega))) (TmsAt.below H2.out (by rw [hq.out]; exact BE9.out))
    go_wp2
    refine bodyPost_ret (v := .agg (CN).toArray) ?_ rfl (Reb.yes (Bel.of (BE9.out.mono hB)) OPT.out rfl FT.out ⟨R9.out, hs⟩)
    exact results_cell_row (g := q + 1) (t := 25) (cs := (CN).toArray) (fr := (0, 0)) Try.results89 _ _ _ rfl bw9 Try.underlying25 rfl (t5Size N5.out)
  go_upto_region 4 with (fail)
  refine lbeg (opsOf Try.f89 4) ?_
  refine lnow 0 (.int .i64 z) (some 26) ?_
  refine lnow 1 (.bool (decide (z < 0))) (some 27) ?_
  rw [show decide (z < 0) = false from decide_eq_false hlt]
  refine ldn 2 ?_
  generalize hact : Act.put _ (some 27) _ = act
  simp only [Act.put, sA, sC, sZ] at hact
  subst hact
  obtain ⟨i, hi⟩ : ∃ i : Nat, z = (i : Int) := ⟨z.toNat, by omega⟩
  subst hi
  have hiN : i < N := by omega
  obtain ⟨x, pb, po, cx, hx, hxm, haa, hpb, hpF, -, hcr, hct⟩ := T2.out.get hN2 hiN
  subst haa
  have HX := Lib.hid hx
  have FX := FF.out x hxm
  have HCR := Lib.hid hcr
  have HCT := Lib.hid hct
  have X5 := Lib.hid hct.len
  have PB : Hid (pb ≠ bs ∧ pb < w2.heap.size) := ⟨fun e => hpb (e ▸ NB.out.2), hpF⟩
  clear hx hxm hpb hpF hcr hct
  have fx2 := FX.2.2
  have npx := nodes_pos x
  have CALL := fun w' (h : TmAt FA w' x cx) => count_walk x cx w' h FX.1 (by omega)
  obtain ⟨m, hm⟩ : ∃ m, Hid (cntT x = m) := ⟨_, rfl⟩
  have hmn : m = nodesT x := by rw [← hm.out]; unfold cntT; omega
  have HMN := Lib.hid hmn
  have hm2 : (((min (nodesT x) 3001 : Nat) : Int)) = m := hm.out
  rw [hm2] at CALL
  clear hm2
  have RX : Hid (R = if 0 ≤ s - (m - 1) then (shO d 0 x).map fun r => (s - (m - 1), r) else none) := hR.out.symm.trans ((if_neg G1.out).trans ((if_neg (by rw [hN2]; show ¬ (N : Int) - 1 - (n - d) < 0; omega)).trans (by
    rw [hN2, show ((N : Int) - 1 - ((Tm.mk k n nm ls []).n - d)).toNat = i by show ((N : Int) - 1 - (n - d)).toNat = i; omega, HX.out]
    simp only [hm.out])))
  obtain ⟨s2, hs2⟩ : ∃ s2, Hid (s - (m - 1) = s2) := ⟨_, rfl⟩
  have hs2o := hs2.out
  rw [hs2.out] at RX
  go_upto_region 7 with (fail)
  refine region_beginP (opsOf Try.f89 7) (fun W => (∃ y, IntAt W bs y) ∧ Blk W ba 23 [.slice (some ⟨pb, po, none⟩) N ac] ∧ W.rangeAt pb (po + 5 * i) cx) (by kernel_rfl) (by kernel_rfl) 9 (by kernel_rfl) ?_
  intro Q' hQN hN hP
  have HSd : (∃ y, IntAt w2.drew bs y) ∧ Blk w2.drew ba 23 [.slice (some ⟨pb, po, none⟩) N ac] ∧ w2.drew.rangeAt pb (po + 5 * i) cx := ⟨⟨_, R2.out⟩, A2.out, HCR.out⟩
  refine reg_nowIf 1 (.slice (some ⟨pb, po, none⟩) N ac) (some 36) hQN HSd (by kernel_rfl) (by kernel_rfl) (fun w' hw => exec_load_cell 23 (.tmp 2) (by kernel_rfl) ba 0 (by kernel_rfl) _ (hw.2.1.cell rfl) _ Try.underlying23 rfl) ?_
  refine reg_now 2 (.int .i64 (i : Int)) (some 37) hQN HSd (by kernel_rfl) (by kernel_rfl) (fun w => by kernel_rfl) ?_
  refine reg_now 3 (.pointer (some ⟨pb, po + 5 * i, none⟩)) (some 38) hQN HSd (by kernel_rfl) (by kernel_rfl) (fun w' => exec_indexAt 23 (.tmp 36) (.tmp 37) (by kernel_rfl) _ _ _ (by kernel_rfl) (by kernel_rfl) (run_at_tm pb po N ac i hiN w')) ?_
  refine reg_nowIf 4 (.agg cx.toArray) (some 39) hQN HSd (by kernel_rfl) (by kernel_rfl) (fun w' hw => exec_load_mid 25 (.tmp 38) (by kernel_rfl) pb (po + 5 * i) (by kernel_rfl) cx _ hw.2.2 Try.underlying25 rfl (t5Size X5.out)) ?_
  have BD : Hid (Below q w w2.drew) := BE.out.drew
  have SD : Hid (w2.drew.heap.size = q + 2) := S2.out
  have RD : Hid (IntAt w2.drew bs s) := R2.out
  have PBd : Hid (pb ≠ bs ∧ pb < w2.drew.heap.size) := PB.out
  have STD : Hid (Blk w2.drew q 25 CS ∧ Blk w2.drew (q + 1) 25 z5T) := ⟨B1.out, B2.out⟩
  have HCTd : Hid (TmAt FA w2.drew x cx) := HCT.out.below (Below.refl _ _).drew
  clear HCT BE S2 R2 PB B1 B2 A2 T2 HCR
  refine reg_lck 0 5 6 (.int .i64 s) 35 40 41 31 #[.agg cx.toArray] _ HSd (fun w1 hb1 => ⟨⟨_, RD.out.below hb1 RD.out.lt⟩, HSd.2.1.below hb1 HSd.2.1.lt, rng_low HSd.2.2 hb1 PBd.out.2⟩) (by kernel_rfl) (by kernel_rfl) (by kernel_rfl) (by kernel_rfl) (by decide) (by decide) (by decide) (by decide) (exec_load_cell 3 (.tmp 3) (by kernel_rfl) (bs) 0 (by kernel_rfl) _ (RD.out.cell rfl) _ Try.underlying3 rfl) (fun vj w1 hb1 => exec_load_cell 3 (.tmp 3) (by kernel_rfl) (bs) 0 (by kernel_rfl) _ ((RD.out.below hb1 RD.out.lt).cell rfl) _ Try.underlying3 rfl) (fun vj vk w1 hb1 => exec_load_cell 3 (.tmp 3) (by kernel_rfl) (bs) 0 (by kernel_rfl) _ ((RD.out.below hb1 RD.out.lt).cell rfl) _ Try.underlying3 rfl) (by kernel_rfl) (by kernel_rfl) (CALL w2.drew HCTd.out) ?_
  rintro e w5 ⟨rfl, hb5⟩
  refine ⟨hb5, _, rfl, .int .i64 (IntKind.i64.wrap (m - 1)), w5, hb5, by kernel_rfl, by kernel_rfl, ?_⟩
  have HS5 : (∃ y, IntAt w5 bs y) ∧ Blk w5 ba 23 [.slice (some ⟨pb, po, none⟩) N ac] ∧ w5.rangeAt pb (po + 5 * i) cx := ⟨⟨_, RD.out.below hb5 RD.out.lt⟩, HSd.2.1.below hb5 HSd.2.1.lt, rng_low HSd.2.2 hb5 PBd.out.2⟩
  have R5 : IntAt w5 bs s := RD.out.below hb5 RD.out.lt
  have BE5 : Hid (Below q w w5) := BD.out.trans (hb5.mono (by have := SD.out; omega))
  have ST5 : Hid (Blk w5 q 25 CS ∧ Blk w5 (q + 1) 25 z5T) := ⟨STD.out.1.below hb5 STD.out.1.lt, STD.out.2.below hb5 STD.out.2.lt⟩
  have S5 : Hid (q + 2 ≤ w5.heap.size) := by have := hb5.size; have := SD.out; rw [Hid]; omega
  have HCT5 : Hid (TmAt FA w5 x cx) := HCTd.out.below hb5
  rw [show IntKind.i64.wrap (m - 1) = m - 1 from IntWalk.i64_in _ (by omega)]
  refine reg_now 7 (.int .i64 (IntKind.i64.wrap (s - (m - 1)))) (some 42) hQN HS5 (by kernel_rfl) (by kernel_rfl) (fun w => by kernel_rfl) ?_
  rw [show IntKind.i64.wrap (s - (m - 1)) = s - (m - 1) from IntWalk.i64_in _ (by omega), hs2.out]
  refine reg_put1 8 3 (.tmp 3) (.tmp 42) (bs) _ (.int .i64 s) (.int .i64 s2) (by kernel_rfl) (by kernel_rfl) (by kernel_rfl) (by kernel_rfl) (by kernel_rfl) R5 (by kernel_rfl) (by rfl) (by rfl) ?_
  intro w6 bw6 uw6
  refine ⟨⟨⟨_, bw6⟩, uw6.blk HS5.2.1 (fun e => NB.out.1 e), fun j u hu => by
    have h := HS5.2.2 j u hu
    exact (uw6.cell (p := ⟨pb, po + 5 * i + j, none⟩) (block_lt_of_cell h) PBd.out.1).trans h⟩, ?_⟩
  refine reg_done (by kernel_rfl) (hN _ _ ?_)
  generalize hact : Act.put _ none _ = act
  simp only [Act.put, sA, sC, sZ] at hact
  subst hact
  have R6 : Hid (IntAt w6 bs s2) := bw6
  have BL6 : Hid (Bel [bs] B w w6) := (Bel.of (BE5.out.mono hB)).upd uw6 (.inl (by simp)) (by have := S5.out; omega)
  have ST6 : Hid (Blk w6 q 25 CS ∧ Blk w6 (q + 1) 25 z5T) := ⟨uw6.blk ST5.out.1 (by omega), uw6.blk ST5.out.2 (by omega)⟩
  have A6 : Hid (Blk w6 ba 23 [.slice (some ⟨pb, po, none⟩) N ac]) := uw6.blk HS5.2.1 (fun e => NB.out.1 e)
  have HCT6 : Hid (TmAt FA w6 x cx) := TmAt.step (Step.of_upd uw6 NB.out.2) _ _ HCT5.out
  have HCR6 : Hid (w6.rangeAt pb (po + 5 * i) cx) := fun j u hu => by
    have h := HS5.2.2 j u hu
    exact (uw6.cell (p := ⟨pb, po + 5 * i + j, none⟩) (block_lt_of_cell h) PBd.out.1).trans h
  have S6 : Hid (q + 2 ≤ w6.heap.size) := by have := S5.out; have := uw6.size; rw [Hid]; omega
  clear HSd hQN hN hP BD SD RD PBd STD HCTd CALL hb5 HS5 R5 BE5 ST5 S5 HCT5 bw6 uw6
  by_cases hro : s2 ≥ 0
  rotate_left
  · skip
    go_upto_region 8 with (fail)
    refine lbeg (opsOf Try.f89 8) ?_
    refine lcl 0 (.int .i64 s2) (some 43) 3 3 (bs) 0 (R6.out.cell rfl) Try.underlying3 ?_
    refine lnow 1 (.bool (decide (s2 ≥ 0))) (some 44) ?_
    rw [show decide (s2 ≥ 0) = false from decide_eq_false hro]
    refine lin_callP 2 51 #[.bool false, .int .i64 14] (some 45) _ (by kernel_rfl) (by kernel_rfl) (by kernel_rfl) (need_no 14 w6) ?_
    rintro e w' ⟨rfl, hw'⟩
    obtain rfl := hw'.symm
    exact .inr ⟨_, rfl, rfl, Reb.no BL6.out (RX.out.trans (if_neg (by omega))) ⟨_, rfl⟩⟩
  go_upto_region 8 with (fail)
  refine lbeg (opsOf Try.f89 8) ?_
  refine lcl 0 (.int .i64 s2) (some 43) 3 3 (bs) 0 (R6.out.cell rfl) Try.underlying3 ?_
  refine lnow 1 (.bool (decide (s2 ≥ 0))) (some 44) ?_
  rw [show decide (s2 ≥ 0) = true from decide_eq_true hro]
  refine lcal 2 51 #[.bool true, .int .i64 14] (some 45) _ (need_yes 14 w6) ?_
  rintro e w' ⟨rfl, hw'⟩
  obtain rfl := hw'.symm
  refine ⟨_, rfl, ?_⟩
  refine ldn 3 ?_
  generalize hact : Act.put _ (some 45) _ = act
  simp only [Act.put, sA, sC, sZ] at hact
  subst hact
  have RY : Hid (R = (shO d 0 x).map fun r => (s2, r)) := RX.out.trans (if_pos (by omega))
  clear RX
  go_upto_region 9 with (fail)
  refine lbeg (opsOf Try.f89 9) ?_
  refine lcl 0 (.slice (some ⟨pb, po, none⟩) N ac) (some 46) 23 2 (ba) 0 (A6.out.cell rfl) Try.underlying23 ?_
  refine lnow 1 (.int .i64 (i : Int)) (some 47) ?_
  refine lix 2 (.pointer (some ⟨pb, po + 5 * i, none⟩)) (some 48) 23 46 47 (run_at_tm pb po N ac i hiN _) ?_
  refine lrl 3 cx (some 49) 25 48 pb (po + 5 * i) HCR6.out Try.underlying25 (t5Size X5.out) ?_
  refine lnow 4 (.int .i64 d) (some 50) ?_
  refine lin_callP 5 53 #[.agg cx.toArray, .int .i64 d, .int .i64 0] (some 51) _ (by kernel_rfl) (by kernel_rfl) (by kernel_rfl) (shifted_walk x d 0 cx w6 HCT6.out FX.1 FX.2.1 (by omega) (by omega)) ?_
  intro e w7 hbu
  obtain ⟨hb7, ⟨r, cr, hr, rfl, htr⟩ | ⟨hr, ⟨kk, rfl⟩⟩⟩ := hbu.cases
  rotate_left
  · exact .inr ⟨_, rfl, rfl, Reb.no (BL6.out.trans (Bel.of (hb7.mono (by have := S6.out; omega)))) (RY.out.trans (by rw [hr]; rfl)) ⟨kk, rfl⟩⟩
  refine .inl ⟨_, rfl, ?_⟩
  have CR5 := Lib.hid htr.len
  have RZ : Hid (R = some (s2, r)) := RY.out.trans (by rw [hr]; rfl)
  have BL7 : Hid (Bel [bs] B w w7) := BL6.out.trans (Bel.of (hb7.mono (by have := S6.out; omega)))
  have D27 : Hid (Blk w7 (q + 1) 25 z5T) := ST6.out.2.below hb7 ST6.out.2.lt
  have R7 : Hid (IntAt w7 bs s2) := R6.out.below hb7 R6.out.lt
  have T7 : Hid (TmAt (List.range (q + 2)) w7 r cr) := htr.range S6.out
  have ONE := Lib.hid htr.one
  have S7 : Hid (q + 2 ≤ w7.heap.size) := by have := hb7.size; have := S6.out; rw [Hid]; omega
  clear hb7 htr hr hbu
  refine lin_put 6 25 (.tmp 6) (.tmp 51) (q + 1) _ (z5T) (cr) (by kernel_rfl) (by kernel_rfl) (by kernel_rfl) (by kernel_rfl) (by kernel_rfl) D27.out (CR5.out.trans (rfl : z5T.length = 5).symm) (t5Size CR5.out) (by simpa using ONE.out) ?_
  intro w8 bw8 uw8
  refine ldn 7 ?_
  generalize hact : Act.put _ none _ = act
  simp only [Act.put, sA, sC, sZ] at hact
  subst hact
  go_wp2
  refine bodyPost_ret (v := .agg cr.toArray) ?_ rfl (Reb.yes (BL7.out.upd uw8 (.inr (by omega)) (by have := S7.out; omega)) RZ.out rfl ((TmAt.step (Step.of_upd uw8 (List.mem_range.2 (by omega))) _ _ T7.out).range (by omega)) ⟨uw8.blk R7.out (by omega), by omega, by omega⟩)
  exact results_cell_row (g := q + 1) (t := 25) (cs := (cr).toArray) (fr := (0, 0)) Try.results89 _ _ _ rfl bw8 Try.underlying25 rfl (t5Size CR5.out)
end Go.Proofs.Ytndbpmkglddjjaa
