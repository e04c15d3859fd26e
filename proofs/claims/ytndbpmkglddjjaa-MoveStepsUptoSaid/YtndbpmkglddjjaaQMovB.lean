/- Package move: rebuiltInside and rebuilt, over whatever closure. -/
import Derived.Test.YtndbpmkglddjjaaQGenT
import Derived.Test.YtndbpmkglddjjaaQMovM
namespace Go.Proofs.Ytndbpmkglddjjaa
open Go Go.RowKit
set_option maxRecDepth 100000
/-- A part of a block is stored, in a drawn region. -/
theorem reg_putM {P : Program} {ops : Array Oper} {Q : Exit → Act → World → Prop} {S : World → Prop} {fuel : Nat} {listed : Array Bool} {a : Act} {w : World} (i o : Nat) (ty : TypeId) (x y : Operand) (b : Nat) (t : TypeId) (cs vs : List Value) (hi : (ops[i]?.isSome && (Region.ready .any ops listed == [i]) && Region.wanted (opAt ops i) (yielded ops a.tmps)) = true) (hd : (opAt ops i).dst = none)
    (ho : (opAt ops i).op = .store ty x y) (hx : a.eval x = .pointer (some ⟨b, o, none⟩)) (hy : a.eval y = .agg vs.toArray) (hb : Blk w b t cs) (hl : o + vs.length ≤ cs.length) (hz : (P.info? ty).map (·.size) = some vs.length) (h1 : vs.toArray.all (·.oneCell') = true)
    (h : ∀ w', Blk w' b t (splice cs o vs) → Upd b w w' → S w' ∧ wpAnyH P .any ops Q S fuel (listed.setIfInBounds i true) (a.put none undef) w') : wpAnyH P .any ops Q S (fuel + 1) listed a w := by
  obtain ⟨hS, hk⟩ := h (w.setCells b o vs) (Blk.setCells vs hb o hl) ((Upd.refl b w).setCells vs o)
  exact reg_store i _ hi hd (exec_store_mid ty x y ho b o vs hx hy (hb.there o _ hl) hz h1) hS hk
set_option maxHeartbeats 16000000 in
theorem rebins_walk {σ : Type} {g : σ → Tm → Int → Option (σ × Tm)} {gf : FuncId} {lb : Array Value} {I : σ → World → Prop} {G : List Nat} {E : Nat} (H : Swap g gf lb I G E) : ∀ (t : Tm) (cs : List Value) (w : World) (s : σ) (d : Int) (F : List Nat), TmAt F w t cs → (∀ k ∈ G, k ∈ F) → E ≤ w.heap.size → I s w → SmT t → BndT t → (0 ≤ d ∧ d + nodesT t ≤ 1125899906842624) →
    Calls Try.prog 90 #[.agg cs.toArray, .int .i64 d, .func (.func gf) #[] lb] w fun e w' => Reb (rebT g s d t) I G w.heap.size w e w' := by
  refine Tm.byParts fun k n nm ls a ih cs w s d F ht hF hE hI hs hbd hd => ?_
  obtain ⟨lv, av, rfl, h1, h2⟩ := ht.open
  obtain ⟨sn, sl, sa, ss⟩ := hs.open
  dsimp only [Tm.kind, Tm.n, Tm.name, Tm.levels, Tm.args] at ht h1 h2 sn sl sa ss ⊢
  obtain ⟨la, lc, rfl⟩ := h1.slice
  obtain ⟨aa, ac, rfl⟩ := h2.slice
  rw [BndT] at hbd
  have hr : reachBytes = 140737488351232 := rfl
  have SL0 : Hid (SmT (.mk k n nm ls [])) := by rw [Hid, SmT]; exact ⟨sn, sl, by simp [hr], by simp [SmTs]⟩
  have HND : Hid (∀ x ∈ a, nodesT x + 1 ≤ nodesT (.mk k n nm ls a)) := fun x hx => by have := nodesT_mem hx; rw [nodesT]; omega
  obtain ⟨M, hM⟩ : ∃ M, Hid (nodesT (.mk k n nm ls a) = M) := ⟨_, rfl⟩
  rw [hM.out] at hd HND
  obtain ⟨L, hL⟩ : ∃ L, Hid (ls.length = L) := ⟨_, rfl⟩
  obtain ⟨N, hAN⟩ : ∃ N, Hid (a.length = N) := ⟨_, rfl⟩
  rw [hL.out] at sl h1 ht ⊢
  rw [hAN.out] at h2 ht sa ⊢
  rw [hr] at sl sa sn
  obtain ⟨go, hgo⟩ : ∃ y, Hid (g s (.mk k n nm ls []) d = y) := ⟨_, rfl⟩
  obtain ⟨RT, hRT⟩ : ∃ y, Hid (rebT g s d (.mk k n nm ls a) = y) := ⟨_, rfl⟩
  rw [hRT.out]
  have H1 := Lib.hid h1
  have H2 := Lib.hid h2
  have SS := Lib.hid ss
  have SA := Lib.hid sa
  have BD := Lib.hid hbd
  have HD := Lib.hid hd
  have IH := Lib.hid ih
  have HI := Lib.hid hI
  have HH := Lib.hid H
  have HFF := Lib.hid hF
  obtain ⟨q, hq⟩ : ∃ q, Hid (w.heap.size = q) := ⟨_, rfl⟩
  rw [hq.out] at hE ⊢
  have EQ := Lib.hid hE
  have GQ : Hid (∀ k ∈ G, k < q) := fun k hk => Nat.lt_of_lt_of_le (H.low k hk) hE
  clear ht h1 h2 ss hs sl sa sn ih hbd hd hI H hF hE
  go_enter Try.func90, Try.ntmps90
  go_upto_region 0 with (fail)
  refine lbeg (opsOf Try.f90 0) ?_
  refine lbox 0 25 (.tmp 0) ([.int .i64 k, .int .i64 n, strT nm, .slice la L lc, .slice aa N ac]) (q) (some 3) hq ?_
  intro w1 bw1 bew1 hsw1
  refine lall 1 25 z5T (q + 1) (some 6) hsw1 ?_
  intro w2 bw2 bew2 hsw2
  refine ldn 2 ?_
  generalize hact : Act.put _ (some 6) _ = act
  simp only [Act.put, sA, sC, sZ] at hact
  subst hact
  have B1 : Hid (Blk w2 q 25 [.int .i64 k, .int .i64 n, strT nm, .slice la L lc, .slice aa N ac]) := bw1.below bew2 (by omega)
  have B2 : Hid (Blk w2 (q + 1) 25 z5T) := bw2
  have BE : Hid (Below q w w2) := bew1.trans (bew2.mono (by omega))
  have S2 : Hid (w2.heap.size = q + 2) := hsw2
  clear bw1 bew1 hsw1 bw2 bew2 hsw2
  go_upto_region 1 with (fail)
  refine lbeg (opsOf Try.f90 1) ?_
  refine lnow 0 (.pointer (some ⟨q, 4, none⟩)) (some 12) ?_
  refine lcl 1 (.slice aa N ac) (some 13) 23 12 (q) 4 (B1.out.cell rfl) Try.underlying23 ?_
  refine lnow 2 (.slice aa N ac) (some 7) ?_
  refine ldn 3 ?_
  generalize hact : Act.put _ (some 7) _ = act
  simp only [Act.put, sA, sC, sZ] at hact
  subst hact
  go_upto_region 2 with (fail)
  refine lbeg (opsOf Try.f90 2) ?_
  refine lnow 0 (.pointer (some ⟨q, 4, none⟩)) (some 14) ?_
  refine lin_putF 1 4 23 (.tmp 14) (.const (.slice none 0 0)) q 25 [.int .i64 k, .int .i64 n, strT nm, .slice la L lc, .slice aa N ac] (.slice none 0 0) (by kernel_rfl) (by kernel_rfl) (by kernel_rfl) (by kernel_rfl) (by kernel_rfl) B1.out (by simp) sizeTms (by rfl) (by rfl) ?_
  intro w3 bw3 uw3
  refine ldn 2 ?_
  generalize hact : Act.put _ none _ = act
  simp only [Act.put, sA, sC, sZ] at hact
  subst hact
  have D1 : Hid (Blk w3 q 25 [.int .i64 k, .int .i64 n, strT nm, .slice la L lc, .slice none 0 0]) := bw3
  have D2 : Hid (Blk w3 (q + 1) 25 z5T) := uw3.blk B2.out (by omega)
  have DE : Hid (Below q w w3) := uw3.below BE.out (Nat.le_refl _) (by have := S2.out; have := hq.out; have := BE.out.size; omega)
  have S3 : Hid (q + 2 ≤ w3.heap.size) := by have := S2.out; have := uw3.size; rw [Hid]; omega
  have TL : Hid (TmAt F w3 (.mk k n nm ls []) [.int .i64 k, .int .i64 n, strT nm, .slice la L lc, .slice none 0 0]) := TmAt.mk (t := .mk k n nm ls []) (by have h := H1.out.step (Step.of_below (F := F) DE.out (by have := hq.out; omega)); rw [← hL.out] at h ⊢; exact h) (TmsAt.nil _ _ _ _)
  obtain ⟨CS, hCS⟩ : ∃ x, Hid ([.int .i64 k, .int .i64 n, strT nm, .slice la L lc, .slice none 0 0] = x) := ⟨_, rfl⟩
  rw [hCS.out] at D1 TL
  have CS5 := Lib.hid TL.out.len
  have kc : CS[0]? = some (.int .i64 k) := by rw [← hCS.out]; rfl
  have KC := Lib.hid kc
  clear bw3 uw3 B1 B2 BE S2 kc
  go_upto_region 3 with (fail)
  refine lbeg (opsOf Try.f90 3) ?_
  refine lnow 0 (.func (.func gf) #[] lb) (some 15) ?_
  refine lrl 1 (CS) (some 16) 25 3 (q) 0 (D1.out).whole Try.underlying25 (t5Size CS5.out) ?_
  refine lcal 2 35 #[.agg CS.toArray] (some 17) _ (clone_leaf k n nm ls CS w3 TL.out SL0.out) ?_
  rintro e w4 ⟨cr, rfl, hct, hb4, hown⟩
  refine ⟨_, rfl, ?_⟩
  refine lnow 3 (.int .i64 d) (some 18) ?_
  obtain ⟨B, hB⟩ : ∃ B, Hid (w3.heap.size = B) := ⟨_, rfl⟩
  rw [hB.out] at hct hb4 hown S3
  have BQ2 : Hid (q + 2 ≤ B) := S3.out
  have LT2 : Hid (B ≤ w4.heap.size) := by have := hb4.size; have := hB.out; rw [Hid]; omega
  have DE4 : Hid (Below q w w4) := DE.out.trans (hb4.mono (by have := BQ2.out; omega))
  have CALL := HH.out.call s (.mk k n nm ls []) d cr w4 B rfl SL0.out BD.out.1 (by have := HD.out; omega) hct (by have := EQ.out; have := BQ2.out; omega) LT2.out (HH.out.keep s w w4 HI.out (by have := EQ.out; have := hq.out; omega) (Bel.of (DE4.out.mono EQ.out))) hown
  rw [hgo.out] at CALL
  have E1 : Hid (Blk w4 q 25 CS) := D1.out.below hb4 (by have := BQ2.out; omega)
  have E2 : Hid (Blk w4 (q + 1) 25 z5T) := D2.out.below hb4 (by have := BQ2.out; omega)
  clear hct hb4 hown D1 D2 DE S3 TL SL0 HI
  refine lin_callP 4 gf (#[Value.agg cr.toArray, Value.int .i64 d] ++ lb) (some 19) _ (by kernel_rfl) (by kernel_rfl) ((congrArg (fun z : Sem Next => z.run Try.prog w4) (show execOp _ _ = callFunc gf (#[Value.agg cr.toArray, Value.int .i64 d] ++ lb) by kernel_rfl)).trans (HH.out.fn _ _)) CALL ?_
  rintro e w5 ⟨hb5, hres⟩
  clear CALL
  have F1 : Hid (Blk w5 q 25 CS) := hb5.blk E1.out (by have := BQ2.out; omega) (fun h => absurd (GQ.out _ h) (by omega))
  have F2 : Hid (Blk w5 (q + 1) 25 z5T) := hb5.blk E2.out (by have := BQ2.out; omega) (fun h => absurd (GQ.out _ h) (by omega))
  have FE : Hid (Bel G q w w5) := (Bel.of DE4.out).trans (hb5.mono (by have := BQ2.out; omega))
  have S5 : Hid (B ≤ w5.heap.size) := by have := hb5.size; have := LT2.out; rw [Hid]; omega
  clear hb5 E1 E2 DE4 LT2
  obtain _ | ⟨s1, r1⟩ := go
  · obtain ⟨kk, rfl⟩ := hres
    exact .inr ⟨_, rfl, rfl, Reb.no FE.out (hRT.out.symm.trans (rebT_none hgo.out)) ⟨kk, rfl⟩⟩
  obtain ⟨cr1, rfl, ht1, hI1⟩ := hres
  refine .inl ⟨_, rfl, ?_⟩
  obtain ⟨q8, hq8⟩ : ∃ y, Hid (w5.heap.size = y) := ⟨_, rfl⟩
  refine lall 5 25 z5T (q8) (some 8) hq8 ?_
  intro w6 bw6 bew6 hsw6
  refine lin_put 6 25 (.tmp 8) (.tmp 19) (q8) _ (z5T) (cr1) (by kernel_rfl) (by kernel_rfl) (by kernel_rfl) (by kernel_rfl) (by kernel_rfl) bw6 (ht1.len.trans (rfl : z5T.length = 5).symm) (t5Size ht1.len) (by simpa using ht1.one) ?_
  intro w7 bw7 uw7
  refine ldn 7 ?_
  generalize hact : Act.put _ none _ = act
  simp only [Act.put, sA, sC, sZ] at hact
  subst hact
  have BQ8 : Hid (B ≤ q8) := by have := S5.out; have := hq8.out; rw [Hid]; omega
  have kp : Below q8 w5 w7 := uw7.below bew6 (Nat.le_refl _) (by have := bew6.size; have := hq8.out; omega)
  have b2 := BQ2.out
  have b8 := BQ8.out
  have G1 : Hid (Blk w7 q 25 CS) := F1.out.below kp (by omega)
  have G2 : Hid (Blk w7 (q + 1) 25 z5T) := F2.out.below kp (by omega)
  have G8 : Hid (Blk w7 q8 25 cr1) := bw7
  have GE : Hid (Bel G q w w7) := FE.out.trans ((Bel.of kp).mono (by omega))
  have S7 : Hid (q8 < w7.heap.size) := bw7.lt
  have T1 : Hid (TmAt (List.range (q + 2) ++ [q8]) w7 r1 cr1) := TmAt.below (TmAt.sub (fun k hk => (List.mem_append.1 hk).imp (fun h => List.mem_range.2 (by have := List.mem_range.1 h; omega)) (fun h => by have := hq8.out; simp at h; omega)) r1 cr1 ht1) (by rw [hq8.out]; exact kp)
  have I1 : Hid (I s1 w7) := HH.out.keep s1 w5 w7 hI1 (by have := EQ.out; have := hq8.out; omega) (Bel.of (kp.mono (by have := EQ.out; omega)))
  have C5 := Lib.hid ht1.len
  clear ht1 hI1 bw6 bew6 hsw6 bw7 uw7 kp F1 F2 FE S5 b2 b8
  by_cases h0 : N = 0
  · skip
    go_upto_region 4 with (fail)
    refine lbeg (opsOf Try.f90 4) ?_
    refine lnow 0 (.slice aa N ac) (some 20) ?_
    refine lnow 1 (.int .i64 (N : Int)) (some 21) ?_
    refine lnow 2 (.bool (decide ((N : Int) = 0))) (some 22) ?_
    rw [show decide ((N : Int) = 0) = true from decide_eq_true (by omega)]
    refine ldn 3 ?_
    generalize hact : Act.put _ (some 22) _ = act
    simp only [Act.put, sA, sC, sZ] at hact
    subst hact
    have ONE := Lib.hid T1.out.one
    go_upto_region 5 with (fail)
    refine lbeg (opsOf Try.f90 5) ?_
    refine lrl 0 (cr1) (some 23) 25 8 (q8) 0 (G8.out).whole Try.underlying25 (t5Size C5.out) ?_
    refine lin_put 1 25 (.tmp 6) (.tmp 23) (q + 1) _ (z5T) (cr1) (by kernel_rfl) (by kernel_rfl) (by kernel_rfl) (by kernel_rfl) (by kernel_rfl) G2.out (C5.out.trans (rfl : z5T.length = 5).symm) (t5Size C5.out) (by simpa using ONE.out) ?_
    intro w9 bw9 uw9
    refine ldn 2 ?_
    generalize hact : Act.put _ none _ = act
    simp only [Act.put, sA, sC, sZ] at hact
    subst hact
    go_wp2
    refine bodyPost_ret (v := .agg cr1.toArray) ?_ rfl (Reb.yes (GE.out.upd uw9 (.inr (by omega)) (by have := S7.out; have := BQ2.out; have := BQ8.out; omega)) (hRT.out.symm.trans (rebT_leaf hgo.out (by rw [hAN.out]; exact h0))) rfl (TmAt.sub (fun k hk => .inl (by simp at hk ⊢; omega)) _ _ (TmAt.step (Step.of_upd uw9 (by simp : q + 1 ∈ List.range (q + 2) ++ [q8])) _ _ T1.out)) (HH.out.keep s1 w7 w9 I1.out (by have := EQ.out; have := S7.out; have := BQ2.out; have := BQ8.out; omega) ((Bel.refl [] E w7).upd uw9 (.inr (by have := EQ.out; omega)) (by have := EQ.out; have := S7.out; have := BQ2.out; have := BQ8.out; omega))))
    exact results_cell_row (g := q + 1) (t := 25) (cs := cr1.toArray) (fr := (0, 0)) Try.results90 _ _ _ rfl bw9 Try.underlying25 rfl (t5Size C5.out)
  go_upto_region 4 with (fail)
  refine lbeg (opsOf Try.f90 4) ?_
  refine lnow 0 (.slice aa N ac) (some 20) ?_
  refine lnow 1 (.int .i64 (N : Int)) (some 21) ?_
  refine lnow 2 (.bool (decide ((N : Int) = 0))) (some 22) ?_
  rw [show decide ((N : Int) = 0) = false from decide_eq_false (by omega)]
  refine ldn 3 ?_
  generalize hact : Act.put _ (some 22) _ = act
  simp only [Act.put, sA, sC, sZ] at hact
  subst hact
  obtain ⟨lv8, av8, hcr1, hl8, -⟩ := T1.out.open
  obtain ⟨qr, hqr⟩ : ∃ y, Hid (w7.heap.size = y) := ⟨_, rfl⟩
  have QR8 : Hid (q8 < qr) := by have := S7.out; have := hqr.out; rw [Hid]; omega
  obtain ⟨kr, hkr⟩ : ∃ y, Hid (r1.kind = y) := ⟨_, rfl⟩
  obtain ⟨nr, hnr⟩ : ∃ y, Hid (r1.n = y) := ⟨_, rfl⟩
  obtain ⟨sr, hsr⟩ : ∃ y, Hid (r1.name = y) := ⟨_, rfl⟩
  rw [hkr.out, hnr.out, hsr.out] at hcr1
  have HL8 := Lib.hid hl8
  subst hcr1
  clear hl8
  go_upto_region 6 with (fail)
  refine lbeg (opsOf Try.f90 6) ?_
  refine lnow 0 (.slice aa N ac) (some 24) ?_
  refine lnow 1 (.int .i64 (N : Int)) (some 25) ?_
  refine lin_makeT 2 N qr .i64 .i64 (some 26) (by kernel_rfl) (by kernel_rfl) (by kernel_rfl) SA.out hqr ?_
  intro w8 X hX bw8 bew8 hsw8
  have J8 : Blk w8 q8 25 [.int .i64 kr, .int .i64 nr, strT sr, lv8, av8] := G8.out.below bew8 QR8.out
  refine lnow 3 (.pointer (some ⟨q8, 4, none⟩)) (some 27) ?_
  refine lin_putF 4 4 23 (.tmp 27) (.tmp 26) q8 25 [.int .i64 kr, .int .i64 nr, strT sr, lv8, av8] (.slice (some ⟨qr, 0, none⟩) N N) (by kernel_rfl) (by kernel_rfl) (by kernel_rfl) (by kernel_rfl) (by kernel_rfl) J8 (by simp) sizeTms (by rfl) (by rfl) ?_
  intro w9 bw9 uw9
  refine ldn 5 ?_
  generalize hact : Act.put _ none _ = act
  simp only [Act.put, sA, sC, sZ] at hact
  subst hact
  have b1 := BQ2.out
  have b2 := BQ8.out
  have b3 := QR8.out
  have b4 := EQ.out
  have K1 : Hid (Blk w9 q 25 CS) := uw9.blk (G1.out.below bew8 (by omega)) (by omega)
  have K2 : Hid (Blk w9 (q + 1) 25 z5T) := uw9.blk (G2.out.below bew8 (by omega)) (by omega)
  have K8 : Hid (Blk w9 q8 25 [.int .i64 kr, .int .i64 nr, strT sr, lv8, .slice (some ⟨qr, 0, none⟩) N N]) := bw9
  have KX : Hid (Blk w9 qr 25 X) := uw9.blk bw8 (by omega)
  have LX := Lib.hid hX
  have KE : Hid (Bel G q w w9) := (GE.out.trans ((Bel.of bew8).mono (by omega))).upd uw9 (.inr (by omega)) (by have := hsw8.out; omega)
  have S9 : Hid (qr + 1 ≤ w9.heap.size) := by have := hsw8.out; have := uw9.size; rw [Hid]; omega
  have LV9 : Hid (LvsOff (List.range (q + 2) ++ [q8, qr]) w9 lv8 r1.levels) := by
    have h := LvsOff.sub (G := List.range (q + 2) ++ [q8, qr]) HL8.out (fun k hk => (by have := hqr.out; simp at hk ⊢; omega : k ∈ List.range (q + 2) ++ [q8] ∨ w7.heap.size ≤ k))
    exact (h.step (Step.of_below (F := List.range (q + 2) ++ [q8, qr]) bew8 (by have := hqr.out; omega))).step (Step.of_upd uw9 (by simp))
  have I9 : Hid (I s1 w9) := HH.out.keep s1 w7 w9 I1.out (by have := hqr.out; omega) ((Bel.of (bew8.mono (by omega))).upd uw9 (.inr (by omega)) (by have := hsw8.out; omega))
  clear J8 bw8 bew8 hX hsw8 bw9 uw9 G1 G2 G8 GE S7 HL8 T1 I1 b1 b2 b3 b4 hqr
  go_upto_region 7 with (fail)
  refine lbeg (opsOf Try.f90 7) ?_
  refine lnow 0 (.slice aa N ac) (some 28) ?_
  refine lnow 1 (.int .i64 (N : Int)) (some 29) ?_
  refine lnow 2 (.int .i64 0) (some 30) ?_
  refine ldn 3 ?_
  generalize hact : Act.put _ (some 30) _ = act
  simp only [Act.put, sA, sC, sZ] at hact
  subst hact
  go_wp2
  go_loopw [30] (fun iv wr => ∃ (i : Nat) (X : List Value) (ds : List (List Value)) (si : σ) (xs : List Tm), i ≤ N ∧ iv = .int .i64 (i : Int) ∧ Hid (rebTs g s1 d k N 0 (a.take i) = some (si, xs)) ∧ Hid (TmCells (List.range (qr + 1)) wr xs ds) ∧ Hid (xs.length = i) ∧ Hid (X.length = 5 * N) ∧ Hid (X.take (5 * i) = ds.flatten) ∧ Hid (Blk wr qr 25 X) ∧ Hid (I si wr) ∧ Hid (Bel G q w wr) ∧ Hid (Blk wr q 25 CS) ∧ Hid (Blk wr (q + 1) 25 z5T) ∧ Hid (Blk wr q8 25 [.int .i64 kr, .int .i64 nr, strT sr, lv8, .slice (some ⟨qr, 0, none⟩) N N]) ∧ Hid (LvsOff (List.range (q + 2) ++ [q8, qr]) wr lv8 r1.levels) ∧ Hid (qr + 1 ≤ wr.heap.size)) (fun iv _ => N - (intOf iv).toNat)
  case atStart => exact ⟨0, X, [], s1, [], Nat.zero_le _, rfl, by rw [Hid, List.take_zero, rebTs], trivial, rfl, LX, by rw [Hid]; simp, KX, I9, KE, K1, K2, K8, LV9, S9⟩
  case round =>
    obtain ⟨i, X, ds, si, xs, hi, rfl, RB, TC, XL, LX, TX, KX, II, KE, K1, K2, K8, LV, SR⟩ := hrel
    by_cases hlt : i < N
    rotate_left
    · skip
      have rlt : ¬ (i : Int) < (N : Int) := by omega
      obtain rfl : i = N := by omega
      have b1 := BQ2.out
      have b2 := BQ8.out
      have b3 := QR8.out
      have b4 := EQ.out
      have hRB := RB.out
      rw [List.take_of_length_le (by have := hAN.out; omega)] at hRB
      have hXd := TX.out
      rw [List.take_of_length_le (by have := LX.out; omega)] at hXd
      have ta : TmsAt (List.range (q + 2)) wr xs (.slice (some ⟨qr, 0, none⟩) i i) := TmCells.tms (TmCells.sub (fun k hk => .inl (List.mem_range.2 (by have := List.mem_range.1 hk; omega))) TC.out : TmCells (List.range (q + 2)) wr xs ds) XL.out KX.out hXd (by simp; omega)
      have FIN : Hid (TmAt (List.range (q + 2)) wr (.mk kr nr sr r1.levels xs) [.int .i64 kr, .int .i64 nr, strT sr, lv8, .slice (some ⟨qr, 0, none⟩) i i]) := TmAt.mk (t := .mk kr nr sr r1.levels xs) (LvsOff.sub LV.out (fun k hk => .inl (by simp at hk ⊢; omega))) ta
      have RTE : Hid (RT = some (si, .mk kr nr sr r1.levels xs)) := hRT.out.symm.trans (by rw [rebT_node hgo.out (by rw [hAN.out]; exact h0) (by rw [hAN.out]; exact hRB), hkr.out, hnr.out, hsr.out])
      clear ta hRB hXd RB TC XL TX LV
      obtain ⟨CF, hCF⟩ : ∃ x, Hid ([.int .i64 kr, .int .i64 nr, strT sr, lv8, .slice (some ⟨qr, 0, none⟩) i i] = x) := ⟨_, rfl⟩
      rw [hCF.out] at FIN K8
      have CF5 := Lib.hid FIN.out.len
      have ONE := Lib.hid FIN.out.one
      go_upto_region 15 with (fail)
      refine lbeg (opsOf Try.f90 15) ?_
      refine lrl 0 (CF) (some 57) 25 8 (q8) 0 (K8.out).whole Try.underlying25 (t5Size CF5.out) ?_
      refine lin_put 1 25 (.tmp 6) (.tmp 57) (q + 1) _ (z5T) (CF) (by kernel_rfl) (by kernel_rfl) (by kernel_rfl) (by kernel_rfl) (by kernel_rfl) K2.out (CF5.out.trans (rfl : z5T.length = 5).symm) (t5Size CF5.out) (by simpa using ONE.out) ?_
      intro wz bwz uwz
      refine ldn 2 ?_
      generalize hact : Act.put _ none _ = act
      simp only [Act.put, sA, sC, sZ] at hact
      subst hact
      go_wp2
      refine bodyPost_ret (v := .agg CF.toArray) ?_ rfl (Reb.yes (KE.out.upd uwz (.inr (by omega)) (by have := SR.out; omega)) RTE.out rfl ((TmAt.step (Step.of_upd uwz (List.mem_range.2 (by omega))) _ _ FIN.out).range (by omega)) (HH.out.keep si wr wz II.out (by have := SR.out; omega) ((Bel.refl [] E wr).upd uwz (.inr (by omega)) (by have := SR.out; omega))))
      exact results_cell_row (g := q + 1) (t := 25) (cs := CF.toArray) (fr := (0, 0)) Try.results90 _ _ _ rfl bwz Try.underlying25 rfl (t5Size CF5.out)
    have rlt : (i : Int) < (N : Int) := by omega
    have AT : Hid (TmsAt F wr a (.slice aa N ac)) := TmsAt.step (KE.out.step (by have := hq.out; omega) HFF.out) a _ H2.out
    obtain ⟨x, pb, po, ci, hxi, hxm, haa, -, hpb, -, hcr, hct⟩ := AT.out.get hAN.out hlt
    subst haa
    have XM := Lib.hid hxm
    have XS := SmTs.mem SS.out hxm
    have HCR := Lib.hid hcr
    have HCT := Lib.hid hct
    have CI5 := Lib.hid hct.len
    have CI1 := Lib.hid hct.one
    have TK : Hid (a.take (i + 1) = a.take i ++ [x]) := by rw [Hid, List.take_add_one, hxi]; rfl
    have TL : Hid ((a.take i).length = i) := by rw [Hid, List.length_take]; have := hAN.out; omega
    clear hxi hxm hpb hcr hct
    obtain ⟨qx, hqx⟩ : ∃ y, Hid (wr.heap.size = y) := ⟨_, rfl⟩
    go_upto_region 9 with (fail)
    refine lbeg (opsOf Try.f90 9) ?_
    refine lnow 0 (.int .i64 (i : Int)) (some 32) ?_
    refine lix 1 (.pointer (some ⟨pb, po + 5 * i, none⟩)) (some 33) 23 28 30 (run_at_tm pb po N ac i hlt _) ?_
    refine lrl 2 ci (some 34) 25 33 pb (po + 5 * i) HCR.out Try.underlying25 (t5Size CI5.out) ?_
    refine lall 3 25 z5T (qx) (some 10) hqx ?_
    intro w10 bw10 bew10 hsw10
    refine lnow 4 (.int .i64 (i : Int)) (some 9) ?_
    refine lin_put 5 25 (.tmp 10) (.tmp 34) (qx) _ (z5T) (ci) (by kernel_rfl) (by kernel_rfl) (by kernel_rfl) (by kernel_rfl) (by kernel_rfl) bw10 (CI5.out.trans (rfl : z5T.length = 5).symm) (t5Size CI5.out) (by simpa using CI1.out) ?_
    intro w11 bw11 uw11
    refine ldn 6 ?_
    generalize hact : Act.put _ none _ = act
    simp only [Act.put, sA, sC, sZ] at hact
    subst hact
    have b1 := BQ2.out
    have b2 := BQ8.out
    have b3 := QR8.out
    have b4 := EQ.out
    have b5 : Hid (qr + 1 ≤ qx) := by have := SR.out; have := hqx.out; rw [Hid]; omega
    have b6 := b5.out
    have kp : Below qx wr w11 := uw11.below bew10 (Nat.le_refl _) (by have := bew10.size; have := hqx.out; omega)
    have st : Step [] wr [] w11 := Step.of_below (F := []) kp (by have := hqx.out; omega)
    have RL : Hid (Below wr.heap.size wr w11) := by rw [Hid, hqx.out]; exact kp
    have K1b : Hid (Blk w11 q 25 CS) := K1.out.below kp (by omega)
    have K2b : Hid (Blk w11 (q + 1) 25 z5T) := K2.out.below kp (by omega)
    have K8b : Hid (Blk w11 q8 25 [.int .i64 kr, .int .i64 nr, strT sr, lv8, .slice (some ⟨qr, 0, none⟩) N N]) := K8.out.below kp (by omega)
    have KXb : Hid (Blk w11 qr 25 X) := KX.out.below kp (by omega)
    have BX := Lib.hid bw11
    have LVb : Hid (LvsOff (List.range (q + 2) ++ [q8, qr]) w11 lv8 r1.levels) := LV.out.step (Step.of_below RL.out (Nat.le_refl _))
    have TCb : Hid (TmCells (List.range (qr + 1)) w11 xs ds) := TmCells.step (Step.of_below RL.out (Nat.le_refl _)) TC.out
    have KEb : Hid (Bel G q w w11) := KE.out.trans ((Bel.of kp).mono (by omega))
    have IIb : Hid (I si w11) := HH.out.keep si wr w11 II.out (by have := hqx.out; omega) (Bel.of (kp.mono (by omega)))
    have S11 : Hid (qx < w11.heap.size) := bw11.lt
    have HCTb : Hid (TmAt F w11 x ci) := HCT.out.below RL.out
    clear bw10 bew10 hsw10 bw11 uw11 kp st RL K1 K2 K8 KX LV TC KE II HCR HCT SR AT hqx b1 b2 b3 b4 b6
    go_upto_region 10 with (fail)
    refine lbeg (opsOf Try.f90 10) ?_
    refine lnow 0 (.int .i64 d) (some 35) ?_
    refine lnow 1 (.int .i64 d) (some 11) ?_
    refine ldn 2 ?_
    generalize hact : Act.put _ (some 11) _ = act
    simp only [Act.put, sA, sC, sZ] at hact
    subst hact
    obtain ⟨m, hm⟩ : ∃ m, Hid (moreD k i N = m) := ⟨_, rfl⟩
    have hm01 : Hid (0 ≤ m ∧ m ≤ 1) := by rw [Hid, ← hm.out]; unfold moreD; split <;> omega
    have hd0 := HD.out
    have hnx := HND.out x XM.out
    have CALL := fun (w' : World) (hw : TmAt F w' x ci) (hE : E ≤ w'.heap.size) (hi : I si w') => IH.out x XM.out ci w' si (d + m) F hw HFF.out hE hi XS (BndTs.mem BD.out.2 XM.out) (by have := hm01.out; omega)
    clear hd0 hnx
    have NW : IntKind.i64.wrap ((N : Int) - 1) = (N : Int) - 1 := IntWalk.i64_in _ (by have := SA.out; omega)
    have DW : IntKind.i64.wrap (d + 1) = d + 1 := IntWalk.i64_in _ (by have := HD.out; omega)
    by_cases hla : i + 1 = N
    · skip
      have BW := mbinder_walk k w11
      by_cases hkb : k = 6 ∨ k = 7 ∨ k = 8
      · rw [decide_eq_true hkb] at BW
        have hm1 : m = 1 := by rw [← hm.out]; exact if_pos ⟨hla, hkb⟩
        go_upto_region 11 with (fail)
        refine lbeg (opsOf Try.f90 11) ?_
        refine lnow 0 (.int .i64 (i : Int)) (some 36) ?_
        refine lnow 1 (.slice (some ⟨pb, po, none⟩) N ac) (some 37) ?_
        refine lnow 2 (.int .i64 (N : Int)) (some 38) ?_
        refine lnow 3 (.int .i64 (IntKind.i64.wrap ((N : Int) - 1))) (some 39) ?_
        rw [NW]
        refine lnow 4 (.bool (decide ((i : Int) = (N : Int) - 1))) (some 40) ?_
        rw [show decide ((i : Int) = (N : Int) - 1) = true from decide_eq_true (by omega)]
        refine lnow 5 (.bool true) (some 41) ?_
        refine lnow 6 (.pointer (some ⟨q, 0, none⟩)) (some 42) ?_
        refine lcl 7 (.int .i64 k) (some 43) 3 42 (q) 0 (K1b.out.cell KC.out) Try.underlying3 ?_
        refine lcal 8 111 #[.int .i64 k] (some 44) _ (BW) ?_
        rintro e w' ⟨rfl, hw'⟩
        obtain rfl := hw'.symm
        refine ⟨_, rfl, ?_⟩
        refine lnow 9 (.bool true) (some 45) ?_
        refine ldn 10 ?_
        generalize hact : Act.put _ (some 45) _ = act
        simp only [Act.put, sA, sC, sZ] at hact
        subst hact
        go_upto_region 12 with (fail)
        refine lbeg (opsOf Try.f90 12) ?_
        refine lnow 0 (.int .i64 d) (some 46) ?_
        refine lnow 1 (.int .i64 (IntKind.i64.wrap (d + 1))) (some 47) ?_
        rw [DW]
        refine lnow 2 (.int .i64 (d + 1)) (some 11) ?_
        refine ldn 3 ?_
        generalize hact : Act.put _ (some 11) _ = act
        simp only [Act.put, sA, sC, sZ] at hact
        subst hact
        obtain ⟨dv, hdv⟩ : ∃ y : Int, y = (d + 1) := ⟨_, rfl⟩
        rw [← hdv]
        have DV : Hid (d + m = dv) := by rw [Hid, hdv]; omega
        rw [DV.out] at CALL
        go_upto_region 13 with (fail)
        refine region_beginP (opsOf Try.f90 13) (fun W => Blk W q8 25 [.int .i64 kr, .int .i64 nr, strT sr, lv8, .slice (some ⟨qr, 0, none⟩) N N] ∧ Blk W qx 25 ci) (by kernel_rfl) (by kernel_rfl) 9 (by kernel_rfl) ?_
        intro Q' hQN hN hP
        have HS : Blk w11.drew q8 25 [.int .i64 kr, .int .i64 nr, strT sr, lv8, .slice (some ⟨qr, 0, none⟩) N N] ∧ Blk w11.drew qx 25 ci := ⟨K8b.out, BX.out⟩
        refine reg_now 0 (.pointer (some ⟨q8, 4, none⟩)) (some 48) hQN HS (by kernel_rfl) (by kernel_rfl) (fun w => by kernel_rfl) ?_
        refine reg_nowIf 1 (.slice (some ⟨qr, 0, none⟩) N N) (some 49) hQN HS (by kernel_rfl) (by kernel_rfl) (fun w' hw => exec_load_cell 23 (.tmp 48) (by kernel_rfl) q8 4 (by kernel_rfl) _ (hw.1.cell rfl) _ Try.underlying23 rfl) ?_
        refine reg_now 2 (.int .i64 (i : Int)) (some 50) hQN HS (by kernel_rfl) (by kernel_rfl) (fun w => by kernel_rfl) ?_
        refine reg_nowIf 3 (.agg (ci).toArray) (some 51) hQN HS (by kernel_rfl) (by kernel_rfl) (fun w' hw => exec_load_mid 25 (.tmp 10) (by kernel_rfl) (qx) 0 (by kernel_rfl) (ci) _ hw.2.whole Try.underlying25 rfl (t5Size CI5.out)) ?_
        refine reg_now 4 (.int .i64 dv) (some 52) hQN HS (by kernel_rfl) (by kernel_rfl) (fun w => by kernel_rfl) ?_
        refine reg_now 5 (.func (.func gf) #[] lb) (some 53) hQN HS (by kernel_rfl) (by kernel_rfl) (fun w => by kernel_rfl) ?_
        refine reg_callP 6 90 #[.agg ci.toArray, .int .i64 dv, .func (.func gf) #[] lb] (some 54) _ (by kernel_rfl) (by kernel_rfl) (by kernel_rfl) (CALL w11.drew (HCTb.out.below (Below.refl _ _).drew) (by have := S11.out; have := b5.out; have := QR8.out; have := BQ8.out; have := BQ2.out; have := EQ.out; exact (by omega : E ≤ w11.heap.size)) (HH.out.keep si w11 w11.drew IIb.out (by have := S11.out; have := b5.out; have := QR8.out; have := BQ8.out; have := BQ2.out; have := EQ.out; omega) (Bel.of (Below.refl _ _).drew))) ?_
        rintro e w12 ⟨hb, hres⟩
        have b1 := BQ2.out
        have b2 := BQ8.out
        have b3 := QR8.out
        have b4 := EQ.out
        have b6 := b5.out
        have b7 : Hid (qx < w11.drew.heap.size) := S11.out
        have b8 := b7.out
        have gq := GQ.out
        have KEc : Hid (Bel G q w w12) := (KEb.out.trans (Bel.of (Below.refl _ _).drew)).trans (hb.mono (by omega))
        obtain ⟨ry, hry⟩ : ∃ y, Hid (rebT g si dv x = y) := ⟨_, rfl⟩
        rw [hry.out] at hres
        obtain _ | ⟨s2, y⟩ := ry
        · obtain ⟨kk, rfl⟩ := hres
          have RN : Hid (RT = none) := hRT.out.symm.trans (rebT_fall hgo.out (by rw [hAN.out]; exact h0) (by rw [hAN.out]; exact rebTs_fall RB.out TK.out TL.out (by rw [hm.out, DV.out]; exact hry.out)))
          exact .inr ⟨_, rfl, hP _ _ _ fun a' ha' => ⟨ha', Reb.no KEc.out RN.out ⟨kk, rfl⟩⟩⟩
        obtain ⟨⟨cy, rfl, hty, hIy⟩⟩ := hres
        have K1c : Hid (Blk w12 q 25 CS) := hb.blk (K1b.out : Blk w11.drew q 25 CS) (by omega) (fun h => absurd (gq _ h) (by omega))
        have K2c : Hid (Blk w12 (q + 1) 25 z5T) := hb.blk (K2b.out : Blk w11.drew (q + 1) 25 z5T) (by omega) (fun h => absurd (gq _ h) (by omega))
        have K8c : Hid (Blk w12 q8 25 [.int .i64 kr, .int .i64 nr, strT sr, lv8, .slice (some ⟨qr, 0, none⟩) N N]) := hb.blk (K8b.out : Blk w11.drew q8 25 [.int .i64 kr, .int .i64 nr, strT sr, lv8, .slice (some ⟨qr, 0, none⟩) N N]) (by omega) (fun h => absurd (gq _ h) (by omega))
        have KXc : Hid (Blk w12 qr 25 X) := hb.blk (KXb.out : Blk w11.drew qr 25 X) (by omega) (fun h => absurd (gq _ h) (by omega))
        have BXc : Hid (Blk w12 qx 25 ci) := hb.blk (BX.out : Blk w11.drew qx 25 ci) (by omega) (fun h => absurd (gq _ h) (by omega))
        have stL : Step (List.range (q + 2) ++ [q8, qr]) w11.drew (List.range (q + 2) ++ [q8, qr]) w12 := hb.step (Nat.le_refl _) (fun k hk => by have := gq k hk; simp; omega)
        have stC : Step (List.range (qr + 1)) w11.drew (List.range (qr + 1)) w12 := hb.step (Nat.le_refl _) (fun k hk => by have := gq k hk; simp; omega)
        have sz := hb.size
        have LVc : Hid (LvsOff (List.range (q + 2) ++ [q8, qr]) w12 lv8 r1.levels) := (LVb.out.step (Step.of_below (Below.refl _ _).drew (Nat.le_refl _))).step stL
        have TCc : Hid (TmCells (List.range (qr + 1)) w12 (xs ++ [y]) (ds ++ [cy])) := TmCells.snoc (hty.range (by omega)) (TmCells.step stC (TmCells.step (Step.of_below (Below.refl _ _).drew (Nat.le_refl _)) TCb.out))
        have CY5 := Lib.hid hty.len
        have CY1 := Lib.hid hty.one
        have IIc := Lib.hid hIy
        have S12 : Hid (qr + 1 ≤ w12.heap.size) := by rw [Hid]; omega
        refine .inl ⟨_, rfl, ⟨K8c.out, BXc.out⟩, ?_⟩
        clear hb hty hIy stL stC sz K1b K2b K8b KXb LVb TCb KEb IIb HCTb BX b8
        have HS2 : Blk w12 q8 25 [.int .i64 kr, .int .i64 nr, strT sr, lv8, .slice (some ⟨qr, 0, none⟩) N N] ∧ Blk w12 qx 25 ci := ⟨K8c.out, BXc.out⟩
        refine reg_now 7 (.pointer (some ⟨qr, 0 + 5 * i, none⟩)) (some 55) hQN HS2 (by kernel_rfl) (by kernel_rfl) (fun w' => exec_indexAt 23 (.tmp 49) (.tmp 50) (by kernel_rfl) _ _ _ (by kernel_rfl) (by kernel_rfl) (run_at_tm qr 0 N N i hlt w')) ?_
        refine reg_putM 8 (0 + 5 * i) 25 (.tmp 55) (.tmp 54) qr 25 X cy (by kernel_rfl) (by kernel_rfl) (by kernel_rfl) (by kernel_rfl) (by kernel_rfl) KXc.out (by have := LX.out; have := CY5.out; omega) (t5Size CY5.out) (by simpa using CY1.out) ?_
        intro w13 bw13 uw13
        refine ⟨⟨uw13.blk K8c.out (by omega), uw13.blk BXc.out (by omega)⟩, ?_⟩
        refine reg_done (by kernel_rfl) (hN _ _ ?_)
        generalize hact : Act.put _ none _ = act
        simp only [Act.put, sA, sC, sZ] at hact
        subst hact
        have NX : Hid ((splice X (0 + 5 * i) cy).length = 5 * N) := by rw [Hid, splice_length (by have := LX.out; have := CY5.out; omega)]; exact LX.out
        have NT : Hid ((splice X (0 + 5 * i) cy).take (5 * (i + 1)) = (ds ++ [cy]).flatten) := by
          have h1 := splice_take (X := X) (c := cy) (n := 0 + 5 * i) (by have := LX.out; have := CY5.out; omega)
          rw [CY5.out, Nat.zero_add, TX.out] at h1
          rw [Hid, Nat.zero_add, show 5 * (i + 1) = 5 * i + 5 by omega, h1]; simp
        have N1 : Hid (Blk w13 q 25 CS) := uw13.blk K1c.out (by omega)
        have N2 : Hid (Blk w13 (q + 1) 25 z5T) := uw13.blk K2c.out (by omega)
        have N8 : Hid (Blk w13 q8 25 [.int .i64 kr, .int .i64 nr, strT sr, lv8, .slice (some ⟨qr, 0, none⟩) N N]) := uw13.blk K8c.out (by omega)
        have NB : Hid (Blk w13 qr 25 (splice X (0 + 5 * i) cy)) := bw13
        have NL : Hid (LvsOff (List.range (q + 2) ++ [q8, qr]) w13 lv8 r1.levels) := LVc.out.step (Step.of_upd uw13 (by simp))
        have NC : Hid (TmCells (List.range (qr + 1)) w13 (xs ++ [y]) (ds ++ [cy])) := TmCells.step (Step.of_upd uw13 (List.mem_range.2 (by omega))) TCc.out
        have NE : Hid (Bel G q w w13) := KEc.out.upd uw13 (.inr (by omega)) (by have := S12.out; omega)
        have NI : Hid (I s2 w13) := HH.out.keep s2 w12 w13 IIc.out (by have := S12.out; omega) ((Bel.refl [] E w12).upd uw13 (.inr (by omega)) (by have := S12.out; omega))
        have NS : Hid (qr + 1 ≤ w13.heap.size) := by have := S12.out; have := uw13.size; rw [Hid]; omega
        have NR : Hid (rebTs g s1 d k N 0 (a.take (i + 1)) = some (s2, xs ++ [y])) := rebTs_more RB.out TK.out TL.out (by rw [hm.out, DV.out]; exact hry.out)
        have NXL : Hid ((xs ++ [y]).length = i + 1) := by rw [Hid, List.length_append, XL.out]; rfl
        clear bw13 uw13 K1c K2c K8c KXc BXc LVc TCc KEc IIc S12 RB TK TL XL TX LX HS HS2 CALL hQN hN hP b1 b2 b3 b4 b6 gq
        have bl := SA.out
        go_wp2
        go_roundw
        case rel => exact ⟨i + 1, splice X (0 + 5 * i) cy, ds ++ [cy], s2, xs ++ [y], by omega, by go_num, NR, NC, NXL, NX, NT, NB, NI, NE, N1, N2, N8, NL, NS⟩
        case measure => simp [intOf]; omega
      · rw [decide_eq_false hkb] at BW
        have hm1 : m = 0 := by rw [← hm.out]; exact if_neg (fun h => hkb h.2)
        go_upto_region 11 with (fail)
        refine lbeg (opsOf Try.f90 11) ?_
        refine lnow 0 (.int .i64 (i : Int)) (some 36) ?_
        refine lnow 1 (.slice (some ⟨pb, po, none⟩) N ac) (some 37) ?_
        refine lnow 2 (.int .i64 (N : Int)) (some 38) ?_
        refine lnow 3 (.int .i64 (IntKind.i64.wrap ((N : Int) - 1))) (some 39) ?_
        rw [NW]
        refine lnow 4 (.bool (decide ((i : Int) = (N : Int) - 1))) (some 40) ?_
        rw [show decide ((i : Int) = (N : Int) - 1) = true from decide_eq_true (by omega)]
        refine lnow 5 (.bool true) (some 41) ?_
        refine lnow 6 (.pointer (some ⟨q, 0, none⟩)) (some 42) ?_
        refine lcl 7 (.int .i64 k) (some 43) 3 42 (q) 0 (K1b.out.cell KC.out) Try.underlying3 ?_
        refine lcal 8 111 #[.int .i64 k] (some 44) _ (BW) ?_
        rintro e w' ⟨rfl, hw'⟩
        obtain rfl := hw'.symm
        refine ⟨_, rfl, ?_⟩
        refine lnow 9 (.bool false) (some 45) ?_
        refine ldn 10 ?_
        generalize hact : Act.put _ (some 45) _ = act
        simp only [Act.put, sA, sC, sZ] at hact
        subst hact
        have DV : Hid (d + m = d) := by rw [Hid]; omega
        rw [DV.out] at CALL
        go_upto_region 13 with (fail)
        refine region_beginP (opsOf Try.f90 13) (fun W => Blk W q8 25 [.int .i64 kr, .int .i64 nr, strT sr, lv8, .slice (some ⟨qr, 0, none⟩) N N] ∧ Blk W qx 25 ci) (by kernel_rfl) (by kernel_rfl) 9 (by kernel_rfl) ?_
        intro Q' hQN hN hP
        have HS : Blk w11.drew q8 25 [.int .i64 kr, .int .i64 nr, strT sr, lv8, .slice (some ⟨qr, 0, none⟩) N N] ∧ Blk w11.drew qx 25 ci := ⟨K8b.out, BX.out⟩
        refine reg_now 0 (.pointer (some ⟨q8, 4, none⟩)) (some 48) hQN HS (by kernel_rfl) (by kernel_rfl) (fun w => by kernel_rfl) ?_
        refine reg_nowIf 1 (.slice (some ⟨qr, 0, none⟩) N N) (some 49) hQN HS (by kernel_rfl) (by kernel_rfl) (fun w' hw => exec_load_cell 23 (.tmp 48) (by kernel_rfl) q8 4 (by kernel_rfl) _ (hw.1.cell rfl) _ Try.underlying23 rfl) ?_
        refine reg_now 2 (.int .i64 (i : Int)) (some 50) hQN HS (by kernel_rfl) (by kernel_rfl) (fun w => by kernel_rfl) ?_
        refine reg_nowIf 3 (.agg (ci).toArray) (some 51) hQN HS (by kernel_rfl) (by kernel_rfl) (fun w' hw => exec_load_mid 25 (.tmp 10) (by kernel_rfl) (qx) 0 (by kernel_rfl) (ci) _ hw.2.whole Try.underlying25 rfl (t5Size CI5.out)) ?_
        refine reg_now 4 (.int .i64 d) (some 52) hQN HS (by kernel_rfl) (by kernel_rfl) (fun w => by kernel_rfl) ?_
        refine reg_now 5 (.func (.func gf) #[] lb) (some 53) hQN HS (by kernel_rfl) (by kernel_rfl) (fun w => by kernel_rfl) ?_
        refine reg_callP 6 90 #[.agg ci.toArray, .int .i64 d, .func (.func gf) #[] lb] (some 54) _ (by kernel_rfl) (by kernel_rfl) (by kernel_rfl) (CALL w11.drew (HCTb.out.below (Below.refl _ _).drew) (by have := S11.out; have := b5.out; have := QR8.out; have := BQ8.out; have := BQ2.out; have := EQ.out; exact (by omega : E ≤ w11.heap.size)) (HH.out.keep si w11 w11.drew IIb.out (by have := S11.out; have := b5.out; have := QR8.out; have := BQ8.out; have := BQ2.out; have := EQ.out; omega) (Bel.of (Below.refl _ _).drew))) ?_
        rintro e w12 ⟨hb, hres⟩
        have b1 := BQ2.out
        have b2 := BQ8.out
        have b3 := QR8.out
        have b4 := EQ.out
        have b6 := b5.out
        have b7 : Hid (qx < w11.drew.heap.size) := S11.out
        have b8 := b7.out
        have gq := GQ.out
        have KEc : Hid (Bel G q w w12) := (KEb.out.trans (Bel.of (Below.refl _ _).drew)).trans (hb.mono (by omega))
        obtain ⟨ry, hry⟩ : ∃ y, Hid (rebT g si d x = y) := ⟨_, rfl⟩
        rw [hry.out] at hres
        obtain _ | ⟨s2, y⟩ := ry
        · obtain ⟨kk, rfl⟩ := hres
          have RN : Hid (RT = none) := hRT.out.symm.trans (rebT_fall hgo.out (by rw [hAN.out]; exact h0) (by rw [hAN.out]; exact rebTs_fall RB.out TK.out TL.out (by rw [hm.out, DV.out]; exact hry.out)))
          exact .inr ⟨_, rfl, hP _ _ _ fun a' ha' => ⟨ha', Reb.no KEc.out RN.out ⟨kk, rfl⟩⟩⟩
        obtain ⟨⟨cy, rfl, hty, hIy⟩⟩ := hres
        have K1c : Hid (Blk w12 q 25 CS) := hb.blk (K1b.out : Blk w11.drew q 25 CS) (by omega) (fun h => absurd (gq _ h) (by omega))
        have K2c : Hid (Blk w12 (q + 1) 25 z5T) := hb.blk (K2b.out : Blk w11.drew (q + 1) 25 z5T) (by omega) (fun h => absurd (gq _ h) (by omega))
        have K8c : Hid (Blk w12 q8 25 [.int .i64 kr, .int .i64 nr, strT sr, lv8, .slice (some ⟨qr, 0, none⟩) N N]) := hb.blk (K8b.out : Blk w11.drew q8 25 [.int .i64 kr, .int .i64 nr, strT sr, lv8, .slice (some ⟨qr, 0, none⟩) N N]) (by omega) (fun h => absurd (gq _ h) (by omega))
        have KXc : Hid (Blk w12 qr 25 X) := hb.blk (KXb.out : Blk w11.drew qr 25 X) (by omega) (fun h => absurd (gq _ h) (by omega))
        have BXc : Hid (Blk w12 qx 25 ci) := hb.blk (BX.out : Blk w11.drew qx 25 ci) (by omega) (fun h => absurd (gq _ h) (by omega))
        have stL : Step (List.range (q + 2) ++ [q8, qr]) w11.drew (List.range (q + 2) ++ [q8, qr]) w12 := hb.step (Nat.le_refl _) (fun k hk => by have := gq k hk; simp; omega)
        have stC : Step (List.range (qr + 1)) w11.drew (List.range (qr + 1)) w12 := hb.step (Nat.le_refl _) (fun k hk => by have := gq k hk; simp; omega)
        have sz := hb.size
        have LVc : Hid (LvsOff (List.range (q + 2) ++ [q8, qr]) w12 lv8 r1.levels) := (LVb.out.step (Step.of_below (Below.refl _ _).drew (Nat.le_refl _))).step stL
        have TCc : Hid (TmCells (List.range (qr + 1)) w12 (xs ++ [y]) (ds ++ [cy])) := TmCells.snoc (hty.range (by omega)) (TmCells.step stC (TmCells.step (Step.of_below (Below.refl _ _).drew (Nat.le_refl _)) TCb.out))
        have CY5 := Lib.hid hty.len
        have CY1 := Lib.hid hty.one
        have IIc := Lib.hid hIy
        have S12 : Hid (qr + 1 ≤ w12.heap.size) := by rw [Hid]; omega
        refine .inl ⟨_, rfl, ⟨K8c.out, BXc.out⟩, ?_⟩
        clear hb hty hIy stL stC sz K1b K2b K8b KXb LVb TCb KEb IIb HCTb BX b8
        have HS2 : Blk w12 q8 25 [.int .i64 kr, .int .i64 nr, strT sr, lv8, .slice (some ⟨qr, 0, none⟩) N N] ∧ Blk w12 qx 25 ci := ⟨K8c.out, BXc.out⟩
        refine reg_now 7 (.pointer (some ⟨qr, 0 + 5 * i, none⟩)) (some 55) hQN HS2 (by kernel_rfl) (by kernel_rfl) (fun w' => exec_indexAt 23 (.tmp 49) (.tmp 50) (by kernel_rfl) _ _ _ (by kernel_rfl) (by kernel_rfl) (run_at_tm qr 0 N N i hlt w')) ?_
        refine reg_putM 8 (0 + 5 * i) 25 (.tmp 55) (.tmp 54) qr 25 X cy (by kernel_rfl) (by kernel_rfl) (by kernel_rfl) (by kernel_rfl) (by kernel_rfl) KXc.out (by have := LX.out; have := CY5.out; omega) (t5Size CY5.out) (by simpa using CY1.out) ?_
        intro w13 bw13 uw13
        refine ⟨⟨uw13.blk K8c.out (by omega), uw13.blk BXc.out (by omega)⟩, ?_⟩
        refine reg_done (by kernel_rfl) (hN _ _ ?_)
        generalize hact : Act.put _ none _ = act
        simp only [Act.put, sA, sC, sZ] at hact
        subst hact
        have NX : Hid ((splice X (0 + 5 * i) cy).length = 5 * N) := by rw [Hid, splice_length (by have := LX.out; have := CY5.out; omega)]; exact LX.out
        have NT : Hid ((splice X (0 + 5 * i) cy).take (5 * (i + 1)) = (ds ++ [cy]).flatten) := by
          have h1 := splice_take (X := X) (c := cy) (n := 0 + 5 * i) (by have := LX.out; have := CY5.out; omega)
          rw [CY5.out, Nat.zero_add, TX.out] at h1
          rw [Hid, Nat.zero_add, show 5 * (i + 1) = 5 * i + 5 by omega, h1]; simp
        have N1 : Hid (Blk w13 q 25 CS) := uw13.blk K1c.out (by omega)
        have N2 : Hid (Blk w13 (q + 1) 25 z5T) := uw13.blk K2c.out (by omega)
        have N8 : Hid (Blk w13 q8 25 [.int .i64 kr, .int .i64 nr, strT sr, lv8, .slice (some ⟨qr, 0, none⟩) N N]) := uw13.blk K8c.out (by omega)
        have NB : Hid (Blk w13 qr 25 (splice X (0 + 5 * i) cy)) := bw13
        have NL : Hid (LvsOff (List.range (q + 2) ++ [q8, qr]) w13 lv8 r1.levels) := LVc.out.step (Step.of_upd uw13 (by simp))
        have NC : Hid (TmCells (List.range (qr + 1)) w13 (xs ++ [y]) (ds ++ [cy])) := TmCells.step (Step.of_upd uw13 (List.mem_range.2 (by omega))) TCc.out
        have NE : Hid (Bel G q w w13) := KEc.out.upd uw13 (.inr (by omega)) (by have := S12.out; omega)
        have NI : Hid (I s2 w13) := HH.out.keep s2 w12 w13 IIc.out (by have := S12.out; omega) ((Bel.refl [] E w12).upd uw13 (.inr (by omega)) (by have := S12.out; omega))
        have NS : Hid (qr + 1 ≤ w13.heap.size) := by have := S12.out; have := uw13.size; rw [Hid]; omega
        have NR : Hid (rebTs g s1 d k N 0 (a.take (i + 1)) = some (s2, xs ++ [y])) := rebTs_more RB.out TK.out TL.out (by rw [hm.out, DV.out]; exact hry.out)
        have NXL : Hid ((xs ++ [y]).length = i + 1) := by rw [Hid, List.length_append, XL.out]; rfl
        clear bw13 uw13 K1c K2c K8c KXc BXc LVc TCc KEc IIc S12 RB TK TL XL TX LX HS HS2 CALL hQN hN hP b1 b2 b3 b4 b6 gq
        have bl := SA.out
        go_wp2
        go_roundw
        case rel => exact ⟨i + 1, splice X (0 + 5 * i) cy, ds ++ [cy], s2, xs ++ [y], by omega, by go_num, NR, NC, NXL, NX, NT, NB, NI, NE, N1, N2, N8, NL, NS⟩
        case measure => simp [intOf]; omega
    have hm1 : m = 0 := by rw [← hm.out]; exact if_neg (fun h => hla h.1)
    go_upto_region 11 with (fail)
    refine lbeg (opsOf Try.f90 11) ?_
    refine lnow 0 (.int .i64 (i : Int)) (some 36) ?_
    refine lnow 1 (.slice (some ⟨pb, po, none⟩) N ac) (some 37) ?_
    refine lnow 2 (.int .i64 (N : Int)) (some 38) ?_
    refine lnow 3 (.int .i64 (IntKind.i64.wrap ((N : Int) - 1))) (some 39) ?_
    rw [NW]
    refine lnow 4 (.bool (decide ((i : Int) = (N : Int) - 1))) (some 40) ?_
    rw [show decide ((i : Int) = (N : Int) - 1) = false from decide_eq_false (by omega)]
    refine lnow 5 (.bool false) (some 41) ?_
    refine lpas 6 (some 42) ?_
    refine lpas 7 (some 43) ?_
    refine lpas 8 (some 44) ?_
    refine lnow 9 (.bool false) (some 45) ?_
    refine ldn 10 ?_
    generalize hact : Act.put _ (some 45) _ = act
    simp only [Act.put, sA, sC, sZ] at hact
    subst hact
    have DV : Hid (d + m = d) := by rw [Hid]; omega
    rw [DV.out] at CALL
    go_upto_region 13 with (fail)
    refine region_beginP (opsOf Try.f90 13) (fun W => Blk W q8 25 [.int .i64 kr, .int .i64 nr, strT sr, lv8, .slice (some ⟨qr, 0, none⟩) N N] ∧ Blk W qx 25 ci) (by kernel_rfl) (by kernel_rfl) 9 (by kernel_rfl) ?_
    intro Q' hQN hN hP
    have HS : Blk w11.drew q8 25 [.int .i64 kr, .int .i64 nr, strT sr, lv8, .slice (some ⟨qr, 0, none⟩) N N] ∧ Blk w11.drew qx 25 ci := ⟨K8b.out, BX.out⟩
    refine reg_now 0 (.pointer (some ⟨q8, 4, none⟩)) (some 48) hQN HS (by kernel_rfl) (by kernel_rfl) (fun w => by kernel_rfl) ?_
    refine reg_nowIf 1 (.slice (some ⟨qr, 0, none⟩) N N) (some 49) hQN HS (by kernel_rfl) (by kernel_rfl) (fun w' hw => exec_load_cell 23 (.tmp 48) (by kernel_rfl) q8 4 (by kernel_rfl) _ (hw.1.cell rfl) _ Try.underlying23 rfl) ?_
    refine reg_now 2 (.int .i64 (i : Int)) (some 50) hQN HS (by kernel_rfl) (by kernel_rfl) (fun w => by kernel_rfl) ?_
    refine reg_nowIf 3 (.agg (ci).toArray) (some 51) hQN HS (by kernel_rfl) (by kernel_rfl) (fun w' hw => exec_load_mid 25 (.tmp 10) (by kernel_rfl) (qx) 0 (by kernel_rfl) (ci) _ hw.2.whole Try.underlying25 rfl (t5Size CI5.out)) ?_
    refine reg_now 4 (.int .i64 d) (some 52) hQN HS (by kernel_rfl) (by kernel_rfl) (fun w => by kernel_rfl) ?_
    refine reg_now 5 (.func (.func gf) #[] lb) (some 53) hQN HS (by kernel_rfl) (by kernel_rfl) (fun w => by kernel_rfl) ?_
    refine reg_callP 6 90 #[.agg ci.toArray, .int .i64 d, .func (.func gf) #[] lb] (some 54) _ (by kernel_rfl) (by kernel_rfl) (by kernel_rfl) (CALL w11.drew (HCTb.out.below (Below.refl _ _).drew) (by have := S11.out; have := b5.out; have := QR8.out; have := BQ8.out; have := BQ2.out; have := EQ.out; exact (by omega : E ≤ w11.heap.size)) (HH.out.keep si w11 w11.drew IIb.out (by have := S11.out; have := b5.out; have := QR8.out; have := BQ8.out; have := BQ2.out; have := EQ.out; omega) (Bel.of (Below.refl _ _).drew))) ?_
    rintro e w12 ⟨hb, hres⟩
    have b1 := BQ2.out
    have b2 := BQ8.out
    have b3 := QR8.out
    have b4 := EQ.out
    have b6 := b5.out
    have b7 : Hid (qx < w11.drew.heap.size) := S11.out
    have b8 := b7.out
    have gq := GQ.out
    have KEc : Hid (Bel G q w w12) := (KEb.out.trans (Bel.of (Below.refl _ _).drew)).trans (hb.mono (by omega))
    obtain ⟨ry, hry⟩ : ∃ y, Hid (rebT g si d x = y) := ⟨_, rfl⟩
    rw [hry.out] at hres
    obtain _ | ⟨s2, y⟩ := ry
    · obtain ⟨kk, rfl⟩ := hres
      have RN : Hid (RT = none) := hRT.out.symm.trans (rebT_fall hgo.out (by rw [hAN.out]; exact h0) (by rw [hAN.out]; exact rebTs_fall RB.out TK.out TL.out (by rw [hm.out, DV.out]; exact hry.out)))
      exact .inr ⟨_, rfl, hP _ _ _ fun a' ha' => ⟨ha', Reb.no KEc.out RN.out ⟨kk, rfl⟩⟩⟩
    obtain ⟨⟨cy, rfl, hty, hIy⟩⟩ := hres
    have K1c : Hid (Blk w12 q 25 CS) := hb.blk (K1b.out : Blk w11.drew q 25 CS) (by omega) (fun h => absurd (gq _ h) (by omega))
    have K2c : Hid (Blk w12 (q + 1) 25 z5T) := hb.blk (K2b.out : Blk w11.drew (q + 1) 25 z5T) (by omega) (fun h => absurd (gq _ h) (by omega))
    have K8c : Hid (Blk w12 q8 25 [.int .i64 kr, .int .i64 nr, strT sr, lv8, .slice (some ⟨qr, 0, none⟩) N N]) := hb.blk (K8b.out : Blk w11.drew q8 25 [.int .i64 kr, .int .i64 nr, strT sr, lv8, .slice (some ⟨qr, 0, none⟩) N N]) (by omega) (fun h => absurd (gq _ h) (by omega))
    have KXc : Hid (Blk w12 qr 25 X) := hb.blk (KXb.out : Blk w11.drew qr 25 X) (by omega) (fun h => absurd (gq _ h) (by omega))
    have BXc : Hid (Blk w12 qx 25 ci) := hb.blk (BX.out : Blk w11.drew qx 25 ci) (by omega) (fun h => absurd (gq _ h) (by omega))
    have stL : Step (List.range (q + 2) ++ [q8, qr]) w11.drew (List.range (q + 2) ++ [q8, qr]) w12 := hb.step (Nat.le_refl _) (fun k hk => by have := gq k hk; simp; omega)
    have stC : Step (List.range (qr + 1)) w11.drew (List.range (qr + 1)) w12 := hb.step (Nat.le_refl _) (fun k hk => by have := gq k hk; simp; omega)
    have sz := hb.size
    have LVc : Hid (LvsOff (List.range (q + 2) ++ [q8, qr]) w12 lv8 r1.levels) := (LVb.out.step (Step.of_below (Below.refl _ _).drew (Nat.le_refl _))).step stL
    have TCc : Hid (TmCells (List.range (qr + 1)) w12 (xs ++ [y]) (ds ++ [cy])) := TmCells.snoc (hty.range (by omega)) (TmCells.step stC (TmCells.step (Step.of_below (Below.refl _ _).drew (Nat.le_refl _)) TCb.out))
    have CY5 := Lib.hid hty.len
    have CY1 := Lib.hid hty.one
    have IIc := Lib.hid hIy
    have S12 : Hid (qr + 1 ≤ w12.heap.size) := by rw [Hid]; omega
    refine .inl ⟨_, rfl, ⟨K8c.out, BXc.out⟩, ?_⟩
    clear hb hty hIy stL stC sz K1b K2b K8b KXb LVb TCb KEb IIb HCTb BX b8
    have HS2 : Blk w12 q8 25 [.int .i64 kr, .int .i64 nr, strT sr, lv8, .slice (some ⟨qr, 0, none⟩) N N] ∧ Blk w12 qx 25 ci := ⟨K8c.out, BXc.out⟩
    refine reg_now 7 (.pointer (some ⟨qr, 0 + 5 * i, none⟩)) (some 55) hQN HS2 (by kernel_rfl) (by kernel_rfl) (fun w' => exec_indexAt 23 (.tmp 49) (.tmp 50) (by kernel_rfl) _ _ _ (by kernel_rfl) (by kernel_rfl) (run_at_tm qr 0 N N i hlt w')) ?_
    refine reg_putM 8 (0 + 5 * i) 25 (.tmp 55) (.tmp 54) qr 25 X cy (by kernel_rfl) (by kernel_rfl) (by kernel_rfl) (by kernel_rfl) (by kernel_rfl) KXc.out (by have := LX.out; have := CY5.out; omega) (t5Size CY5.out) (by simpa using CY1.out) ?_
    intro w13 bw13 uw13
    refine ⟨⟨uw13.blk K8c.out (by omega), uw13.blk BXc.out (by omega)⟩, ?_⟩
    refine reg_done (by kernel_rfl) (hN _ _ ?_)
    generalize hact : Act.put _ none _ = act
    simp only [Act.put, sA, sC, sZ] at hact
    subst hact
    have NX : Hid ((splice X (0 + 5 * i) cy).length = 5 * N) := by rw [Hid, splice_length (by have := LX.out; have := CY5.out; omega)]; exact LX.out
    have NT : Hid ((splice X (0 + 5 * i) cy).take (5 * (i + 1)) = (ds ++ [cy]).flatten) := by
      have h1 := splice_take (X := X) (c := cy) (n := 0 + 5 * i) (by have := LX.out; have := CY5.out; omega)
      rw [CY5.out, Nat.zero_add, TX.out] at h1
      rw [Hid, Nat.zero_add, show 5 * (i + 1) = 5 * i + 5 by omega, h1]; simp
    have N1 : Hid (Blk w13 q 25 CS) := uw13.blk K1c.out (by omega)
    have N2 : Hid (Blk w13 (q + 1) 25 z5T) := uw13.blk K2c.out (by omega)
    have N8 : Hid (Blk w13 q8 25 [.int .i64 kr, .int .i64 nr, strT sr, lv8, .slice (some ⟨qr, 0, none⟩) N N]) := uw13.blk K8c.out (by omega)
    have NB : Hid (Blk w13 qr 25 (splice X (0 + 5 * i) cy)) := bw13
    have NL : Hid (LvsOff (List.range (q + 2) ++ [q8, qr]) w13 lv8 r1.levels) := LVc.out.step (Step.of_upd uw13 (by simp))
    have NC : Hid (TmCells (List.range (qr + 1)) w13 (xs ++ [y]) (ds ++ [cy])) := TmCells.step (Step.of_upd uw13 (List.mem_range.2 (by omega))) TCc.out
    have NE : Hid (Bel G q w w13) := KEc.out.upd uw13 (.inr (by omega)) (by have := S12.out; omega)
    have NI : Hid (I s2 w13) := HH.out.keep s2 w12 w13 IIc.out (by have := S12.out; omega) ((Bel.refl [] E w12).upd uw13 (.inr (by omega)) (by have := S12.out; omega))
    have NS : Hid (qr + 1 ≤ w13.heap.size) := by have := S12.out; have := uw13.size; rw [Hid]; omega
    have NR : Hid (rebTs g s1 d k N 0 (a.take (i + 1)) = some (s2, xs ++ [y])) := rebTs_more RB.out TK.out TL.out (by rw [hm.out, DV.out]; exact hry.out)
    have NXL : Hid ((xs ++ [y]).length = i + 1) := by rw [Hid, List.length_append, XL.out]; rfl
    clear bw13 uw13 K1c K2c K8c KXc BXc LVc TCc KEc IIc S12 RB TK TL XL TX LX HS HS2 CALL hQN hN hP b1 b2 b3 b4 b6 gq
    have bl := SA.out
    go_wp2
    go_roundw
    case rel => exact ⟨i + 1, splice X (0 + 5 * i) cy, ds ++ [cy], s2, xs ++ [y], by omega, by go_num, NR, NC, NXL, NX, NT, NB, NI, NE, N1, N2, N8, NL, NS⟩
    case measure => simp [intOf]; omega
set_option maxHeartbeats 4000000 in
theorem rebuilt_walk {σ : Type} {g : σ → Tm → Int → Option (σ × Tm)} {gf : FuncId} {lb : Array Value} {I : σ → World → Prop} {G : List Nat} {E : Nat} (H : Swap g gf lb I G E) (t : Tm) (cs : List Value) (w : World) (s : σ) (F : List Nat) (ht : TmAt F w t cs) (hF : ∀ k ∈ G, k ∈ F) (hE : E ≤ w.heap.size) (hI : I s w) (hs : SmT t) (hbd : BndT t) (hn : (nodesT t : Int) ≤ 1125899906842624) :
    Calls Try.prog 57 #[.agg cs.toArray, .func (.func gf) #[] lb] w fun e w' => Reb (rebT g s 0 t) I G w.heap.size w e w' := by
  have C5 := Lib.hid ht.len
  have HT := Lib.hid ht
  have HI := Lib.hid hI
  have HH := Lib.hid H
  have BDT := Lib.hid hbd
  obtain ⟨RT, hRT⟩ : ∃ y, Hid (rebT g s 0 t = y) := ⟨_, rfl⟩
  rw [hRT.out]
  obtain ⟨q, hq⟩ : ∃ q, Hid (w.heap.size = q) := ⟨_, rfl⟩
  rw [hq.out] at hE ⊢
  have GQ : Hid (∀ k ∈ G, k < q) := fun k hk => Nat.lt_of_lt_of_le (H.low k hk) hE
  clear ht hI H hbd
  go_enter Try.func57, Try.ntmps57
  go_upto_region 0 with (fail)
  refine lbeg (opsOf Try.f57 0) ?_
  refine lbox 0 25 (.tmp 0) (cs) (q) (some 2) hq ?_
  intro w1 bw1 bew1 hsw1
  refine lall 1 25 z5T (q + 1) (some 4) hsw1 ?_
  intro w2 bw2 bew2 hsw2
  refine ldn 2 ?_
  generalize hact : Act.put _ (some 4) _ = act
  simp only [Act.put, sA, sC, sZ] at hact
  subst hact
  have B1 : Hid (Blk w2 q 25 cs) := bw1.below bew2 (by omega)
  have B2 : Hid (Blk w2 (q + 1) 25 z5T) := bw2
  have BE : Hid (Below q w w2) := bew1.trans (bew2.mono (by omega))
  have S2 : Hid (w2.heap.size = q + 2) := hsw2
  clear bw1 bew1 hsw1 bw2 bew2 hsw2
  have CALL := rebins_walk HH.out t cs w2 s 0 F (HT.out.step (Step.of_below BE.out (by have := hq.out; omega))) hF (by have := S2.out; omega) (HH.out.keep s w w2 HI.out (by have := hq.out; omega) (Bel.of (BE.out.mono hE))) hs BDT.out (by omega)
  rw [hRT.out, S2.out] at CALL
  go_upto_region 1 with (fail)
  refine lbeg (opsOf Try.f57 1) ?_
  refine lrl 0 (cs) (some 5) 25 2 (q) 0 (B1.out).whole Try.underlying25 (t5Size C5.out) ?_
  refine lnow 1 (.func (.func gf) #[] lb) (some 6) ?_
  refine lin_callP 2 90 #[.agg cs.toArray, .int .i64 0, .func (.func gf) #[] lb] (some 7) _ (by kernel_rfl) (by kernel_rfl) (by kernel_rfl) CALL ?_
  rintro e w3 ⟨hb, hres⟩
  have KE : Hid (Bel G q w w3) := (Bel.of BE.out).trans (hb.mono (by omega))
  have K2 : Hid (Blk w3 (q + 1) 25 z5T) := hb.blk B2.out (by omega) (fun h => absurd (GQ.out _ h) (by omega))
  have S3 : Hid (q + 2 ≤ w3.heap.size) := by have := hb.size; have := S2.out; rw [Hid]; omega
  clear hb CALL
  obtain _ | ⟨s1, r⟩ := RT
  · obtain ⟨kk, rfl⟩ := hres
    exact .inr ⟨_, rfl, rfl, Reb.no KE.out rfl ⟨kk, rfl⟩⟩
  obtain ⟨⟨cr, rfl, htr, hIr⟩⟩ := hres
  refine .inl ⟨_, rfl, ?_⟩
  have CR5 := Lib.hid htr.len
  refine lin_put 3 25 (.tmp 4) (.tmp 7) (q + 1) _ (z5T) (cr) (by kernel_rfl) (by kernel_rfl) (by kernel_rfl) (by kernel_rfl) (by kernel_rfl) K2.out (htr.len.trans (rfl : z5T.length = 5).symm) (t5Size htr.len) (by simpa using htr.one) ?_
  intro w4 bw4 uw4
  refine ldn 4 ?_
  generalize hact : Act.put _ none _ = act
  simp only [Act.put, sA, sC, sZ] at hact
  subst hact
  go_wp2
  refine bodyPost_ret (v := .agg cr.toArray) ?_ rfl (Reb.yes (KE.out.upd uw4 (.inr (by omega)) (by have := S3.out; omega)) rfl rfl ((TmAt.step (Step.of_upd uw4 (List.mem_range.2 (by omega))) _ _ htr).range (by omega)) (HH.out.keep s1 w3 w4 hIr (by have := S3.out; omega) ((Bel.refl [] E w3).upd uw4 (.inr (by omega)) (by have := S3.out; omega))))
  exact results_cell_row (g := q + 1) (t := 25) (cs := cr.toArray) (fr := (0, 0)) Try.results57 _ _ _ rfl bw4 Try.underlying25 rfl (t5Size CR5.out)
end Go.Proofs.Ytndbpmkglddjjaa
