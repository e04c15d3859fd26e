/- How many nodes a term has, by package term. -/
import Derived.Test.YtndbpmkglddjjaaQGenT
import Derived.Test.YtndbpmkglddjjaaQTrmJ
namespace Go.Proofs.Ytndbpmkglddjjaa
open Go Go.RowKit
set_option maxRecDepth 100000
def wsum (l : List (Tm × Int)) : Nat := (l.map fun x => 1 + x.1.levels.length).sum
theorem wsum_append (a b : List (Tm × Int)) : wsum (a ++ b) = wsum a + wsum b := by simp [wsum]
mutual
theorem wsum_walk : ∀ (t : Tm) (d : Int), wsum (walkT t d) = nodesT t
  | .mk k n s l a, d => by
    have h := wsum_walks a k d a.length 0
    rw [walkT, nodesT, ← h]
    simp [wsum, Tm.levels]
theorem wsum_walks : ∀ (ts : List Tm) (k d : Int) (N i : Nat), wsum (walkTs k d N i ts) = nodesTs ts
  | [], k, d, N, i => by simp [walkTs, nodesTs, wsum]
  | t :: ts, k, d, N, i => by rw [walkTs, nodesTs, wsum_append, wsum_walk t, wsum_walks ts]
end
def wN {G : List Nat} {w : World} (l : List (Nd G w)) : Nat := wsum (l.map Nd.pr)
theorem wN_snoc {G : List Nat} {w : World} (l : List (Nd G w)) (x : Nd G w) : wN (l ++ [x]) = wN l + (1 + x.t.levels.length) := by simp [wN, wsum, Nd.pr]
theorem wN_pre {G : List Nat} {w : World} {p l : List (Nd G w)} (h : p <+: l) : wN p ≤ wN l := by
  obtain ⟨z, rfl⟩ := h
  simp [wN, wsum_append]
theorem level_bound {t : Tm} (h : SmT t) : t.levels.length * 40 ≤ 140737488351232 := h.open.2.1
/-- A number in a block of one cell. -/
abbrev IntAt (w : World) (b : Nat) (z : Int) : Prop := Blk w b 3 [.int .i64 z]
theorem results_int {fn : Func} {p : Tmp} (h : fn.results = #[.cell p 3]) (tmps : Array Value) (w : World) (g : Nat) (z : Int) (hp : tmps.getD p undef = .pointer (some ⟨g, 0, none⟩)) (hc : IntAt w g z) : (results fn tmps).run Try.prog w = .ok (.int .i64 z) w :=
  results_cell1 h tmps w g _ hp (hc.cell rfl) _ Try.underlying3 rfl
theorem results_bool {fn : Func} {p : Tmp} (h : fn.results = #[.cell p 4]) (tmps : Array Value) (w : World) (g : Nat) (z : Bool) (hp : tmps.getD p undef = .pointer (some ⟨g, 0, none⟩)) (hc : Blk w g 4 [.bool z]) : (results fn tmps).run Try.prog w = .ok (.bool z) w :=
  results_cell1 h tmps w g _ hp (hc.cell rfl) _ Try.underlying4 rfl
section
variable {P : Program} {ops : Array Oper} {Q : Exit → Act → World → Prop} {S : World → Prop} {fuel : Nat} {listed : Array Bool} {a : Act} {w : World}
theorem reg_put1 (i : Nat) (ty : TypeId) (x y : Operand) (b : Nat) (t : TypeId) (u v : Value) (hi : (ops[i]?.isSome && (Region.ready .any ops listed == [i]) && Region.wanted (opAt ops i) (yielded ops a.tmps)) = true) (hd : (opAt ops i).dst = none)
    (ho : (opAt ops i).op = .store ty x y) (hx : a.eval x = .pointer (some ⟨b, 0, none⟩)) (hy : a.eval y = v) (hb : Blk w b t [u]) (hz : (P.info? ty).map (·.size) = some 1) (hv : v.cells = #[v]) (h1 : v.oneCell' = true)
    (h : ∀ w', Blk w' b t [v] → Upd b w w' → S w' ∧ wpAnyH P .any ops Q S fuel (listed.setIfInBounds i true) (a.put none undef) w') : wpAnyH P .any ops Q S (fuel + 1) listed a w := by
  obtain ⟨hS, hk⟩ := h (w.setCell ⟨b, 0, none⟩ v) (by simpa using hb.set 0 v) ((Upd.refl b w).setCell 0 v)
  exact reg_store i _ hi hd (exec_store_cell ty x y ho b 0 v hx hy t [u] hb (by simp) hz hv h1) hS hk
end
set_option maxHeartbeats 4000000 in
theorem count_walk {F : List Nat} (t : Tm) (cs : List Value) (w : World) (ht : TmAt F w t cs) (hs : SmT t) (hn : nodesT t ≤ 100000000000) : Calls Try.prog 31 #[.agg cs.toArray] w fun e w' => e = .returned (.int .i64 ((min (nodesT t) 3001 : Nat) : Int)) ∧ Below w.heap.size w w' := by
  obtain ⟨xs, hxs, hstops⟩ := nodes_stops [w.heap.size + 1, w.heap.size + 2] w t cs (TmAt.sub (fun k hk => Or.inr (by simp at hk; omega)) t cs ht) hs (by omega)
  have hsum : wN xs = nodesT t := by rw [wN, hxs, wsum_walk]
  have C5 := Lib.hid ht.len
  have C1 := Lib.hid ht.one
  clear ht
  obtain ⟨q, hq⟩ : ∃ q, w.heap.size = q := ⟨_, rfl⟩
  have HQ : Hid (w.heap.size = q) := hq
  revert hsum hstops hxs xs
  rw [hq]
  intro xs hxs hstops hsum
  have SUM := Lib.hid hsum
  have STOPS := Lib.hid hstops
  clear hsum hstops hxs hq
  obtain ⟨G, hGd⟩ : ∃ G, Hid (([q + 1, q + 2] : List Nat) = G) := ⟨_, rfl⟩
  revert STOPS SUM xs
  rw [hGd.out]
  intro xs SUM STOPS
  have M1 : Hid (q + 1 ∈ G) := by rw [Hid, ← hGd.out]; simp
  have M2 : Hid (q + 2 ∈ G) := by rw [Hid, ← hGd.out]; simp
  have GB : Hid (∀ g ∈ G, q ≤ g ∧ g < q + 3) := fun g hg => by rw [← hGd.out] at hg; simp at hg; omega
  clear hGd
  refine calls_of_marks Try.func31 rfl ?_
  simp only [Try.ntmps31, List.size_toArray, List.length_cons, List.length_nil, Nat.reduceAdd, Nat.reduceSub, Array.replicate_succ, Array.replicate_zero, List.push_toArray, List.append_toArray, List.nil_append, List.cons_append]
  go_upto_region 0 with (fail)
  refine lbeg (opsOf Try.f31 0) ?_
  refine lbox 0 25 (.tmp 0) (cs) (q) (some 1) HQ ?_
  intro w1 bw1 bew1 hsw1
  refine lin_alloc1 1 3 (.int .i64 0) (q + 1) (some 2) (by kernel_rfl) (by kernel_rfl) (by kernel_rfl) (by kernel_rfl) (by rfl) hsw1 ?_
  intro w2 bw2 bew2 hsw2
  refine ldn 2 ?_
  generalize hact : Act.put _ (some 2) _ = act
  simp only [Act.put, sA, sC, sZ] at hact
  subst hact
  go_upto_region 1 with (fail)
  refine lbeg (opsOf Try.f31 1) ?_
  refine lin_alloc1 0 3 (.int .i64 0) (q + 1 + 1) (some 3) (by kernel_rfl) (by kernel_rfl) (by kernel_rfl) (by kernel_rfl) (by rfl) hsw2 ?_
  intro w3 bw3 bew3 hsw3
  refine lin_put1 1 3 (.tmp 3) (Operand.const (.int .i64 0)) (q + 1 + 1) _ (.int .i64 0) (.int .i64 0) (by kernel_rfl) (by kernel_rfl) (by kernel_rfl) (by kernel_rfl) (by kernel_rfl) bw3 (by kernel_rfl) (by rfl) (by rfl) ?_
  intro w4 bw4 uw4
  refine ldn 2 ?_
  generalize hact : Act.put _ none _ = act
  simp only [Act.put, sA, sC, sZ] at hact
  subst hact
  have BE4 : Below q w w4 := uw4.below ((bew1.trans (bew2.mono (by omega))).trans (bew3.mono (by omega))) (by omega) (by have h1 := bew1.size; have h2 := bew2.size; have h3 := bew3.size; have := HQ.out; omega)
  have S4 : Hid (q + 1 + 1 + 1 ≤ w4.heap.size) := by have := uw4.size; have := hsw3.out; rw [Hid]; omega
  have B1 : Hid (Blk w4 q 25 cs) := uw4.blk ((bw1.below bew2 (by omega)).below bew3 (by omega)) (by omega)
  have B2 : Hid (IntAt w4 (q + 1) 0) := uw4.blk (bw2.below bew3 (by omega)) (by omega)
  have B3 : Hid (IntAt w4 (q + 2) 0) := bw4
  have BE := Lib.hid BE4
  clear bw1 bew1 hsw1 bw2 bew2 hsw2 bw3 bew3 hsw3 bw4 uw4 BE4
  go_upto_region 2 with (fail)
  refine lbeg (opsOf Try.f31 2) ?_
  refine lrl 0 (cs) (some 5) 25 1 (q) 0 (B1.out).whole Try.underlying25 (t5Size C5.out) ?_
  refine lcal 1 67 #[.agg cs.toArray] (some 6) _ (iter_walk cs w4) ?_
  rintro e w5 ⟨rfl, hb5, hbe5, hs5⟩
  refine ⟨_, rfl, ?_⟩
  refine ldn 2 ?_
  generalize hact : Act.put _ (some 6) _ = act
  simp only [Act.put, sA, sC, sZ] at hact
  subst hact
  obtain ⟨bt, hbt⟩ : ∃ bt, Hid (w4.heap.size = bt) := ⟨_, rfl⟩
  rw [hbt.out] at hb5 hbe5 hs5 S4 ⊢
  have L5 : Hid (q + 3 ≤ w5.heap.size) := by have := hs5.out; have := S4.out; rw [Hid]; omega
  have B51 : Hid (Blk w5 q 25 cs) := B1.out.below hbe5 (by have := S4.out; omega)
  have B52 : Hid (IntAt w5 (q + 1) 0) := B2.out.below hbe5 (by have := S4.out; omega)
  have B53 : Hid (IntAt w5 (q + 2) 0) := B3.out.below hbe5 (by have := S4.out; omega)
  have BE5 : Hid (Below q w w5) := BE.out.trans (hbe5.mono (by have := S4.out; omega))
  have B54 := Lib.hid hb5
  clear hb5 hbe5 hs5 S4 B1 B2 B3 BE
  go_wp2
  refine range_nodes G w w q bt xs (by kernel_rfl) (STOPS.out w5 bt B54.out (KeepC.of_below (by rw [HQ.out]; exact BE5.out)) (fun g hg => by have := GB.out g hg; have := L5.out; omega)) (KeepC.of_below (by rw [HQ.out]; exact BE5.out)) BE5.out (by have := L5.out; omega) (fun g hg => by have := GB.out g hg; have := L5.out; omega) (fun g hg => (GB.out g hg).1)
    (fun pre W => IntAt W (q + 1) 0 ∧ IntAt W (q + 2) ((wN pre : Nat) : Int) ∧ Hid (wN pre ≤ 3000)) (fun c pre W => c = .ret ∧ IntAt W (q + 1) 3001 ∧ Hid (3001 ≤ wN pre))
    (fun s A B row h hg hr => ⟨own_blk_any (β := Unit) _ _ _ _ () A B row h.1 hg hr, own_blk_any (β := Unit) _ _ _ _ () A B row h.2.1 hg hr, h.2.2⟩) (fun c s A B row h hg hr => ⟨h.1, own_blk_any (β := Unit) _ _ _ _ () A B row h.2.1 hg hr, h.2.2⟩)
    ⟨B52.out, B53.out, by rw [Hid]; simp [wN, wsum]⟩ (fun x nb => { tmps := #[.agg cs.toArray, .pointer (some ⟨q, 0, none⟩), .pointer (some ⟨q + 1, 0, none⟩), .pointer (some ⟨q + 1 + 1, 0, none⟩), .pointer (some ⟨nb, 0, none⟩), .agg cs.toArray, .func (.func 101) #[] #[.pointer (some ⟨bt, 0, none⟩)], .agg x.cs.toArray, .int .i64 x.d, undef, undef, undef, undef, undef, undef, undef], defers := [] }) ?_ ?_ ?_ ?_
  · intro l x W K hK
    obtain ⟨q2, hq2⟩ : ∃ q2, Hid (W.heap.size = q2) := ⟨_, rfl⟩
    rw [hq2.out] at hK
    refine rin_lin (opsOf Try.f31 3) (by kernel_rfl) (by kernel_rfl) (fun ⟨_, _, h⟩ => h) ?_
    refine lall 0 25 z5T (q2) (some 4) hq2 ?_
    intro wa bwa bewa hswa
    refine lin_put 1 25 (.tmp 4) (.tmp 7) (q2) _ (z5T) (x.cs) (by kernel_rfl) (by kernel_rfl) (by kernel_rfl) (by kernel_rfl) (by kernel_rfl) bwa (x.at_.len.trans (rfl : z5T.length = 5).symm) (t5Size x.at_.len) (by simpa using x.at_.one) ?_
    intro wb bwb uwb
    refine ldn 2 ?_
    generalize hact : Act.put _ none _ = act
    simp only [Act.put, sA, sC, sZ] at hact
    subst hact
    exact hK wb bwb (uwb.below bewa (Nat.le_refl _) (by have := bewa.size; have := hq2.out; omega))
  · rintro l pre x nb W ⟨hi1, hi2, hi3⟩ hnb hxb hxt hbl hnW hlen
    have sl := level_bound x.sm
    have X5 := Lib.hid x.at_.len
    have NB : Hid (nb ≠ q + 2 ∧ nb ≠ q + 1 ∧ q + 2 ≠ q + 1) := by have := L5.out; rw [Hid]; omega
    have WE := weight_walk x.t x.cs W.drew (hxt.below (Below.refl _ _).drew) x.sm
    have D1 : Hid (IntAt W.drew (q + 1) 0) := hi1
    have D2 : Hid (IntAt W.drew (q + 2) ((wN pre : Nat) : Int)) := hi2
    have D3 : Blk W.drew nb 25 x.cs := hxb
    have KD := Lib.hid (Keeps.drew G W)
    have HV := wN_snoc pre x
    obtain ⟨L, hL⟩ : ∃ L, Hid (x.t.levels.length = L) := ⟨_, rfl⟩
    rw [hL.out] at WE HV sl
    obtain ⟨v, hv⟩ : ∃ v, Hid (wN pre = v) := ⟨_, rfl⟩
    have HI3 : Hid (v ≤ 3000) := by rw [Hid, ← hv.out]; exact hi3
    rw [hv.out] at HV D2
    have HV2 := Lib.hid HV
    clear hi1 hi2 hi3 hxb hnb hxt hbl hnW hlen HV
    refine wpIn_block ?_
    refine wpIn_seq ?_
    refine rin_draw (opsOf Try.f31 4) (fun W' => Blk W' nb 25 x.cs) (by kernel_rfl) (by kernel_rfl) (by kernel_rfl) 5 (by kernel_rfl) ?_
    intro Q' hQN hN
    generalize W.drew = wr at D1 D2 D3 KD WE ⊢
    refine reg_nowIf 1 (.agg (x.cs).toArray) (some 10) hQN D3 (by kernel_rfl) (by kernel_rfl) (fun w' hw => exec_load_mid 25 (.tmp 4) (by kernel_rfl) (nb) 0 (by kernel_rfl) (x.cs) _ hw.whole Try.underlying25 rfl (t5Size X5.out)) ?_
    refine reg_lc 0 2 (.int .i64 (v : Int)) 9 11 68 #[.agg x.cs.toArray] _ D3 (fun w1 hb1 => D3.below hb1 D3.lt) (by kernel_rfl) (by kernel_rfl) (by kernel_rfl) (by decide) (by decide) (exec_load_cell 3 (.tmp 3) (by kernel_rfl) (q + 2) 0 (by kernel_rfl) _ (D2.out.cell rfl) _ Try.underlying3 rfl) (fun vj w1 hb1 => exec_load_cell 3 (.tmp 3) (by kernel_rfl) (q + 2) 0 (by kernel_rfl) _ ((D2.out.below hb1 D2.out.lt).cell rfl) _ Try.underlying3 rfl) (by kernel_rfl) (by kernel_rfl) (WE) ?_
    rintro e w6 ⟨rfl, hb6⟩
    refine ⟨hb6, _, rfl, ?_⟩
    have E1 := Lib.hid (D1.out.below hb6 D1.out.lt)
    have E2 := Lib.hid (D2.out.below hb6 D2.out.lt)
    have E3 := D3.below hb6 D3.lt
    have KE : Hid (Keeps G W w6) := KD.out.trans (Keeps.of_below hb6)
    clear hb6 D1 D2 D3 KD WE
    refine reg_now 3 (.int .i64 (IntKind.i64.wrap ((v : Int) + ((1 + L : Nat) : Int)))) (some 12) hQN E3 (by kernel_rfl) (by kernel_rfl) (fun w => by kernel_rfl) ?_
    rw [show IntKind.i64.wrap ((v : Int) + ((1 + L : Nat) : Int)) = ((v + (1 + L) : Nat) : Int) from (IntWalk.i64_in _ (by have := HI3.out; omega)).trans (by omega)]
    obtain ⟨v2, hv2⟩ : ∃ x, Hid (v + (1 + L) = x) := ⟨_, rfl⟩
    rw [hv2.out]
    rw [hv2.out] at HV2
    refine reg_put1 4 3 (.tmp 3) (.tmp 12) (q + 2) _ (.int .i64 (v : Int)) (.int .i64 (v2 : Int)) (by kernel_rfl) (by kernel_rfl) (by kernel_rfl) (by kernel_rfl) (by kernel_rfl) E2.out (by kernel_rfl) (by rfl) (by rfl) ?_
    intro w7 bw7 uw7
    refine ⟨uw7.blk E3 NB.out.1, ?_⟩
    refine reg_done (by kernel_rfl) (hN _ _ ?_)
    have F1 : Hid (IntAt w7 (q + 1) 0) := uw7.blk E1.out (by omega)
    have F2 : Hid (IntAt w7 (q + 2) (v2 : Int)) := bw7
    have KF : Hid (Keeps G W w7) := KE.out.upd uw7 (.inl M2.out)
    clear E1 E2 E3 KE bw7 uw7 HI3 hv2
    generalize hact : Act.put _ none _ = act
    simp only [Act.put, sA, sC, sZ] at hact
    subst hact
    refine then_normal ?_
    refine wpIn_seq ?_
    refine rin_lin (opsOf Try.f31 5) (by kernel_rfl) (by kernel_rfl) (fun ⟨_, _, h⟩ => h) ?_
    refine lcl 0 (.int .i64 (v2 : Int)) (some 13) 3 3 (q + 2) 0 (F2.out.cell rfl) Try.underlying3 ?_
    by_cases hgt : 3000 < v2
    · have rg : decide ((v2 : Int) > 3000) = true := by simp; omega
      refine lnow 1 (.bool (decide ((v2 : Int) > 3000))) (some 14) ?_
      rw [rg]
      refine ldn 2 ?_
      generalize hact : Act.put _ (some 14) _ = act
      simp only [Act.put, sA, sC, sZ] at hact
      subst hact
      refine then_normal ?_
      refine wpIn_cond_true (by kernel_rfl) ?_
      refine wpIn_seq ?_
      refine rin_lin (opsOf Try.f31 6) (by kernel_rfl) (by kernel_rfl) (fun ⟨_, _, h⟩ => h) ?_
      refine lin_put1 0 3 (.tmp 2) (Operand.const (.int .i64 3001)) (q + 1) _ (.int .i64 0) (.int .i64 3001) (by kernel_rfl) (by kernel_rfl) (by kernel_rfl) (by kernel_rfl) (by kernel_rfl) F1.out (by kernel_rfl) (by rfl) (by rfl) ?_
      intro w8 bw8 uw8
      refine ldn 1 ?_
      refine then_normal ?_
      refine wpIn_ret ?_
      exact ⟨KF.out.upd uw8 (.inl M1.out), rfl, bw8, by rw [Hid, HV2.out]; omega⟩
    · have rg : decide ((v2 : Int) > 3000) = false := by simp; omega
      refine lnow 1 (.bool (decide ((v2 : Int) > 3000))) (some 14) ?_
      rw [rg]
      refine ldn 2 ?_
      generalize hact : Act.put _ (some 14) _ = act
      simp only [Act.put, sA, sC, sZ] at hact
      subst hact
      refine then_normal ?_
      refine wpIn_cond_false (by kernel_rfl) ?_
      refine wpIn_skip ?_
      exact ⟨KF.out, F1.out, by rw [HV2.out]; exact F2.out, by rw [Hid, HV2.out]; omega⟩
  · rintro D W ⟨hi1, hi2, hi3⟩ hD hK hb
    rw [SUM.out] at hi2 hi3
    have HI2 := Lib.hid hi2
    have HD : Hid (q + 3 ≤ D) := by have := L5.out; rw [Hid]; omega
    have HK := Lib.hid hK
    have HB := Lib.hid hb
    have HI1 := Lib.hid hi1
    clear hi1 hi2 hD hK hb
    dsimp only [Act.marked]
    go_upto_region 7 with (fail)
    refine lbeg (opsOf Try.f31 7) ?_
    refine lcl 0 (.int .i64 ((nodesT t : Nat) : Int)) (some 15) 3 3 (q + 2) 0 (HI2.out.cell rfl) Try.underlying3 ?_
    refine lin_put1 1 3 (.tmp 2) (.tmp 15) (q + 1) _ (.int .i64 0) (.int .i64 ((nodesT t : Nat) : Int)) (by kernel_rfl) (by kernel_rfl) (by kernel_rfl) (by kernel_rfl) (by kernel_rfl) HI1.out (by kernel_rfl) (by rfl) (by rfl) ?_
    intro w9 bw9 uw9
    refine ldn 2 ?_
    generalize hact : Act.put _ none _ = act
    simp only [Act.put, sA, sC, sZ] at hact
    subst hact
    go_wp2
    have KD : w9.heap[D]? = some (.deferred (some [])) := (uw9.block D (Array.getElem?_eq_some_iff.1 HK.out).1 (by have := HD.out; omega)).trans HK.out
    refine ret_marks rfl KD (results_int rfl _ _ (q + 1) ((nodesT t : Nat) : Int) rfl (blk_put bw9 (by have := HD.out; omega))) ⟨by rw [show min (nodesT t) 3001 = nodesT t by have := hi3.out; omega], below_put (uw9.below HB.out (by omega) (by have := HB.out.size; have := HQ.out; omega)) (by have := HD.out; omega) (Array.getElem?_eq_some_iff.1 KD).1⟩
  · rintro D c pre W hp ⟨rfl, hi1, hi2⟩ hD hK hb
    have hle := wN_pre hp
    rw [SUM.out] at hle
    refine wp_ret ?_
    dsimp only [Act.marked]
    have HD : Hid (q + 3 ≤ D) := by have := L5.out; rw [Hid]; omega
    refine ret_marks rfl hK (results_int rfl _ _ (q + 1) 3001 rfl (blk_put hi1 (by have := HD.out; omega))) ⟨by rw [show min (nodesT t) 3001 = 3001 by have := hi2.out; omega]; rfl, below_put hb (by have := HD.out; omega) (Array.getElem?_eq_some_iff.1 hK).1⟩
end Go.Proofs.Ytndbpmkglddjjaa
