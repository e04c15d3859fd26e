/- A clone of a node without its parts: its levels lie in a row of its own. -/
import Derived.Test.YtndbpmkglddjjaaQGenT
import Derived.Test.YtndbpmkglddjjaaQMovA
namespace Go.Proofs.Ytndbpmkglddjjaa
open Go Go.RowKit
set_option maxRecDepth 100000
theorem RowL.low {m n : Nat} {w : World} {v : Value} {ls : List Lv} (h : RowL m w v ls) (hn : n ≤ m) : RowL n w v ls := by
  obtain ⟨⟨h1, h2⟩, h3⟩ := h
  refine ⟨⟨h1, ?_⟩, h3⟩
  rcases h2 with h2 | ⟨g, cap, cur, e1, e2, e3⟩
  · exact .inl h2
  · exact .inr ⟨g, cap, cur, e1, Nat.le_trans hn e2, e3⟩
set_option maxHeartbeats 8000000 in
theorem clone_leaf {F : List Nat} (k n : Int) (s : List UInt8) (ls : List Lv) (cs : List Value) (w : World) (ht : TmAt F w (.mk k n s ls []) cs) (hs : SmT (.mk k n s ls [])) : Calls Try.prog 35 #[.agg cs.toArray] w fun e w' => ∃ cs', e = .returned (.agg cs'.toArray) ∧ TmAt (List.range w.heap.size) w' (.mk k n s ls []) cs' ∧ Below w.heap.size w w' ∧ ∃ lv av, cs' = [.int .i64 k, .int .i64 n, strT s, lv, av] ∧ RowL w.heap.size w' lv ls := by
  obtain ⟨a, ha⟩ : ∃ a : List Tm, a = [] := ⟨_, rfl⟩
  rw [← ha] at ht hs ⊢
  obtain ⟨lv, av, rfl, h1, h2⟩ := ht.open
  obtain ⟨-, sl, sa, ss⟩ := hs.open
  dsimp only [Tm.kind, Tm.n, Tm.name, Tm.levels, Tm.args] at ht h1 h2 sl sa ss ⊢
  obtain ⟨la, lc, rfl⟩ := h1.slice
  obtain ⟨aa, ac, rfl⟩ := h2.slice
  have hr : reachBytes = 140737488351232 := rfl
  obtain ⟨L, hL⟩ : ∃ L, Hid (ls.length = L) := ⟨_, rfl⟩
  obtain ⟨N, hAN⟩ : ∃ N, Hid (a.length = N) := ⟨_, rfl⟩
  rw [hL.out] at sl h1 ht ⊢
  rw [hAN.out] at h2 ht ⊢
  rw [hr] at sl sa
  have H1 := Lib.hid h1
  have H2 := Lib.hid h2
  have CA := fun w' F' (h : TmsAt F' w' a (.slice aa N ac)) => cloneall_walk a (fun x hx => by rw [ha] at hx; cases hx) (.slice aa N ac) w' F' h ss sa
  have SL := Lib.hid sl
  obtain ⟨q, hq⟩ : ∃ q, Hid (w.heap.size = q) := ⟨_, rfl⟩
  rw [hq.out]
  clear ht h1 h2 ss hs sl sa
  go_enter Try.func35, Try.ntmps35
  go_upto_region 0 with (fail)
  refine lbeg (opsOf Try.f35 0) ?_
  refine lbox 0 25 (.tmp 0) ([.int .i64 k, .int .i64 n, strT s, .slice la L lc, .slice aa N ac]) (q) (some 1) hq ?_
  intro w1 bw1 bew1 hsw1
  refine lall 1 25 z5T (q + 1) (some 2) hsw1 ?_
  intro w2 bw2 bew2 hsw2
  refine ldn 2 ?_
  generalize hact : Act.put _ (some 2) _ = act
  simp only [Act.put, sA, sC, sZ] at hact
  subst hact
  have B1 : Hid (Blk w2 q 25 [.int .i64 k, .int .i64 n, strT s, .slice la L lc, .slice aa N ac]) := bw1.below bew2 (by omega)
  have B2 : Hid (Blk w2 (q + 1) 25 z5T) := bw2
  have BE : Hid (Below q w w2) := bew1.trans (bew2.mono (by omega))
  have S2 : Hid (w2.heap.size = q + 2) := hsw2
  clear bw1 bew1 hsw1 bw2 bew2 hsw2
  obtain ⟨lv, w3, hrun, RL, hb3⟩ := levels_new (H1.out.step (Step.of_below BE.out (by have := hq.out; omega))) hL.out SL.out
  go_upto_region 1 with (fail)
  refine lbeg (opsOf Try.f35 1) ?_
  refine lnow 0 (.pointer (some ⟨q, 3, none⟩)) (some 3) ?_
  refine lcl 1 (.slice la L lc) (some 4) 22 3 (q) 3 (B1.out.cell rfl) Try.underlying22 ?_
  refine lin_value 2 lv (some 5) w3 (by kernel_rfl) (by kernel_rfl) (exec_of _ _ (by kernel_rfl) hrun) ?_
  have B1b : Hid (Blk w3 q 25 [.int .i64 k, .int .i64 n, strT s, .slice la L lc, .slice aa N ac]) := B1.out.below hb3 B1.out.lt
  have B2b := Lib.hid (B2.out.below hb3 B2.out.lt)
  have BEb : Hid (Below q w w3) := BE.out.trans (hb3.mono (by have := S2.out; omega))
  rw [S2.out] at RL
  have S3 : Hid (q + 2 ≤ w3.heap.size) := by have := hb3.size; have := S2.out; rw [Hid]; omega
  have LV1 := slice_one RL.slice
  clear hrun hb3 B1 B2 BE S2
  refine lnow 3 (.pointer (some ⟨q, 3, none⟩)) (some 6) ?_
  refine lin_putF 4 3 22 (.tmp 6) (.tmp 5) q 25 [.int .i64 k, .int .i64 n, strT s, .slice la L lc, .slice aa N ac] lv (by kernel_rfl) (by kernel_rfl) (by kernel_rfl) (by kernel_rfl) (by kernel_rfl) B1b.out (by simp) sizeLvs LV1.1 LV1.2 ?_
  intro w4 bw4 uw4
  refine ldn 5 ?_
  generalize hact : Act.put _ none _ = act
  simp only [Act.put, sA, sC, sZ] at hact
  subst hact
  have D1 : Hid (Blk w4 q 25 [.int .i64 k, .int .i64 n, strT s, lv, .slice aa N ac]) := bw4
  have D2 : Hid (Blk w4 (q + 1) 25 z5T) := uw4.blk B2b.out (by omega)
  have DE : Hid (Below q w w4) := uw4.below BEb.out (Nat.le_refl _) (by have := S3.out; have := hq.out; have := BEb.out.size; omega)
  have DL : Hid (RowL (q + 2) w4 lv ls) := RowL.upd RL uw4 (by omega)
  have S4 : Hid (q + 2 ≤ w4.heap.size) := by have := S3.out; have := uw4.size; rw [Hid]; omega
  clear bw4 uw4 B1b B2b BEb RL S3 LV1
  go_upto_region 2 with (fail)
  refine lbeg (opsOf Try.f35 2) ?_
  refine lnow 0 (.pointer (some ⟨q, 4, none⟩)) (some 7) ?_
  refine lcl 1 (.slice aa N ac) (some 8) 23 7 (q) 4 (D1.out.cell rfl) Try.underlying23 ?_
  refine lcal 2 75 #[.slice aa N ac] (some 9) _ (CA w4 F (H2.out.step (Step.of_below DE.out (by have := hq.out; omega)))) ?_
  rintro e w5 ⟨av, rfl, hta, hb5⟩
  refine ⟨_, rfl, ?_⟩
  have E1 : Hid (Blk w5 q 25 [.int .i64 k, .int .i64 n, strT s, lv, .slice aa N ac]) := D1.out.below hb5 D1.out.lt
  have E2 := Lib.hid (D2.out.below hb5 D2.out.lt)
  have EE : Hid (Below q w w5) := DE.out.trans (hb5.mono (by have := S4.out; omega))
  have EL := Lib.hid (DL.out.below hb5)
  have S5 : Hid (q + 2 ≤ w5.heap.size) := by have := S4.out; have := hb5.size; rw [Hid]; omega
  have TA : Hid (TmsAt (List.range (q + 2)) w5 a av) := TmsAt.sub (fun k hk => .inl (List.mem_range.2 (by have := List.mem_range.1 hk; have := S4.out; omega))) a av hta
  obtain ⟨a1, a2, hav⟩ := hta.slice
  have AV1 := slice_one ⟨a1, _, a2, hav⟩
  clear hta hav hb5 D1 D2 DE DL S4 CA
  refine lnow 3 (.pointer (some ⟨q, 4, none⟩)) (some 10) ?_
  refine lin_putF 4 4 23 (.tmp 10) (.tmp 9) q 25 [.int .i64 k, .int .i64 n, strT s, lv, .slice aa N ac] av (by kernel_rfl) (by kernel_rfl) (by kernel_rfl) (by kernel_rfl) (by kernel_rfl) E1.out (by simp) sizeTms AV1.1 AV1.2 ?_
  intro w6 bw6 uw6
  refine ldn 5 ?_
  generalize hact : Act.put _ none _ = act
  simp only [Act.put, sA, sC, sZ] at hact
  subst hact
  have F1 : Hid (Blk w6 q 25 [.int .i64 k, .int .i64 n, strT s, lv, av]) := bw6
  have F2 : Hid (Blk w6 (q + 1) 25 z5T) := uw6.blk E2.out (by omega)
  have FE : Hid (Below q w w6) := uw6.below EE.out (Nat.le_refl _) (by have := EE.out.size; have := hq.out; omega)
  have S6 : Hid (q + 2 ≤ w6.heap.size) := by have := S5.out; have := uw6.size; rw [Hid]; omega
  have st : Step (List.range (q + 2)) w5 (List.range (q + 2)) w6 := Step.of_upd uw6 (List.mem_range.2 (by omega))
  have EL9 : Hid (RowL (q + 2) w6 lv ls) := RowL.upd EL.out uw6 (by omega)
  have FIN : Hid (TmAt (List.range (q + 2)) w6 (.mk k n s ls a) [.int .i64 k, .int .i64 n, strT s, lv, av]) := TmAt.mk (t := .mk k n s ls a) ((RowL.in EL.out).step st) (TmsAt.step st a av TA.out)
  obtain ⟨DS, hDS⟩ : ∃ x, Hid ([.int .i64 k, .int .i64 n, strT s, lv, av] = x) := ⟨_, rfl⟩
  rw [hDS.out] at FIN F1
  have DS5 : Hid (DS.length = 5) := FIN.out.len
  have ONE := Lib.hid FIN.out.one
  clear bw6 uw6 E1 E2 EE EL S5 TA AV1 st
  go_upto_region 3 with (fail)
  refine lbeg (opsOf Try.f35 3) ?_
  refine lrl 0 (DS) (some 11) 25 1 (q) 0 (F1.out).whole Try.underlying25 (t5Size DS5.out) ?_
  refine lin_put 1 25 (.tmp 2) (.tmp 11) (q + 1) _ (z5T) (DS) (by kernel_rfl) (by kernel_rfl) (by kernel_rfl) (by kernel_rfl) (by kernel_rfl) F2.out (DS5.out.trans (rfl : z5T.length = 5).symm) (t5Size DS5.out) (by simpa using ONE.out) ?_
  intro w9 bw9 uw9
  refine ldn 2 ?_
  generalize hact : Act.put _ none _ = act
  simp only [Act.put, sA, sC, sZ] at hact
  subst hact
  go_wp2
  refine bodyPost_ret (v := .agg DS.toArray) ?_ rfl ⟨DS, rfl, ?_, uw9.below FE.out (by omega) (by have := FE.out.size; have := hq.out; omega), lv, av, hDS.out.symm, (EL9.out).upd uw9 (by omega) |>.low (by omega)⟩
  · exact results_cell_row (g := q + 1) (t := 25) (cs := DS.toArray) (fr := (0, 0)) Try.results35 _ _ _ rfl bw9 Try.underlying25 rfl (t5Size DS5.out)
  · exact (TmAt.step (Step.of_upd uw9 (List.mem_range.2 (by omega))) _ _ FIN.out).range (by omega)
end Go.Proofs.Ytndbpmkglddjjaa
