/- Terms as bytes: the document's term. -/
import Derived.Test.YteohjbggicchgaaKGenT
import Derived.Test.YteohjbggicchgaaKCodG
namespace Go.Proofs.Yteohjbggicchgaa
open Go Go.RowKit
set_option maxRecDepth 100000
theorem step_new {w w' : World} {v : Value} {xs : List Int} (h : RowB w.heap.size w' v xs) (hb : Below w.heap.size w w') : Step [] w (ownL v) w' :=
 ⟨hb.os, hb.tape, hb.output, hb.size, fun k hk _ => hb.block k hk, fun k hk => .inr (ownL_row h k hk).1⟩
set_option maxHeartbeats 8000000 in
theorem rterm_walk : ∀ (t : Tm) (cs : List Value) (w : World) (F : List Nat), TmAt F w t cs → Ok10 t → nodesT t ≤ 1000000000 → Calls Try.prog 38 #[.agg cs.toArray] w (Gives (termB t) w) := by
 refine Tm.byParts fun k n s ls a ih cs w F ht hok hb => ?_
 obtain ⟨O1, O2, O3, O4, ⟨O5, O6⟩, O7, O8⟩ := hok.open
 obtain ⟨N, rfl⟩ := Int.eq_ofNat_of_zero_le O5
 have LVT := Lib.hid (TmAt.lv _ _ ht)
 have TBL := Lib.hid (termB_len _ hok (TmAt.lv _ _ ht))
 rw [termB_head, nodesT] at TBL
 rw [termB_head]
 rw [nodesT] at hb
 obtain ⟨lv, av, rfl, h1, h2⟩ := ht.open
 dsimp only [Tm.kind, Tm.n, Tm.name, Tm.levels, Tm.args] at ht h1 h2 ⊢
 obtain ⟨la, lc, rfl⟩ := h1.slice
 obtain ⟨aa, ac, rfl⟩ := h2.slice
 obtain ⟨M, hM⟩ : ∃ M, Hid (ls.length = M) := ⟨_, rfl⟩
 obtain ⟨A, hA⟩ : ∃ A, Hid (a.length = A) := ⟨_, rfl⟩
 obtain ⟨NA, hNA⟩ : ∃ NA, Hid (nodesTs a = NA) := ⟨_, rfl⟩
 obtain ⟨H, hH⟩ : ∃ H, Hid (headB k N s M = H) := ⟨_, rfl⟩
 have HL : Hid (H.length ≤ 52) := by rw [Hid, ← hH.out]; exact headB_len (fun hk => by have := O6 hk; omega) O3
 rw [hM.out] at TBL O4 hb h1 ⊢
 rw [hA.out] at O8 h2 ⊢
 rw [hNA.out] at TBL hb
 rw [hH.out] at TBL ⊢
 obtain ⟨q, hq⟩ : ∃ q, Hid (w.heap.size = q) := ⟨_, rfl⟩
 have HB : Hid (1 + M + NA ≤ 1000000000) := hb
 have H1 := Lib.hid h1
 have H2 := Lib.hid h2
 have IH := Lib.hid ih
 have OK := Lib.hid O7
 have OR := Lib.hid O2
 have O46 := Lib.hid O6
 have O33 := Lib.hid O3
 have M4 := Lib.hid O4
 have A3 := Lib.hid O8
 clear hb h1 h2 ih O2 O3 O4 O6 O7 O8 ht hok
 obtain ⟨CS, hCS⟩ : ∃ x, Hid ([.int .i64 k, .int .i64 (N : Int), strT s, .slice la M lc, .slice aa A ac] = x) := ⟨_, rfl⟩
 rw [hCS.out]
 go_enter Try.func38, Try.ntmps38
 go_upto_region 0 with (fail)
 refine lbeg (opsOf Try.f38 0) ?_
 refine lbox 0 25 (.tmp 0) (CS) (q) (some 1) hq ?_
 intro w1 bw1 bew1 hsw1
 refine lnow 1 (.slice none 0 0) (some 2) ?_
 refine ldn 2 ?_
 generalize hact : Act.put _ (some 2) _ = act
 simp only [Act.put, sA, sC, sZ] at hact
 subst hact
 have BQ := Lib.hid bw1
 have BE : Hid (Below w.heap.size w w1) := by rw [Hid, hq.out]; exact bew1
 have LV1 : Hid (LvsOff F w1 (.slice la M lc) ls) := H1.out.step (Step.of_below BE.out (Nat.le_refl _))
 have TS1 : Hid (TmsAt F w1 a (.slice aa A ac)) := TmsAt.below H2.out BE.out
 have S1 : Hid (q < w1.heap.size) := by have := hsw1.out; rw [Hid]; omega
 clear bw1 bew1 hsw1 H1 H2
 go_upto_region 1 with (fail)
 refine lbeg (opsOf Try.f38 1) ?_
 refine lnow 0 (.pointer (some ⟨q, 0, none⟩)) (some 6) ?_
 refine lcl 1 (.int .i64 k) (some 7) 3 6 (q) 0 (BQ.out.cell (by rw [← hCS.out]; rfl)) Try.underlying3 ?_
 refine lnow 2 (.int .u8 (IntKind.u8.wrap k)) (some 8) ?_
 rw [wrapI8]
 refine lin_new 3 (some 9) [k % 256] 1 rfl (by decide) (by kernel_rfl) (by kernel_rfl) (by kernel_rfl) ?_
 intro v2 w2 r2 b2 _ _
 refine lnow 4 (v2) (some 3) ?_
 refine ldn 5 ?_
 generalize hact : Act.put _ (some 3) _ = act
 simp only [Act.put, sA, sC, sZ] at hact
 subst hact
 have RB : Hid (RowB q w2 v2 [k % 256]) := r2.mono (by have := S1.out; omega)
 have ST := Lib.hid (step_new r2 b2)
 clear r2 b2
 have BQ2 : Hid (Blk w2 q 25 CS) := ST.out.blk BQ.out (by simp)
 have k0 : w2.cell? ⟨q, 0, none⟩ = some (.int .i64 k) := BQ2.out.cell (by rw [← hCS.out]; rfl)
 go_upto_region 2 with (fail)
 go_cut [17] from 6 (fun sv wc => sv = .bool (decide (k = 1 ∨ k = 9)) ∧ w2 = wc)
 case first =>
  by_cases ha : k = 1
  ·skip
   refine lbeg (opsOf Try.f38 2) ?_
   refine lnow 0 (.pointer (some ⟨q, 0, none⟩)) (some 10) ?_
   refine lcl 1 (.int .i64 k) (some 11) 3 10 (q) 0 (k0) Try.underlying3 ?_
   refine lnowP 2 (.bool true) (some 12) (exec_eqli_yes ha (by kernel_rfl)) ?_
   refine lnow 3 (.bool true) (some 13) ?_
   refine lpas 4 (some 14) ?_
   refine lpas 5 (some 15) ?_
   refine lpas 6 (some 16) ?_
   refine lnow 7 (.bool true) (some 17) ?_
   refine ldn 8 ?_
   generalize hact : Act.put _ (some 17) _ = act
   simp only [Act.put, sA, sC, sZ] at hact
   subst hact
   go_wp2
   go_meet
   case rel => exact ⟨by rw [decide_eq_true (.inl ha)], rfl⟩
  refine lbeg (opsOf Try.f38 2) ?_
  refine lnow 0 (.pointer (some ⟨q, 0, none⟩)) (some 10) ?_
  refine lcl 1 (.int .i64 k) (some 11) 3 10 (q) 0 (k0) Try.underlying3 ?_
  refine lnowP 2 (.bool false) (some 12) (exec_eqli ha (by kernel_rfl)) ?_
  refine lnow 3 (.bool false) (some 13) ?_
  refine lnow 4 (.pointer (some ⟨q, 0, none⟩)) (some 14) ?_
  refine lcl 5 (.int .i64 k) (some 15) 3 14 (q) 0 (k0) Try.underlying3 ?_
  refine lnow 6 (.bool (decide (k = 9))) (some 16) ?_
  refine lnow 7 (.bool (decide (k = 9))) (some 17) ?_
  refine ldn 8 ?_
  generalize hact : Act.put _ (some 17) _ = act
  simp only [Act.put, sA, sC, sZ] at hact
  subst hact
  go_wp2
  go_meet
  case rel => exact ⟨by by_cases hb2 : k = 9; rw [decide_eq_true hb2, decide_eq_true (.inr hb2)]; rw [decide_eq_false hb2, decide_eq_false (fun e => e.elim ha hb2)], rfl⟩
 obtain ⟨rfl, rfl⟩ := hcut
 clear k0
 obtain ⟨HA, hHA⟩ : ∃ y, Hid ((k % 256) :: (if k = 1 ∨ k = 9 then numB N else []) = y) := ⟨_, rfl⟩
 have HAL : Hid (HA.length ≤ 10) := by rw [Hid, ← hHA.out, List.length_cons]; split; have := numB_len N (by have := O46.out ‹_›; omega); omega; simp
 go_upto_if 17 with (fail)
 go_cut [3] from 6 (fun s0 wc => ∃ v0, v0 = s0 ∧ HeadC q (.slice none 0 0) w1 (HA) v0 wc)
 case first =>
  by_cases hk : k = 1 ∨ k = 9
  rotate_left
  ·skip
   have EH : HA = [k % 256] := by rw [← hHA.out, if_neg hk]
   rw [decide_eq_false hk]
   have RH : HeadC q (.slice none 0 0) w1 (HA) v2 w2 := ⟨by rw [EH]; exact RB.out, ST.out⟩
   go_wp2
   go_meet
   case rel => exact ⟨_, rfl, RH⟩
  have EH : HA = [k % 256] ++ numB N := by rw [← hHA.out, if_pos hk]; rfl
  rw [decide_eq_true hk]
  have NB := O46.out hk
  go_upto_region 3 with (fail)
  refine lbeg (opsOf Try.f38 3) ?_
  refine lnow 0 (v2) (some 18) ?_
  refine lnow 1 (.pointer (some ⟨q, 1, none⟩)) (some 19) ?_
  refine lcl 2 (.int .i64 (N : Int)) (some 20) 3 19 (q) 1 (BQ2.out.cell (by rw [← hCS.out]; rfl)) Try.underlying3 ?_
  refine lcal 3 32 #[.int .i64 (N : Int)] (some 21) _ (rnum_walk N w2 (by omega)) ?_
  rintro e w3 ⟨v3, rfl, r3, b3⟩
  refine ⟨_, rfl, ?_⟩
  have M3 : q ≤ w2.heap.size := by have := S1.out; have := ST.out.size; omega
  refine lin_app 4 (some 22) v2 v3 [k % 256] (numB N) q (RB.out.below b3) r3.in r3.nilok (by have := numB_len N (by omega); simp; omega) (Nat.le_trans M3 b3.size) (by kernel_rfl) (by kernel_rfl) (by kernel_rfl) ?_
  intro v4 w4 r4 s4
  refine lnow 5 (v4) (some 3) ?_
  refine ldn 6 ?_
  generalize hact : Act.put _ (some 3) _ = act
  simp only [Act.put, sA, sC, sZ] at hact
  subst hact
  have RB := Lib.hid r4
  have ST := Lib.hid ((ST.out.on b3).trans s4)
  clear r3 b3 r4 s4 BQ2 M3
  have RH : HeadC q (.slice none 0 0) w1 (HA) v4 w4 := ⟨by rw [EH]; exact RB.out, ST.out⟩
  go_wp2
  go_meet
  case rel => exact ⟨_, rfl, RH⟩
 clear RB ST BQ2
 obtain ⟨v5, rfl, hcut⟩ := hcut
 have RB := Lib.hid hcut.row
 have ST := Lib.hid hcut.st
 clear hcut
 have BQ2 : Hid (Blk wc q 25 CS) := ST.out.blk BQ.out (by simp [ownL_nil])
 have k0 : wc.cell? ⟨q, 0, none⟩ = some (.int .i64 k) := BQ2.out.cell (by rw [← hCS.out]; rfl)
 obtain ⟨w5, hw5⟩ : ∃ y, y = wc := ⟨_, rfl⟩
 rw [← hw5] at RB ST BQ2 k0 ⊢
 clear hw5
 go_upto_region 4 with (fail)
 go_cut [30] from 6 (fun sv wc => sv = .bool (decide (k = 4 ∨ k = 9)) ∧ w5 = wc)
 case first =>
  by_cases ha : k = 4
  ·skip
   refine lbeg (opsOf Try.f38 4) ?_
   refine lnow 0 (.pointer (some ⟨q, 0, none⟩)) (some 23) ?_
   refine lcl 1 (.int .i64 k) (some 24) 3 23 (q) 0 (k0) Try.underlying3 ?_
   refine lnowP 2 (.bool true) (some 25) (exec_eqli_yes ha (by kernel_rfl)) ?_
   refine lnow 3 (.bool true) (some 26) ?_
   refine lpas 4 (some 27) ?_
   refine lpas 5 (some 28) ?_
   refine lpas 6 (some 29) ?_
   refine lnow 7 (.bool true) (some 30) ?_
   refine ldn 8 ?_
   generalize hact : Act.put _ (some 30) _ = act
   simp only [Act.put, sA, sC, sZ] at hact
   subst hact
   go_wp2
   go_meet
   case rel => exact ⟨by rw [decide_eq_true (.inl ha)], rfl⟩
  refine lbeg (opsOf Try.f38 4) ?_
  refine lnow 0 (.pointer (some ⟨q, 0, none⟩)) (some 23) ?_
  refine lcl 1 (.int .i64 k) (some 24) 3 23 (q) 0 (k0) Try.underlying3 ?_
  refine lnowP 2 (.bool false) (some 25) (exec_eqli ha (by kernel_rfl)) ?_
  refine lnow 3 (.bool false) (some 26) ?_
  refine lnow 4 (.pointer (some ⟨q, 0, none⟩)) (some 27) ?_
  refine lcl 5 (.int .i64 k) (some 28) 3 27 (q) 0 (k0) Try.underlying3 ?_
  refine lnow 6 (.bool (decide (k = 9))) (some 29) ?_
  refine lnow 7 (.bool (decide (k = 9))) (some 30) ?_
  refine ldn 8 ?_
  generalize hact : Act.put _ (some 30) _ = act
  simp only [Act.put, sA, sC, sZ] at hact
  subst hact
  go_wp2
  go_meet
  case rel => exact ⟨by by_cases hb2 : k = 9; rw [decide_eq_true hb2, decide_eq_true (.inr hb2)]; rw [decide_eq_false hb2, decide_eq_false (fun e => e.elim ha hb2)], rfl⟩
 obtain ⟨rfl, rfl⟩ := hcut
 clear k0
 obtain ⟨HC, hHC⟩ : ∃ y, Hid (HA ++ (if k = 4 ∨ k = 9 then textB s else []) = y) := ⟨_, rfl⟩
 have HCL : Hid (HC.length ≤ 51) := by rw [Hid, ← hHC.out, List.length_append]; have := HAL.out; split; have := O33.out ‹_›; have := textB_len s (by omega); omega; simp; omega
 go_upto_if 30 with (fail)
 go_cut [3] from 6 (fun s0 wc => ∃ v0, v0 = s0 ∧ HeadC q (.slice none 0 0) w1 (HC) v0 wc)
 case first =>
  by_cases hk : k = 4 ∨ k = 9
  rotate_left
  ·skip
   have EH : HC = HA := by rw [← hHC.out, if_neg hk, List.append_nil]
   rw [decide_eq_false hk]
   have RH : HeadC q (.slice none 0 0) w1 (HC) v5 w5 := ⟨by rw [EH]; exact RB.out, ST.out⟩
   go_wp2
   go_meet
   case rel => exact ⟨_, rfl, RH⟩
  have EH : HC = HA ++ textB s := by rw [← hHC.out, if_pos hk]
  rw [decide_eq_true hk]
  have SB := O33.out hk
  go_upto_region 5 with (fail)
  refine lbeg (opsOf Try.f38 5) ?_
  refine lnow 0 (v5) (some 31) ?_
  refine lnow 1 (.pointer (some ⟨q, 2, none⟩)) (some 32) ?_
  refine lcl 2 (strT s) (some 33) 9 32 (q) 2 (BQ2.out.cell (by rw [← hCS.out]; rfl)) Try.underlying9 ?_
  refine lcal 3 41 #[strT s] (some 34) _ (rtext_walk s w5 (by omega)) ?_
  rintro e w6 ⟨v6, rfl, r6, b6⟩
  refine ⟨_, rfl, ?_⟩
  have M3 : q ≤ w5.heap.size := by have := S1.out; have := ST.out.size; omega
  refine lin_app 4 (some 35) v5 v6 HA (textB s) q (RB.out.below b6) r6.in r6.nilok (by have := HAL.out; have := textB_len s (by omega); omega) (Nat.le_trans M3 b6.size) (by kernel_rfl) (by kernel_rfl) (by kernel_rfl) ?_
  intro v7 w7 r7 s7
  refine lnow 5 (v7) (some 3) ?_
  refine ldn 6 ?_
  generalize hact : Act.put _ (some 3) _ = act
  simp only [Act.put, sA, sC, sZ] at hact
  subst hact
  have RB := Lib.hid r7
  have ST := Lib.hid ((ST.out.on b6).trans s7)
  clear r6 b6 r7 s7 BQ2 M3
  have RH : HeadC q (.slice none 0 0) w1 (HC) v7 w7 := ⟨by rw [EH]; exact RB.out, ST.out⟩
  go_wp2
  go_meet
  case rel => exact ⟨_, rfl, RH⟩
 clear RB ST BQ2
 obtain ⟨v8, rfl, hcut⟩ := hcut
 have RB := Lib.hid hcut.row
 have ST := Lib.hid hcut.st
 clear hcut
 have BQ2 : Hid (Blk wc q 25 CS) := ST.out.blk BQ.out (by simp [ownL_nil])
 obtain ⟨w8, hw8⟩ : ∃ y, y = wc := ⟨_, rfl⟩
 rw [← hw8] at RB ST BQ2 ⊢
 clear hw8
 go_upto_region 6 with (fail)
 refine lbeg (opsOf Try.f38 6) ?_
 refine lnow 0 (.pointer (some ⟨q, 0, none⟩)) (some 36) ?_
 refine lcl 1 (.int .i64 k) (some 37) 3 36 (q) 0 (BQ2.out.cell (by rw [← hCS.out]; rfl)) Try.underlying3 ?_
 refine lnow 2 (.bool (decide (k = 4))) (some 38) ?_
 refine ldn 3 ?_
 generalize hact : Act.put _ (some 38) _ = act
 simp only [Act.put, sA, sC, sZ] at hact
 subst hact
 have HE : Hid (H = HC ++ (if k = 4 then [((M % 256 : Nat) : Int)] else [])) := by rw [Hid, ← hH.out, ← hHC.out, ← hHA.out, headB]; simp only [List.cons_append, List.append_assoc]
 go_upto_if 38 with (fail)
 go_cut [3] from 6 (fun s0 wc => ∃ v0, v0 = s0 ∧ HeadC q (.slice none 0 0) w1 (H) v0 wc)
 case first =>
  by_cases hk : k = 4
  rotate_left
  ·skip
   have EH : H = HC := by rw [HE.out, if_neg hk, List.append_nil]
   rw [decide_eq_false hk]
   have RH : HeadC q (.slice none 0 0) w1 (H) v8 w8 := ⟨by rw [EH]; exact RB.out, ST.out⟩
   go_wp2
   go_meet
   case rel => exact ⟨_, rfl, RH⟩
  have EH : H = HC ++ [((M % 256 : Nat) : Int)] := by rw [HE.out, if_pos hk]
  rw [decide_eq_true hk]
  have M3 : q ≤ w8.heap.size := by have := S1.out; have := ST.out.size; omega
  go_upto_region 7 with (fail)
  refine lbeg (opsOf Try.f38 7) ?_
  refine lnow 0 (v8) (some 39) ?_
  refine lnow 1 (.pointer (some ⟨q, 3, none⟩)) (some 40) ?_
  refine lcl 2 (.slice la M lc) (some 41) 22 40 (q) 3 (BQ2.out.cell (by rw [← hCS.out]; rfl)) Try.underlying22 ?_
  refine lnow 3 (.int .i64 (M : Int)) (some 42) ?_
  refine lnow 4 (.int .u8 (IntKind.u8.wrap (M : Int))) (some 43) ?_
  rw [wrapU8]
  refine lin_byte1 5 (some 44) (some 45) (((M % 256 : Nat) : Int)) (v8) (HC) (q) RB.out (by have := HCL.out; omega) (M3) (by kernel_rfl) (by kernel_rfl) (by kernel_rfl) (fun _ => by kernel_rfl) (by kernel_rfl) (fun _ => by kernel_rfl) ?_
  intro q9 v9 w9 rw9 sw9
  refine lnow 7 (v9) (some 3) ?_
  refine ldn 8 ?_
  generalize hact : Act.put _ (some 3) _ = act
  simp only [Act.put, sA, sC, sZ] at hact
  subst hact
  have RB := Lib.hid rw9
  have ST := Lib.hid (ST.out.trans sw9)
  clear rw9 sw9 BQ2 M3
  have RH : HeadC q (.slice none 0 0) w1 (H) v9 w9 := ⟨by rw [EH]; exact RB.out, ST.out⟩
  go_wp2
  go_meet
  case rel => exact ⟨_, rfl, RH⟩
 clear RB ST BQ2
 obtain ⟨v10, rfl, hcut⟩ := hcut
 have RB := Lib.hid hcut.row
 have ST := Lib.hid hcut.st
 clear hcut HE HCL HAL
 go_upto_region 8 with (fail)
 refine lbeg (opsOf Try.f38 8) ?_
 refine lnow 0 (.int .i64 0) (some 4) ?_
 refine ldn 1 ?_
 generalize hact : Act.put _ (some 4) _ = act
 simp only [Act.put, sA, sC, sZ] at hact
 subst hact
 go_wp2
 go_loopw [3, 4] (fun vv iv wr => ∃ (i : Nat) (v' : Value), i ≤ M ∧ iv = .int .i64 (i : Int) ∧ v' = vv ∧ Hid (RowB q wr v' (H ++ lvsB (ls.take i))) ∧ Hid (Step [] w1 (ownL v') wr)) (fun _ iv _ => M - (intOf iv).toNat)
 case atStart => exact ⟨0, _, Nat.zero_le _, rfl, rfl, by rw [List.take_zero, lvsB, List.map_nil, List.flatten_nil, List.append_nil]; exact RB, ST⟩
 case round =>
  clear RB ST
  obtain ⟨i, v', hi, rfl, rfl, RB, ST⟩ := hrel
  have MR : Hid (q ≤ wr.heap.size) := Nat.le_trans (Nat.le_of_lt S1.out) ST.out.size
  have BQ2 : Hid (Blk wr q 25 CS) := ST.out.blk BQ.out (by simp)
  by_cases hlt : i < M
  ·skip
   have c1 : (i : Int) < (M : Int) := by omega
   obtain ⟨x, hx⟩ : ∃ x, ls[i]? = some x := ⟨_, List.getElem?_eq_getElem (by rw [hM.out]; exact hlt)⟩
   obtain ⟨x4, pb, po, rfl, hpF, hpb, hrx⟩ := LV1.out.get hx
   have RX : Hid (wr.rangeAt pb (po + 5 * i) (ints .i64 x.zs)) := ST.out.range hpb (by simp) hrx
   have XR := OR.out x (List.mem_of_getElem? hx)
   have TK : Hid (ls.take (i + 1) = ls.take i ++ [x]) := by rw [Hid, List.take_add_one, hx]; rfl
   have LL : Hid ((lvsB (ls.take i)).length ≤ 20) := by have := lvsB_len (ls := ls.take i) (fun y hy => by have := LVT.out; rw [LvT] at this; exact this.1 y (List.mem_of_mem_take hy)); rw [List.length_take] at this; have := M4.out; rw [Hid]; omega
   have X4 := Lib.hid x4
   have XRH := Lib.hid XR
   clear hx hrx hpF hpb XR x4
   go_upto_region 9 with (fail)
   refine lbeg (opsOf Try.f38 9) ?_
   refine lnow 0 (.int .i64 (i : Int)) (some 46) ?_
   refine lnow 1 (.pointer (some ⟨q, 3, none⟩)) (some 47) ?_
   refine lcl 2 (.slice (some ⟨pb, po, none⟩) M lc) (some 48) 22 47 (q) 3 (BQ2.out.cell (by rw [← hCS.out]; rfl)) Try.underlying22 ?_
   refine lnow 3 (.int .i64 (M : Int)) (some 49) ?_
   refine lnow 4 (.bool (decide ((i : Int) < (M : Int)))) (some 50) ?_
   rw [decide_eq_true c1]
   refine ldn 5 ?_
   generalize hact : Act.put _ (some 50) _ = act
   simp only [Act.put, sA, sC, sZ] at hact
   subst hact
   go_upto_region 11 with (fail)
   refine lbeg (opsOf Try.f38 11) ?_
   refine lnow 0 (v') (some 53) ?_
   refine lnow 1 (.pointer (some ⟨q, 3, none⟩)) (some 54) ?_
   refine lcl 2 (.slice (some ⟨pb, po, none⟩) M lc) (some 55) 22 54 (q) 3 (BQ2.out.cell (by rw [← hCS.out]; rfl)) Try.underlying22 ?_
   refine lnow 3 (.int .i64 (i : Int)) (some 56) ?_
   refine lix 4 (.pointer (some ⟨pb, po + 5 * i, none⟩)) (some 57) 22 55 56 (run_at_lv pb po M lc i hlt _) ?_
   refine lrl 5 (ints .i64 x.zs) (some 58) 80 57 pb (po + 5 * i) RX.out Try.underlying80 (lvSize X4.out) ?_
   refine lcal 6 66 #[.agg (ints .i64 x.zs).toArray] (some 59) _ (rlevel_walk x X4.out XRH.out wr) ?_
   rintro e w5 ⟨v5, rfl, r5, b5⟩
   refine ⟨_, rfl, ?_⟩
   have LB := levelB_len X4.out
   refine lin_app 7 (some 60) v' v5 (H ++ lvsB (ls.take i)) (levelB x) q (RB.out.below b5) r5.in r5.nilok (by have := HL.out; have := LL.out; simp only [List.length_append]; omega) (Nat.le_trans MR.out b5.size) (by kernel_rfl) (by kernel_rfl) (by kernel_rfl) ?_
   intro v6 w6 r6 s6
   refine lnow 8 (v6) (some 3) ?_
   refine ldn 9 ?_
   generalize hact : Act.put _ (some 3) _ = act
   simp only [Act.put, sA, sC, sZ] at hact
   subst hact
   have RB5 : Hid (RowB q w6 v6 (H ++ lvsB (ls.take (i + 1)))) := by rw [Hid, TK.out, lvsB_snoc, ← List.append_assoc]; exact r6
   have ST5 := Lib.hid ((ST.out.on b5).trans s6)
   clear r5 b5 r6 s6 TK LB RX BQ2
   have m4 := M4.out
   go_wp2
   go_roundw
   case rel => exact ⟨i + 1, v6, by omega, by go_num, rfl, RB5, ST5⟩
   case measure => simp [intOf]; omega
  obtain rfl : i = M := by omega
  have c1 : ¬ ((i : Int) < (i : Int)) := by omega
  have TA : ls.take i = ls := List.take_of_length_le (by have := hM.out; omega)
  rw [TA] at RB
  have LVL : Hid ((lvsB ls).length = 5 * i) := by have := LVT.out; rw [LvT] at this; rw [Hid, lvsB_len this.1, hM.out]
  go_upto_region 9 with (fail)
  refine lbeg (opsOf Try.f38 9) ?_
  refine lnow 0 (.int .i64 (i : Int)) (some 46) ?_
  refine lnow 1 (.pointer (some ⟨q, 3, none⟩)) (some 47) ?_
  refine lcl 2 (.slice la i lc) (some 48) 22 47 (q) 3 (BQ2.out.cell (by rw [← hCS.out]; rfl)) Try.underlying22 ?_
  refine lnow 3 (.int .i64 (i : Int)) (some 49) ?_
  refine lnow 4 (.bool (decide ((i : Int) < (i : Int)))) (some 50) ?_
  rw [decide_eq_false c1]
  refine ldn 5 ?_
  generalize hact : Act.put _ (some 50) _ = act
  simp only [Act.put, sA, sC, sZ] at hact
  subst hact
  go_upto_region 12 with (fail)
  refine lbeg (opsOf Try.f38 12) ?_
  refine lnow 0 (.int .i64 0) (some 5) ?_
  refine ldn 1 ?_
  generalize hact : Act.put _ (some 5) _ = act
  simp only [Act.put, sA, sC, sZ] at hact
  subst hact
  clear BQ2 TA
  obtain ⟨wo, hwo⟩ : ∃ y, Hid (wr = y) := ⟨_, rfl⟩
  rw [hwo.out] at RB ST ⊢
  go_wp2
  go_loopw [3, 5] (fun vv jv wr => ∃ (j : Nat) (v' : Value), j ≤ A ∧ jv = .int .i64 (j : Int) ∧ v' = vv ∧ Hid (RowB q wr v' (H ++ lvsB ls ++ termsB (a.take j))) ∧ Hid (Step [] w1 (ownL v') wr)) (fun _ jv _ => A - (intOf jv).toNat)
  case atStart => exact ⟨0, _, Nat.zero_le _, rfl, rfl, by rw [List.take_zero, termsB, List.append_nil]; exact RB, ST⟩
  case round =>
   clear RB ST MR
   obtain ⟨j, v2', hj, rfl, rfl, RB, ST⟩ := hrel
   have MR : Hid (q ≤ wr.heap.size) := Nat.le_trans (Nat.le_of_lt S1.out) ST.out.size
   have BQ2 : Hid (Blk wr q 25 CS) := ST.out.blk BQ.out (by simp)
   by_cases hlt2 : j < A
   ·skip
    have c2 : (j : Int) < (A : Int) := by omega
    obtain ⟨x, pb, po, cx, hx, hxm, haa, hpF, hpb, -, hrx, htx⟩ := TS1.out.get hA.out hlt2
    subst haa
    have RX : Hid (wr.rangeAt pb (po + 5 * j) cx) := ST.out.range hpb (by simp) hrx
    have TX : Hid (TmAt (F ++ ownL v2') wr x cx) := TmAt.step (ST.out.wide (by simp)) _ _ htx
    have X5 := Lib.hid htx.len
    have TK : Hid (a.take (j + 1) = a.take j ++ [x]) := by rw [Hid, List.take_add_one, hx]; rfl
    have XO := Lib.hid (OK.out x hxm)
    have XL := Lib.hid (termB_len x XO.out (TmsAt_lv_mem TS1.out hxm))
    have SUM : Hid ((termsB (a.take j)).length + 60 * nodesT x ≤ 60 * NA) := by
     have e1 := termsB_len (ts := a.take j) (fun y hy => termB_len y (OK.out y (List.mem_of_mem_take hy)) (TmsAt_lv_mem TS1.out (List.mem_of_mem_take hy)))
     have e2 := nodesTs_app (a.take (j + 1)) (a.drop (j + 1))
     rw [List.take_append_drop, TK.out, nodesTs_app, nodesTs_cons, nodesTs, hNA.out] at e2
     rw [Hid]; omega
    have CALL := IH.out x hxm
    clear hx hrx hpF hpb htx hxm
    go_upto_region 13 with (fail)
    refine lbeg (opsOf Try.f38 13) ?_
    refine lnow 0 (.int .i64 (j : Int)) (some 61) ?_
    refine lnow 1 (.pointer (some ⟨q, 4, none⟩)) (some 62) ?_
    refine lcl 2 (.slice (some ⟨pb, po, none⟩) A ac) (some 63) 23 62 (q) 4 (BQ2.out.cell (by rw [← hCS.out]; rfl)) Try.underlying23 ?_
    refine lnow 3 (.int .i64 (A : Int)) (some 64) ?_
    refine lnow 4 (.bool (decide ((j : Int) < (A : Int)))) (some 65) ?_
    rw [decide_eq_true c2]
    refine ldn 5 ?_
    generalize hact : Act.put _ (some 65) _ = act
    simp only [Act.put, sA, sC, sZ] at hact
    subst hact
    go_upto_region 15 with (fail)
    refine lbeg (opsOf Try.f38 15) ?_
    refine lnow 0 (v2') (some 68) ?_
    refine lnow 1 (.pointer (some ⟨q, 4, none⟩)) (some 69) ?_
    refine lcl 2 (.slice (some ⟨pb, po, none⟩) A ac) (some 70) 23 69 (q) 4 (BQ2.out.cell (by rw [← hCS.out]; rfl)) Try.underlying23 ?_
    refine lnow 3 (.int .i64 (j : Int)) (some 71) ?_
    refine lix 4 (.pointer (some ⟨pb, po + 5 * j, none⟩)) (some 72) 23 70 71 (run_at_tm pb po A ac j hlt2 _) ?_
    refine lrl 5 cx (some 73) 25 72 pb (po + 5 * j) RX.out Try.underlying25 (t5Size X5.out) ?_
    refine lcal 6 38 #[.agg cx.toArray] (some 74) _ (CALL cx wr (F ++ ownL v2') TX.out XO.out (by have := HB.out; have := SUM.out; omega)) ?_
    rintro e w5 ⟨v5, rfl, r5, b5⟩
    refine ⟨_, rfl, ?_⟩
    refine lin_app 7 (some 75) v2' v5 (H ++ lvsB ls ++ termsB (a.take j)) (termB x) q (RB.out.below b5) r5.in r5.nilok (by have := HB.out; have := HL.out; have := LVL.out; have := SUM.out; have := XL.out; simp only [List.length_append]; omega) (Nat.le_trans MR.out b5.size) (by kernel_rfl) (by kernel_rfl) (by kernel_rfl) ?_
    intro v6 w6 r6 s6
    refine lnow 8 (v6) (some 3) ?_
    refine ldn 9 ?_
    generalize hact : Act.put _ (some 3) _ = act
    simp only [Act.put, sA, sC, sZ] at hact
    subst hact
    have RB5 : Hid (RowB q w6 v6 (H ++ lvsB ls ++ termsB (a.take (j + 1)))) := by rw [Hid, TK.out, termsB_append, termsB_one, ← List.append_assoc]; exact r6
    have ST5 := Lib.hid ((ST.out.on b5).trans s6)
    clear r5 b5 r6 s6 TK RX BQ2 CALL TX SUM
    have a3 := A3.out
    go_wp2
    go_roundw
    case rel => exact ⟨j + 1, v6, by omega, by go_num, rfl, RB5, ST5⟩
    case measure => simp [intOf]; omega
   obtain rfl : j = A := by omega
   have c2 : ¬ ((j : Int) < (j : Int)) := by omega
   have TA : a.take j = a := List.take_of_length_le (by have := hA.out; omega)
   rw [TA] at RB
   go_upto_region 13 with (fail)
   refine lbeg (opsOf Try.f38 13) ?_
   refine lnow 0 (.int .i64 (j : Int)) (some 61) ?_
   refine lnow 1 (.pointer (some ⟨q, 4, none⟩)) (some 62) ?_
   refine lcl 2 (.slice aa j ac) (some 63) 23 62 (q) 4 (BQ2.out.cell (by rw [← hCS.out]; rfl)) Try.underlying23 ?_
   refine lnow 3 (.int .i64 (j : Int)) (some 64) ?_
   refine lnow 4 (.bool (decide ((j : Int) < (j : Int)))) (some 65) ?_
   rw [decide_eq_false c2]
   refine ldn 5 ?_
   generalize hact : Act.put _ (some 65) _ = act
   simp only [Act.put, sA, sC, sZ] at hact
   subst hact
   go_upto_region 16 with (fail)
   refine lbeg (opsOf Try.f38 16) ?_
   refine lnow 0 (v2') (some 76) ?_
   refine lnow 1 (v2') (some 2) ?_
   refine ldn 2 ?_
   generalize hact : Act.put _ (some 2) _ = act
   simp only [Act.put, sA, sC, sZ] at hact
   subst hact
   have FIN : Hid (RowB q wr v2' (H ++ (lvsB ls ++ termsB a))) := by have := RB.out; rw [List.append_assoc] at this; exact this
   have STF : Hid (Below w.heap.size w wr) := BE.out.trans (ST.out.below.mono BE.out.size)
   clear RB ST TA BQ2
   go_wp2
   go_ret
   exact ⟨v2', rfl, FIN.out.mono (Nat.le_of_eq hq.out), STF.out⟩
end Go.Proofs.Yteohjbggicchgaa
