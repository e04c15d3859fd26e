/- Package move: replaced over its closure; Put. -/
import Derived.Test.YtndbpmkglddjjaaQGenT
import Derived.Test.YtndbpmkglddjjaaQMovE
namespace Go.Proofs.Ytndbpmkglddjjaa
open Go Go.RowKit
set_option maxRecDepth 100000
theorem replaced_swap {FA : List Nat} (xa : List Tm) (N : Nat) (aa : Option Addr) (ac : Nat) (ba bs : Nat) (w0 : World) (hf : ∀ x ∈ xa, FitT x) (hN2 : xa.length = N) (hN : N ≤ 2000000000000) (hne : ba ≠ bs ∧ bs ∈ FA) (hb : Blk w0 ba 23 [.slice aa N ac]) (hA : TmsAt FA w0 xa (.slice aa N ac)) (hbs : bs < w0.heap.size) :
    Swap (puN xa) 89 #[.pointer (some ⟨ba, 0, none⟩), .pointer (some ⟨bs, 0, none⟩)] (fun s w => Bel [bs] w0.heap.size w0 w ∧ IntAt w bs s ∧ 0 ≤ s ∧ s ≤ 3000) [bs] w0.heap.size where
  fn := enters_of Try.func89 (by kernel_rfl) rfl
  low := fun k hk => by simp at hk; omega
  keep := fun s w w' h hE hb => ⟨h.1.trans (hb.more (fun k hk => by cases hk)), hb.blk h.2.1 hbs (by simp), h.2.2⟩
  call := fun s t d cs w B ha hs hn hd ht hE hB hI _ => by
    show Calls Try.prog 89 #[.agg cs.toArray, .int .i64 d, .pointer (some ⟨ba, 0, none⟩), .pointer (some ⟨bs, 0, none⟩)] w _
    refine (replaced1_walk (FA := FA) xa N aa ac ba bs s t d cs w B hf hN2 hN hI.2.2 hne ha hn hd ht hB (hI.1.blk hb hb.lt (by simp; exact hne.1)) (TmsAt.step (hI.1.step (Nat.le_refl _) (fun k hk => by simp at hk; rw [hk]; exact hne.2)) _ _ hA) hI.2.1).mono fun e w' h => ?_
    obtain ⟨hb1, hr⟩ := h
    refine ⟨hb1, ?_⟩
    cases hg : puN xa s t d with
    | none => rw [hg] at hr; exact hr
    | some p =>
      obtain ⟨s', r⟩ := p
      rw [hg] at hr
      obtain ⟨⟨cs', h1, h2, h3⟩⟩ := hr
      exact ⟨cs', h1, h2, hI.1.trans (hb1.mono hE), h3⟩
set_option maxHeartbeats 4000000 in
theorem replaced_walk {F : List Nat} (xa : List Tm) (N : Nat) (aa : Option Addr) (ac : Nat) (t : Tm) (cs : List Value) (w : World) (ht : TmAt F w t cs) (hA : TmsAt F w xa (.slice aa N ac)) (hf : ∀ x ∈ xa, FitT x) (hN2 : xa.length = N) (hN : N ≤ 2000000000000) (hs : SmT t) (hbt : BndT t) (hn : nodesT t ≤ 3000) :
    Calls Try.prog 55 #[.agg cs.toArray, .slice aa N ac] w (Builds (puO xa t) w) := by
  have C5 := Lib.hid ht.len
  have HT := Lib.hid ht
  have HA := Lib.hid hA
  obtain ⟨q, hq⟩ : ∃ q, Hid (w.heap.size = q) := ⟨_, rfl⟩
  obtain ⟨R, hR⟩ : ∃ R, Hid (puO xa t = R) := ⟨_, rfl⟩
  rw [hR.out]
  have CT : cntT t = nodesT t := by unfold cntT; omega
  clear ht hA
  go_enter Try.func55, Try.ntmps55
  go_upto_region 0 with (fail)
  refine lbeg (opsOf Try.f55 0) ?_
  refine lbox 0 25 (.tmp 0) (cs) (q) (some 2) hq ?_
  intro w1 bw1 bew1 hsw1
  refine lin_box1 1 23 (.tmp 1) (.slice aa N ac) (q + 1) (some 3) (by kernel_rfl) (by kernel_rfl) (by kernel_rfl) (by kernel_rfl) (by rfl) hsw1 ?_
  intro w2 bw2 bew2 hsw2
  refine lall 2 25 z5T (q + 1 + 1) (some 4) hsw2 ?_
  intro w3 bw3 bew3 hsw3
  refine ldn 3 ?_
  generalize hact : Act.put _ (some 4) _ = act
  simp only [Act.put, sA, sC, sZ] at hact
  subst hact
  have B0 : Hid (Blk w3 q 25 cs) := (bw1.below bew2 (by omega)).below bew3 (by omega)
  have B1 : Hid (Blk w3 (q + 1) 23 [.slice aa N ac]) := bw2.below bew3 (by omega)
  have B2 : Hid (Blk w3 (q + 1 + 1) 25 z5T) := bw3
  have BE : Hid (Below q w w3) := (bew1.trans (bew2.mono (by omega))).trans (bew3.mono (by omega))
  have S3 : Hid (w3.heap.size = q + 3) := hsw3
  clear bw1 bew1 hsw1 bw2 bew2 hsw2 bw3 bew3 hsw3
  have CN := count_walk t cs w3 (HT.out.step (Step.of_below BE.out (by have := hq.out; omega))) hs (by omega)
  obtain ⟨m, hm⟩ : ∃ m : Int, Hid (((min (nodesT t) 3001 : Nat) : Int) = m) := ⟨_, rfl⟩
  rw [hm.out] at CN
  have hmo : m = cntT t := hm.out.symm
  go_upto_region 1 with (fail)
  refine lbeg (opsOf Try.f55 1) ?_
  refine lrl 0 (cs) (some 6) 25 2 (q) 0 (B0.out).whole Try.underlying25 (t5Size C5.out) ?_
  refine lcal 1 31 #[.agg cs.toArray] (some 7) _ (CN) ?_
  rintro e w4 ⟨rfl, hb4⟩
  refine ⟨_, rfl, ?_⟩
  refine lnow 2 (.int .i64 (IntKind.i64.wrap (3000 - m))) (some 8) ?_
  rw [show IntKind.i64.wrap (3000 - m) = 3000 - m from IntWalk.i64_in _ (by omega)]
  obtain ⟨q5, hq5⟩ : ∃ y, Hid (w4.heap.size = y) := ⟨_, rfl⟩
  have Q5 : q + 3 ≤ q5 := by have := hb4.size; have := S3.out; have := hq5.out; omega
  refine lin_alloc1 3 3 (.int .i64 0) (q5) (some 5) (by kernel_rfl) (by kernel_rfl) (by kernel_rfl) (by kernel_rfl) (by rfl) hq5 ?_
  intro w5 bw5 bew5 hsw5
  refine lin_put1 4 3 (.tmp 5) (.tmp 8) (q5) _ (.int .i64 0) (.int .i64 (3000 - m)) (by kernel_rfl) (by kernel_rfl) (by kernel_rfl) (by kernel_rfl) (by kernel_rfl) bw5 (by kernel_rfl) (by rfl) (by rfl) ?_
  intro w6 bw6 uw6
  refine ldn 5 ?_
  generalize hact : Act.put _ none _ = act
  simp only [Act.put, sA, sC, sZ] at hact
  subst hact
  have kp : Below q5 w4 w6 := uw6.below bew5 (Nat.le_refl _) (by have := bew5.size; have := hq5.out; omega)
  have D0 : Hid (Blk w6 q 25 cs) := (B0.out.below hb4 B0.out.lt).below kp (by omega)
  have D1 : Hid (Blk w6 (q + 1) 23 [.slice aa N ac]) := (B1.out.below hb4 B1.out.lt).below kp (by omega)
  have D2 : Hid (Blk w6 (q + 1 + 1) 25 z5T) := (B2.out.below hb4 B2.out.lt).below kp (by omega)
  have D5 : Hid (IntAt w6 q5 (3000 - m)) := bw6
  have DE : Hid (Below q w w6) := (BE.out.trans (hb4.mono (by have := S3.out; omega))).trans (kp.mono (by omega))
  have S6 : Hid (q5 < w6.heap.size) := bw6.lt
  clear hb4 bw5 bew5 hsw5 bw6 uw6 kp B0 B1 B2 BE CN
  have TA : Hid (TmsAt (F ++ [q5]) w6 xa (.slice aa N ac)) := TmsAt.step (Step.of_below DE.out (by have := hq.out; omega)) _ _ (TmsAt.sub (fun k hk => (List.mem_append.1 hk).imp id (fun h => by have := hq.out; simp at h; omega)) _ _ HA.out)
  have TT6 : Hid (TmAt (F ++ [q5]) w6 t cs) := TmAt.step (Step.of_below DE.out (by have := hq.out; omega)) _ _ (TmAt.sub (fun k hk => (List.mem_append.1 hk).imp id (fun h => by have := hq.out; simp at h; omega)) _ _ HT.out)
  have CALL := rebuilt_walk (replaced_swap (FA := F ++ [q5]) xa N aa ac (q + 1) q5 w6 hf hN2 hN ⟨by omega, by simp⟩ D1.out TA.out S6.out) t cs w6 (3000 - m) (F ++ [q5]) TT6.out (fun k hk => by simp at hk; simp [hk]) (Nat.le_refl _) ⟨Bel.refl _ _ _, D5.out, by omega, by omega⟩ hs hbt (by omega)
  obtain ⟨RT, hRT⟩ : ∃ y, Hid (rebT (puN xa) (3000 - m) 0 t = y) := ⟨_, rfl⟩
  have SO : Hid (R = RT.map (·.2)) := hR.out.symm.trans (by unfold puO; rw [← hmo, hRT.out])
  rw [hRT.out] at CALL
  go_upto_region 2 with (fail)
  refine lbeg (opsOf Try.f55 2) ?_
  refine lrl 0 (cs) (some 9) 25 2 (q) 0 (D0.out).whole Try.underlying25 (t5Size C5.out) ?_
  refine lnow 1 (.func (.func 89) #[] #[.pointer (some ⟨q + 1, 0, none⟩), .pointer (some ⟨q5, 0, none⟩)]) (some 10) ?_
  refine lin_callP 2 57 #[.agg cs.toArray, .func (.func 89) #[] #[.pointer (some ⟨q + 1, 0, none⟩), .pointer (some ⟨q5, 0, none⟩)]] (some 11) _ (by kernel_rfl) (by kernel_rfl) (by kernel_rfl) (CALL) ?_
  rintro e w7 ⟨hb, hres⟩
  have BE7 : Hid (Below q w w7) := DE.out.trans ((hb.mono (by have := S6.out; omega : q ≤ w6.heap.size)).below (fun k hk => by simp at hk; omega))
  have B27 : Hid (Blk w7 (q + 1 + 1) 25 z5T) := hb.blk D2.out (by have := S6.out; omega) (by simp; omega)
  have S7 : Hid (q5 < w7.heap.size) := Nat.lt_of_lt_of_le S6.out hb.size
  obtain _ | ⟨s', r⟩ := RT
  · obtain ⟨kk, rfl⟩ := hres
    exact .inr ⟨_, rfl, rfl, Builds.no (by rw [hq.out]; exact BE7.out) SO.out ⟨kk, rfl⟩⟩
  obtain ⟨⟨cr, rfl, htr, -⟩⟩ := hres
  refine .inl ⟨_, rfl, ?_⟩
  have CR5 := Lib.hid htr.len
  refine lin_put 3 25 (.tmp 4) (.tmp 11) (q + 1 + 1) _ (z5T) (cr) (by kernel_rfl) (by kernel_rfl) (by kernel_rfl) (by kernel_rfl) (by kernel_rfl) B27.out (htr.len.trans (rfl : z5T.length = 5).symm) (t5Size htr.len) (by simpa using htr.one) ?_
  intro w8 bw8 uw8
  refine ldn 4 ?_
  generalize hact : Act.put _ none _ = act
  simp only [Act.put, sA, sC, sZ] at hact
  subst hact
  go_wp2
  refine bodyPost_ret (v := .agg cr.toArray) ?_ rfl (Builds.yes (by rw [hq.out]; exact uw8.below BE7.out (by omega) (by have := BE7.out.size; have := hq.out; omega)) SO.out rfl ((TmAt.step (Step.of_upd uw8 (List.mem_range.2 (by have := S6.out; omega))) _ _ htr).range (by have := S6.out; have := hq.out; omega)))
  exact results_cell_row (g := q + 1 + 1) (t := 25) (cs := (cr).toArray) (fr := (0, 0)) Try.results55 _ _ _ rfl bw8 Try.underlying25 rfl (t5Size CR5.out)
def putO (xa : List Tm) (t : Tm) : Option Tm := if (∀ x ∈ xa, rightP 4 1099511627776 x = true) ∧ rightP 4 1099511627776 t = true then okO (puO xa t) else none
set_option maxHeartbeats 8000000 in
theorem put1_walk {F : List Nat} (xa : List Tm) (N : Nat) (aa : Option Addr) (ac : Nat) (pa pt : Nat) (t : Tm) (cs : List Value) (w : World) (ht : TmAt F w t cs) (hA : TmsAt F w xa (.slice aa N ac)) (hsa : SmTs xa) (hna : ∀ x ∈ xa, nodesT x ≤ 100000000000) (hN2 : xa.length = N) (hNb : N ≤ 2000000000000) (hs : SmT t) (hn : nodesT t ≤ 100000000000) (ha : Blk w pa 23 [.slice aa N ac]) (hc : Blk w pt 25 cs) :
    Calls Try.prog 54 #[.pointer (some ⟨pa, 0, none⟩), .pointer (some ⟨pt, 0, none⟩)] w (Builds (putO xa t) w) := by
  have C5 := Lib.hid ht.len
  have HT := Lib.hid ht
  have HA := Lib.hid hA
  have SS := Lib.hid hsa
  have NN := Lib.hid hna
  obtain ⟨R, hR⟩ : ∃ R, Hid (putO xa t = R) := ⟨_, rfl⟩
  rw [hR.out]
  obtain ⟨q, hq⟩ : ∃ q, Hid (w.heap.size = q) := ⟨_, rfl⟩
  have HQ : Hid (pa < q ∧ pt < q) := by have := ha.lt; have := hc.lt; have := hq.out; rw [Hid]; omega
  have HAB := Lib.hid ha
  have HC := Lib.hid hc
  clear ht hA hsa hna ha hc
  go_enter Try.func54, Try.ntmps54
  go_upto_region 0 with (fail)
  refine lbeg (opsOf Try.f54 0) ?_
  refine lall 0 25 z5T (q) (some 2) hq ?_
  intro w1 bw1 bew1 hsw1
  refine ldn 1 ?_
  generalize hact : Act.put _ (some 2) _ = act
  simp only [Act.put, sA, sC, sZ] at hact
  subst hact
  have BR : Hid (Blk w1 q 25 z5T) := bw1
  have BE : Hid (Below q w w1) := bew1
  have S1 : Hid (q + 1 ≤ w1.heap.size) := by have := hsw1.out; rw [Hid]; omega
  have h3 := HQ.out
  have K1 : Hid (Blk w1 pa 23 [.slice aa N ac]) := HAB.out.below BE.out h3.1
  have K2 : Hid (Blk w1 pt 25 cs) := HC.out.below BE.out h3.2
  clear bw1 bew1 hsw1 HAB HC
  go_upto_region 1 with (fail)
  refine lbeg (opsOf Try.f54 1) ?_
  refine lcl 0 (.slice aa N ac) (some 5) 23 0 (pa) 0 (K1.out.cell rfl) Try.underlying23 ?_
  refine lnow 1 (.int .i64 (N : Int)) (some 6) ?_
  refine lnow 2 (.int .i64 0) (some 7) ?_
  refine ldn 3 ?_
  generalize hact : Act.put _ (some 7) _ = act
  simp only [Act.put, sA, sC, sZ] at hact
  subst hact
  go_wp2
  go_loopw [7] (fun iv wr => ∃ i : Nat, i ≤ N ∧ iv = .int .i64 (i : Int) ∧ Hid (∀ x ∈ xa.take i, rightP 4 1099511627776 x = true) ∧ Hid (Blk wr q 25 z5T) ∧ Hid (Blk wr pa 23 [.slice aa N ac]) ∧ Hid (Blk wr pt 25 cs) ∧ Hid (Below q w wr) ∧ Hid (q + 1 ≤ wr.heap.size)) (fun iv _ => N - (intOf iv).toNat)
  case atStart => exact ⟨0, Nat.zero_le _, rfl, fun x hx => by simp at hx, BR, K1, K2, BE, S1⟩
  case round =>
    obtain ⟨i, hi, rfl, AL, BR, K1, K2, BE, S1⟩ := hrel
    by_cases hlt : i < N
    rotate_left
    · skip
      have rlt : ¬ (i : Int) < (N : Int) := by omega
      have ALL : Hid (∀ x ∈ xa, rightP 4 1099511627776 x = true) := by have h := AL.out; rw [List.take_of_length_le (by omega)] at h; exact h
      clear AL
      go_upto_region 6 with (fail)
      refine region_beginP (opsOf Try.f54 6) (fun W => (∃ x, Blk W q 25 x) ∧ Blk W pa 23 [.slice aa N ac] ∧ Blk W pt 25 cs) (by kernel_rfl) (by kernel_rfl) 6 (by kernel_rfl) ?_
      intro Q' hQN hN hP
      have HS : Blk wr.drew q 25 z5T ∧ Blk wr.drew pa 23 [.slice aa N ac] ∧ Blk wr.drew pt 25 cs := ⟨BR.out, K1.out, K2.out⟩
      refine reg_nowIf 0 (.agg (cs).toArray) (some 14) hQN ⟨⟨_, HS.1⟩, HS.2⟩ (by kernel_rfl) (by kernel_rfl) (fun w' hw => exec_load_mid 25 (.tmp 1) (by kernel_rfl) (pt) 0 (by kernel_rfl) (cs) _ hw.2.2.whole Try.underlying25 rfl (t5Size C5.out)) ?_
      refine reg_nowIf 2 (.slice aa N ac) (some 16) hQN ⟨⟨_, HS.1⟩, HS.2⟩ (by kernel_rfl) (by kernel_rfl) (fun w' hw => exec_load_cell 23 (.tmp 0) (by kernel_rfl) pa 0 (by kernel_rfl) _ (hw.2.1.cell rfl) _ Try.underlying23 rfl) ?_
      have BD : Hid (Below q w wr.drew) := BE.out.drew
      have SD : Hid (q + 1 ≤ wr.drew.heap.size) := S1.out
      refine reg_callP 1 52 #[.agg cs.toArray] (some 15) _ (by kernel_rfl) (by kernel_rfl) (by kernel_rfl) (valid_walk t cs wr.drew (HT.out.step (Step.of_below BD.out (by have := hq.out; omega))) hs hn) ?_
      rintro e w2 (⟨hv, rfl, hb2⟩ | ⟨hv, ⟨kk, rfl⟩, hb2⟩)
      rotate_left
      · exact .inr ⟨_, rfl, hP _ _ _ fun a' ha' => ⟨ha', Builds.no (by rw [hq.out]; exact BD.out.trans (hb2.mono (by have := SD.out; omega))) (hR.out.symm.trans (if_neg (by rw [hv]; simp))) ⟨kk, rfl⟩⟩⟩
      have HV := Lib.hid hv
      have RE : Hid (R = okO (puO xa t)) := hR.out.symm.trans (if_pos ⟨ALL.out, hv⟩)
      have BE2 : Hid (Below q w w2) := BD.out.trans (hb2.mono (by have := SD.out; omega))
      have FF : Hid (∀ x ∈ xa, FitT x) := fun x hx => fit_of (SmTs.mem SS.out hx) (ALL.out x hx)
      have HS2 : Blk w2 q 25 z5T ∧ Blk w2 pa 23 [.slice aa N ac] ∧ Blk w2 pt 25 cs := ⟨HS.1.below hb2 HS.1.lt, HS.2.1.below hb2 HS.2.1.lt, HS.2.2.below hb2 HS.2.2.lt⟩
      have S2 : Hid (q + 1 ≤ w2.heap.size) := by have := hb2.size; have := SD.out; rw [Hid]; omega
      refine .inl ⟨_, rfl, ⟨⟨_, HS2.1⟩, HS2.2⟩, ?_⟩
      have np := (rightP_parts HV.out).2.1
      clear HS hb2 hv BD SD
      refine reg_callP 3 55 #[.agg cs.toArray, .slice aa N ac] (some 17) _ (by kernel_rfl) (by kernel_rfl) (by kernel_rfl) (replaced_walk (F := F) xa N aa ac t cs w2 (HT.out.step (Step.of_below BE2.out (by have := hq.out; omega))) (HA.out.step (Step.of_below BE2.out (by have := hq.out; omega))) FF.out hN2 hNb hs (rightP_bnd HV.out) np) ?_
      intro e w3 hbu
      obtain ⟨hb3, ⟨r, cr, hr, rfl, htr⟩ | ⟨hr, ⟨kk, rfl⟩⟩⟩ := hbu.cases
      rotate_left
      · exact .inr ⟨_, rfl, hP _ _ _ fun a' ha' => ⟨ha', Builds.no (by rw [hq.out]; exact BE2.out.trans (hb3.mono (by have := S2.out; omega))) (RE.out.trans (by rw [hr]; rfl)) ⟨kk, rfl⟩⟩⟩
      have HR := Lib.hid hr
      have BE3 : Hid (Below q w w3) := BE2.out.trans (hb3.mono (by have := S2.out; omega))
      have HS3 : Blk w3 q 25 z5T ∧ Blk w3 pa 23 [.slice aa N ac] ∧ Blk w3 pt 25 cs := ⟨HS2.1.below hb3 HS2.1.lt, HS2.2.1.below hb3 HS2.2.1.lt, HS2.2.2.below hb3 HS2.2.2.lt⟩
      have S3 : Hid (q + 1 ≤ w3.heap.size) := by have := hb3.size; have := S2.out; rw [Hid]; omega
      have HTR := Lib.hid (htr.range S2.out)
      have CR5 := Lib.hid htr.len
      have SMR := puO_sm FF.out hr hs np
      refine .inl ⟨_, rfl, ⟨⟨_, HS3.1⟩, HS3.2⟩, ?_⟩
      clear HS2 hb3 hr htr hbu
      refine reg_callP 4 52 #[.agg cr.toArray] (some 18) _ (by kernel_rfl) (by kernel_rfl) (by kernel_rfl) (valid_walk r cr w3 HTR.out SMR.1 (by have := SMR.2; omega)) ?_
      rintro e w4 (⟨hv, rfl, hb4⟩ | ⟨hv, ⟨kk, rfl⟩, hb4⟩)
      rotate_left
      · exact .inr ⟨_, rfl, hP _ _ _ fun a' ha' => ⟨ha', Builds.no (by rw [hq.out]; exact BE3.out.trans (hb4.mono (by have := S3.out; omega))) (RE.out.trans (by rw [HR.out]; exact okO_no hv)) ⟨kk, rfl⟩⟩⟩
      have RS : Hid (R = some r) := RE.out.trans (by rw [HR.out]; exact okO_yes hv)
      have BE4 : Hid (Below q w w4) := BE3.out.trans (hb4.mono (by have := S3.out; omega))
      have HS4 : Blk w4 q 25 z5T ∧ Blk w4 pa 23 [.slice aa N ac] ∧ Blk w4 pt 25 cs := ⟨HS3.1.below hb4 HS3.1.lt, HS3.2.1.below hb4 HS3.2.1.lt, HS3.2.2.below hb4 HS3.2.2.lt⟩
      have T4 : Hid (TmAt (List.range (q + 1)) w4 r cr) := HTR.out.below hb4
      have ONE := Lib.hid HTR.out.one
      refine .inl ⟨_, rfl, ⟨⟨_, HS4.1⟩, HS4.2⟩, ?_⟩
      clear HS3 hb4 hv HTR
      refine reg_putT 5 25 (.tmp 2) (.tmp 18) q 25 z5T cr (by kernel_rfl) (by kernel_rfl) (by kernel_rfl) (by kernel_rfl) (by kernel_rfl) HS4.1 (CR5.out.trans (rfl : 5 = z5T.length)) (t5Size CR5.out) (by simpa using ONE.out) ?_
      intro w5 bw5 uw5
      have h3 := HQ.out
      refine ⟨⟨⟨_, bw5⟩, uw5.blk HS4.2.1 (by omega), uw5.blk HS4.2.2 (by omega)⟩, ?_⟩
      refine reg_done (by kernel_rfl) (hN _ _ ?_)
      generalize hact : Act.put _ none _ = act
      simp only [Act.put, sA, sC, sZ] at hact
      subst hact
      go_wp2
      refine bodyPost_ret (v := .agg cr.toArray) ?_ rfl (Builds.yes (by rw [hq.out]; exact uw5.below BE4.out (by omega) (by have := BE4.out.size; have := hq.out; omega)) RS.out rfl (by rw [hq.out]; exact (TmAt.step (Step.of_upd uw5 (List.mem_range.2 (by omega))) _ _ T4.out).range (by omega)))
      exact results_cell_row (g := q) (t := 25) (cs := (cr).toArray) (fr := (0, 0)) Try.results54 _ _ _ rfl bw5 Try.underlying25 rfl (t5Size CR5.out)
    have rlt : (i : Int) < (N : Int) := by omega
    have AT : TmsAt F wr xa (.slice aa N ac) := HA.out.step (Step.of_below BE.out (by have := hq.out; omega))
    obtain ⟨x, pb, po, cx, hx, hxm, haa, -, hpb, -, hcr, hct⟩ := AT.get hN2 hlt
    subst haa
    have HX := Lib.hid hx
    have XM := Lib.hid hxm
    have HCR := Lib.hid hcr
    have HCT := Lib.hid hct
    have X5 := Lib.hid hct.len
    have X1 := Lib.hid hct.one
    clear AT hx hxm hpb hcr hct
    obtain ⟨qx, hqx⟩ : ∃ y, Hid (wr.heap.size = y) := ⟨_, rfl⟩
    have h3 := HQ.out
    go_upto_region 3 with (fail)
    refine lbeg (opsOf Try.f54 3) ?_
    refine lix 0 (.pointer (some ⟨pb, po + 5 * i, none⟩)) (some 9) 23 5 7 (run_at_tm pb po N ac i hlt _) ?_
    refine lrl 1 cx (some 10) 25 9 pb (po + 5 * i) HCR.out Try.underlying25 (t5Size X5.out) ?_
    refine lall 2 25 z5T (qx) (some 4) hqx ?_
    intro w8 bw8 bew8 hsw8
    refine lin_put 3 25 (.tmp 4) (.tmp 10) (qx) _ (z5T) (cx) (by kernel_rfl) (by kernel_rfl) (by kernel_rfl) (by kernel_rfl) (by kernel_rfl) bw8 (X5.out.trans (rfl : z5T.length = 5).symm) (t5Size X5.out) (by simpa using X1.out) ?_
    intro w9 bw9 uw9
    refine ldn 4 ?_
    generalize hact : Act.put _ none _ = act
    simp only [Act.put, sA, sC, sZ] at hact
    subst hact
    have kp : Below qx wr w9 := uw9.below bew8 (Nat.le_refl _) (by have := bew8.size; have := hqx.out; omega)
    have QX : Hid (q + 1 ≤ qx) := by have := S1.out; have := hqx.out; rw [Hid]; omega
    have qxo := QX.out
    have BR9 : Hid (Blk w9 q 25 z5T) := BR.out.below kp (by omega)
    have K19 : Hid (Blk w9 pa 23 [.slice (some ⟨pb, po, none⟩) N ac]) := K1.out.below kp (by omega)
    have K29 : Hid (Blk w9 pt 25 cs) := K2.out.below kp (by omega)
    have BX : Hid (Blk w9 qx 25 cx) := bw9
    have BE9 : Hid (Below q w w9) := BE.out.trans (kp.mono (by omega))
    have S9 : Hid (qx < w9.heap.size) := bw9.lt
    have HC9 : Hid (TmAt F w9 x cx) := HCT.out.below (by rw [hqx.out]; exact kp)
    clear bw8 bew8 hsw8 bw9 uw9 kp BR K1 K2 BE HCR HCT
    go_upto_region 4 with (fail)
    refine lbeg (opsOf Try.f54 4) ?_
    refine lrl 0 (cx) (some 11) 25 4 (qx) 0 (BX.out).whole Try.underlying25 (t5Size X5.out) ?_
    refine lin_callP 1 52 #[.agg cx.toArray] (some 12) _ (by kernel_rfl) (by kernel_rfl) (by kernel_rfl) (valid_walk x cx w9 HC9.out (SmTs.mem SS.out XM.out) (by have := NN.out x XM.out; omega)) ?_
    rintro e wz (⟨hv, rfl, hbz⟩ | ⟨hv, ⟨kk, rfl⟩, hbz⟩)
    rotate_left
    · exact .inr ⟨_, rfl, rfl, Builds.no (by rw [hq.out]; exact BE9.out.trans (hbz.mono (by have := S9.out; omega))) (hR.out.symm.trans (if_neg (fun h => by have := h.1 x XM.out; rw [hv] at this; cases this))) ⟨kk, rfl⟩⟩
    refine .inl ⟨_, rfl, ?_⟩
    refine ldn 2 ?_
    generalize hact : Act.put _ (some 12) _ = act
    simp only [Act.put, sA, sC, sZ] at hact
    subst hact
    have NX : Hid (∀ y ∈ xa.take (i + 1), rightP 4 1099511627776 y = true) := fun y hy => by
      rw [List.take_add_one, HX.out] at hy
      rcases List.mem_append.1 hy with hy | hy
      · exact AL.out y hy
      · simp at hy; subst hy; exact hv
    have N0 : Hid (Blk wz q 25 z5T) := BR9.out.below hbz BR9.out.lt
    have N1 : Hid (Blk wz pa 23 [.slice (some ⟨pb, po, none⟩) N ac]) := K19.out.below hbz K19.out.lt
    have N2 : Hid (Blk wz pt 25 cs) := K29.out.below hbz K29.out.lt
    have NE : Hid (Below q w wz) := BE9.out.trans (hbz.mono (by have := S9.out; omega))
    have NS : Hid (q + 1 ≤ wz.heap.size) := by have := hbz.size; have := S9.out; rw [Hid]; omega
    clear hbz BR9 K19 K29 BX BE9 S9 HC9 HX AL S1 hv QX qxo
    go_wp2
    go_roundw
    case rel => exact ⟨i + 1, by omega, by go_num, NX, N0, N1, N2, NE, NS⟩
    case measure => simp [intOf]; omega
set_option maxHeartbeats 4000000 in
theorem put_walk {F : List Nat} (xa : List Tm) (N : Nat) (aa : Option Addr) (ac : Nat) (t : Tm) (cs : List Value) (w : World) (ht : TmAt F w t cs) (hA : TmsAt F w xa (.slice aa N ac)) (hsa : SmTs xa) (hna : ∀ x ∈ xa, nodesT x ≤ 100000000000) (hN2 : xa.length = N) (hN : N ≤ 2000000000000) (hs : SmT t) (hn : nodesT t ≤ 100000000000) : Calls Try.prog 20 #[.agg cs.toArray, .slice aa N ac] w fun e w' => ∃ cs', e = .returned (.tuple #[.agg cs'.toArray, .bool (putO xa t).isSome]) ∧ TmAt (List.range w.heap.size) w' ((putO xa t).getD zT) cs' ∧ Below w.heap.size w w' := by
  obtain ⟨q, hq⟩ : ∃ q, Hid (w.heap.size = q) := ⟨_, rfl⟩
  have HT := Lib.hid ht
  have C5 := Lib.hid ht.len
  have HA := Lib.hid hA
  clear hA
  clear ht
  obtain ⟨R, hR⟩ : ∃ R, Hid (putO xa t = R) := ⟨_, rfl⟩
  rw [hR.out]
  go_enter Try.func20, Try.ntmps20
  go_upto_region 0 with (fail)
  refine lbeg (opsOf Try.f20 0) ?_
  refine lbox 0 25 (.tmp 0) (cs) (q) (some 2) hq ?_
  intro w1 bw1 bew1 hsw1
  refine lin_box1 1 23 (.tmp 1) (.slice aa N ac) (q + 1) (some 3) (by kernel_rfl) (by kernel_rfl) (by kernel_rfl) (by kernel_rfl) (by rfl) hsw1 ?_
  intro w2 bw2 bew2 hsw2
  refine lall 2 25 z5T (q + 1 + 1) (some 4) hsw2 ?_
  intro w3 bw3 bew3 hsw3
  refine lnow 3 (.bool false) (some 5) ?_
  refine ldn 4 ?_
  generalize hact : Act.put _ (some 5) _ = act
  simp only [Act.put, sA, sC, sZ] at hact
  subst hact
  have B0 : Hid (Blk w3 (q) 25 cs) := ((bw1.below bew2 (by omega)).below bew3 (by omega))
  have B1 : Hid (Blk w3 (q + 1) 23 [.slice aa N ac]) := (bw2.below bew3 (by omega))
  have BR : Hid (Blk w3 (q + 1 + 1) 25 z5T) := bw3
  have BE : Hid (Below q w w3) := ((bew1.trans (bew2.mono (by omega))).trans (bew3.mono (by omega)))
  have SZ : Hid (w3.heap.size = q + 3) := hsw3
  have LB : Hid (∀ k, w.heap.size ≤ k → True) := fun _ _ => trivial
  clear bw1 bew1 hsw1
  clear bw2 bew2 hsw2
  clear bw3 bew3 hsw3
  obtain ⟨wa, hwa⟩ : ∃ y, y = w3 := ⟨_, rfl⟩
  rw [← hwa] at BE SZ BR B0 B1 ⊢
  clear hwa
  go_upto_region 1 with (fail)
  refine lbeg (opsOf Try.f20 1) ?_
  refine lin_now 0 (.func (.func 54) #[] #[.pointer (some ⟨q + 1, 0, none⟩), .pointer (some ⟨q, 0, none⟩)]) (some 6) (by kernel_rfl) (by kernel_rfl) (by first | kernel_rfl | rfl) ?_
  have BW := built_walk 54 #[.pointer (some ⟨q + 1, 0, none⟩), .pointer (some ⟨q, 0, none⟩)] wa (enters_of Try.func54 (by kernel_rfl) rfl) R (fun w1 h1 => by
    show Calls Try.prog 54 #[.pointer (some ⟨q + 1, 0, none⟩), .pointer (some ⟨q, 0, none⟩)] w1 _
    rw [← hR.out]
    exact put1_walk xa N aa ac (q + 1) q t cs w1 ((HT.out.step (Step.of_below BE.out (by have := hq.out; omega))).below h1) ((HA.out.step (Step.of_below BE.out (by have := hq.out; omega))).below h1) hsa hna hN2 hN hs hn (B1.out.below h1 B1.out.lt) (B0.out.below h1 B0.out.lt))
  refine lcal 1 49 #[.func (.func 54) #[] #[.pointer (some ⟨q + 1, 0, none⟩), .pointer (some ⟨q, 0, none⟩)]] (some 7) _ (BW) ?_
  rintro e wb ⟨cr, rfl, hcr, hbb⟩
  refine ⟨_, rfl, ?_⟩
  refine lnow 2 (.agg cr.toArray) (some 8) ?_
  refine lnow 3 (.bool R.isSome) (some 9) ?_
  have CR5 := Lib.hid hcr.len
  have BRb : Hid (Blk wb (q + 1 + 1) 25 z5T) := BR.out.below hbb BR.out.lt
  have BEb : Hid (Below q w wb) := BE.out.trans (hbb.mono (by have := SZ.out; omega))
  refine lin_put 4 25 (.tmp 4) (.tmp 8) (q + 1 + 1) _ (z5T) (cr) (by kernel_rfl) (by kernel_rfl) (by kernel_rfl) (by kernel_rfl) (by kernel_rfl) BRb.out (CR5.out.trans (rfl : z5T.length = 5).symm) (t5Size CR5.out) (by simpa using hcr.one) ?_
  intro wc bwc uwc
  refine lnow 5 (.bool R.isSome) (some 5) ?_
  refine ldn 6 ?_
  generalize hact : Act.put _ (some 5) _ = act
  simp only [Act.put, sA, sC, sZ] at hact
  subst hact
  go_wp2
  refine bodyPost_ret (v := .tuple #[.agg cr.toArray, .bool R.isSome]) ?_ rfl ⟨cr, rfl, (TmAt.step (Step.of_upd uwc (List.mem_range.2 (by have := SZ.out; omega))) _ _ hcr).range (by have := SZ.out; have := hq.out; omega), by rw [hq.out]; exact uwc.below BEb.out (by omega) (by have := BEb.out.size; have := hq.out; omega)⟩
  exact results_cell_tmp Try.results20 _ _ (q + 1 + 1) 25 cr.toArray (0, 0) _ _ rfl rfl bwc Try.underlying25 rfl (t5Size CR5.out)
end Go.Proofs.Ytndbpmkglddjjaa
