/- The law TermSpines, but for the document's own Any (AnyOk). -/
import Derived.Test.YtndbpmkglddjjaaTrmN
import Derived.Test.YtndbpmkglddjjaaGenT
namespace Go.Proofs.Ytndbpmkglddjjaa
open Go Go.RowKit
set_option maxRecDepth 100000

/-- What is asked of the document's own Any: where it answers true, the term is right. -/
def AnyOk (t : Tm) : Prop := ∀ (F : List Nat) (cs : List Value) (w : World), TmAt F w t cs → Calls Try.prog 10 #[.agg cs.toArray] w fun e w' => (∃ b, e = .returned (.bool b) ∧ (b = true → rightT wordB 4 1099511627776 0 t = true)) ∧ Below w.heap.size w w'
theorem sm_spines (t : Tm) : SmT t → ∀ x ∈ (spineT t).2, SmT x := by
  refine Tm.byParts (C := fun t => SmT t → ∀ x ∈ (spineT t).2, SmT x) (fun k n s ls a ih h => ?_) t
  match a, ih, h with
  | [], _, h => simp [spineT]
  | [x], _, h => simp [spineT]
  | [f, x], ih, h =>
    by_cases hk : k = 5
    · subst hk
      rw [spine_node]
      intro y hy
      rcases List.mem_append.1 hy with hy | hy
      · exact ih f (by simp) (h.args (by simp [Tm.args])) y hy
      · rw [List.mem_singleton.1 hy]
        exact h.args (by simp [Tm.args])
    · unfold spineT
      split
      · rename_i h2
        simp at h2
        omega
      · simp
  | _ :: _ :: _ :: _, _, h => simp [spineT]
theorem sm_strips (k : Int) (t : Tm) : SmT t → SmT (stripT k t).2 ∧ (∀ x ∈ (stripT k t).1, SmT x) ∧ (stripT k t).1.length ≤ nodesT t := by
  refine Tm.byParts (C := fun t => SmT t → SmT (stripT k t).2 ∧ (∀ x ∈ (stripT k t).1, SmT x) ∧ (stripT k t).1.length ≤ nodesT t) (fun k' n s ls a ih h => ?_) t
  by_cases hk : k' = k
  · match a, ih, h with
    | [], _, h => exact ⟨by simpa [stripT] using h, by simp [stripT], by simp [stripT]⟩
    | [x], _, h => exact ⟨by simpa [stripT] using h, by simp [stripT], by simp [stripT]⟩
    | [ty, b], ih, h =>
      subst hk
      have hb := ih b (by simp) (h.args (by simp [Tm.args]))
      rw [stripT, if_pos rfl]
      refine ⟨hb.1, fun x hx => ?_, ?_⟩
      · rcases List.mem_cons.1 hx with rfl | hx
        · exact h.args (by simp [Tm.args])
        · exact hb.2.1 x hx
      · have := hb.2.2
        simp [nodesT, nodesTs]
        omega
    | _ :: _ :: _ :: _, _, h => exact ⟨by simpa [stripT] using h, by simp [stripT], by simp [stripT]⟩
  · rw [strip_other (t := .mk k' n s ls a) hk]
    exact ⟨h, by simp, by simp⟩

set_option maxHeartbeats 16000000 in
theorem spines_of_any {F : List Nat} (t : Tm) (cs : List Value) (w : World) (ht : TmAt F w t cs) (hs : SmT t) (hany : AnyOk t) : Calls Try.prog 3 #[.agg cs.toArray] w fun e w' => e = .returned (.bool true) ∧ Below w.heap.size w w' := by
  have C5 := Lib.hid ht.len
  have HT := Lib.hid ht
  have HS := Lib.hid hs
  have ANY := Lib.hid hany
  clear ht hs hany
  obtain ⟨q, hq⟩ : ∃ q, Hid (w.heap.size = q) := ⟨_, rfl⟩
  go_enter Try.func3, Try.ntmps3
  go_upto_region 0 with (fail)
  refine lin_begin (opsOf Try.f3 0) (by kernel_rfl) ?_
  refine lin_box 0 25 (.tmp 0) (cs) (q) (some 1) (by kernel_rfl) (by kernel_rfl) (by kernel_rfl) (by kernel_rfl) hq ?_
  intro w1 bw1 bew1 hsw1
  refine lnow 1 (.bool false) (some 2) ?_
  refine lin_done 2 (by kernel_rfl) ?_
  generalize hact : Act.put _ (some 2) _ = act
  simp only [Act.put, List.setIfInBounds_toArray, List.set_cons_succ, List.set_cons_zero] at hact
  subst hact
  have BQ := Lib.hid bw1
  have BE : Hid (Below w.heap.size w w1) := by rw [Hid, hq.out]; exact bew1
  clear bw1 bew1 hsw1
  go_upto_region 1 with (fail)
  refine lin_begin (opsOf Try.f3 1) (by kernel_rfl) ?_
  refine lin_call 0 8 #[] (some 9) _ (by kernel_rfl) (by kernel_rfl) (by kernel_rfl) (alive8_walk w1) ?_
  rintro e w2 ⟨rfl, hb⟩
  refine ⟨_, rfl, ?_⟩
  have BE : Hid (Below w.heap.size w w2) := BE.out.trans (hb.mono BE.out.size)
  have BQ := Lib.hid (BQ.out.below hb BQ.out.lt)
  clear hb
  refine lnow 1 (.bool false) (some 10) ?_
  refine lin_done 2 (by kernel_rfl) ?_
  generalize hact : Act.put _ (some 10) _ = act
  simp only [Act.put, List.setIfInBounds_toArray, List.set_cons_succ, List.set_cons_zero] at hact
  subst hact
  by_cases hg : 3600 < nodesT t
  · have RG : decide (3600 < nodesT t) = true := decide_eq_true hg
    go_upto_region 3 with (fail)
    refine lin_begin (opsOf Try.f3 3) (by kernel_rfl) ?_
    refine lnowP 0 (.agg (cs).toArray) (some 11) (exec_load_mid 25 (.tmp 1) (by kernel_rfl) (q) 0 (by kernel_rfl) (cs) _ (BQ.out).whole Try.underlying25 rfl (t5Size C5.out)) ?_
    refine lin_call 1 9 #[.agg cs.toArray] (some 12) _ (by kernel_rfl) (by kernel_rfl) (by kernel_rfl) ((by have h := great_walk t cs w2 (HT.out.below BE.out) HS.out; rw [RG] at h; exact h)) ?_
    rintro e w3 ⟨rfl, hb⟩
    refine ⟨_, rfl, ?_⟩
    have BE : Hid (Below w.heap.size w w3) := BE.out.trans (hb.mono BE.out.size)
    have BQ := Lib.hid (BQ.out.below hb BQ.out.lt)
    clear hb
    refine lnow 2 (.bool true) (some 13) ?_
    refine lpas 3 (some 14) ?_
    refine lpas 4 (some 15) ?_
    refine lpas 5 (some 16) ?_
    refine lnow 6 (.bool true) (some 17) ?_
    refine lin_done 7 (by kernel_rfl) ?_
    generalize hact : Act.put _ (some 17) _ = act
    simp only [Act.put, List.setIfInBounds_toArray, List.set_cons_succ, List.set_cons_zero] at hact
    subst hact
    go_wp2
    go_ret
    exact ⟨rfl, BE.out⟩
  have RG : decide (3600 < nodesT t) = false := decide_eq_false hg
  have NB : Hid (nodesT t ≤ 3600) := by rw [Hid]; omega
  clear hg
  go_upto_region 3 with (fail)
  refine lin_begin (opsOf Try.f3 3) (by kernel_rfl) ?_
  refine lnowP 0 (.agg (cs).toArray) (some 11) (exec_load_mid 25 (.tmp 1) (by kernel_rfl) (q) 0 (by kernel_rfl) (cs) _ (BQ.out).whole Try.underlying25 rfl (t5Size C5.out)) ?_
  refine lin_call 1 9 #[.agg cs.toArray] (some 12) _ (by kernel_rfl) (by kernel_rfl) (by kernel_rfl) ((by have h := great_walk t cs w2 (HT.out.below BE.out) HS.out; rw [RG] at h; exact h)) ?_
  rintro e w3 ⟨rfl, hb⟩
  refine ⟨_, rfl, ?_⟩
  have BE : Hid (Below w.heap.size w w3) := BE.out.trans (hb.mono BE.out.size)
  have BQ := Lib.hid (BQ.out.below hb BQ.out.lt)
  clear hb
  refine lnow 2 (.bool false) (some 13) ?_
  refine lnowP 3 (.agg (cs).toArray) (some 14) (exec_load_mid 25 (.tmp 1) (by kernel_rfl) (q) 0 (by kernel_rfl) (cs) _ (BQ.out).whole Try.underlying25 rfl (t5Size C5.out)) ?_
  refine lin_call 4 10 #[.agg cs.toArray] (some 15) _ (by kernel_rfl) (by kernel_rfl) (by kernel_rfl) (ANY.out F cs w3 (HT.out.below BE.out)) ?_
  rintro e w4 ⟨⟨b, rfl, hbr⟩, hb⟩
  refine ⟨_, rfl, ?_⟩
  have BE : Hid (Below w.heap.size w w4) := BE.out.trans (hb.mono BE.out.size)
  have BQ := Lib.hid (BQ.out.below hb BQ.out.lt)
  have HBR := Lib.hid hbr
  clear hbr
  clear hb
  cases b
  · skip
    refine lnow 5 (.bool true) (some 16) ?_
    refine lnow 6 (.bool true) (some 17) ?_
    refine lin_done 7 (by kernel_rfl) ?_
    generalize hact : Act.put _ (some 17) _ = act
    simp only [Act.put, List.setIfInBounds_toArray, List.set_cons_succ, List.set_cons_zero] at hact
    subst hact
    go_wp2
    go_ret
    exact ⟨rfl, BE.out⟩
  refine lnow 5 (.bool false) (some 16) ?_
  refine lnow 6 (.bool false) (some 17) ?_
  refine lin_done 7 (by kernel_rfl) ?_
  generalize hact : Act.put _ (some 17) _ = act
  simp only [Act.put, List.setIfInBounds_toArray, List.set_cons_succ, List.set_cons_zero] at hact
  subst hact
  have RT := HBR.out rfl
  have AS := Lib.hid (app_spine t _ 0 RT)
  have B7 := Lib.hid (bind_strip (k := 7) (.inr rfl) t _ 0 RT)
  have B6 := Lib.hid (bind_strip (k := 6) (.inl rfl) t _ 0 RT)
  have SSP := Lib.hid (SmTs.of (sm_spines t HS.out))
  have SH := Lib.hid (sm_spine t HS.out)
  have S7 := Lib.hid (sm_strips 7 t HS.out)
  have S6 := Lib.hid (sm_strips 6 t HS.out)
  have LSP : Hid ((spineT t).2.length * 80 ≤ 140737488351232) := by have := spine_len t; have := NB.out; rw [Hid]; omega
  have L7 : Hid ((stripT 7 t).1.length * 80 ≤ 140737488351232) := by have := S7.out.2.2; have := NB.out; rw [Hid]; omega
  have L6 : Hid ((stripT 6 t).1.length * 80 ≤ 140737488351232) := by have := S6.out.2.2; have := NB.out; rw [Hid]; omega
  go_upto_region 5 with (fail)
  refine lin_begin (opsOf Try.f3 5) (by kernel_rfl) ?_
  refine lnowP 0 (.agg (cs).toArray) (some 19) (exec_load_mid 25 (.tmp 1) (by kernel_rfl) (q) 0 (by kernel_rfl) (cs) _ (BQ.out).whole Try.underlying25 rfl (t5Size C5.out)) ?_
  refine lin_call 1 11 #[.agg cs.toArray] (some 20) _ (by kernel_rfl) (by kernel_rfl) (by kernel_rfl) (spine_walk t cs w4 (HT.out.below BE.out) HS.out (by have := NB.out; omega)) ?_
  rintro e w5 ⟨hc, hv, rfl, hg, hgv, hb⟩
  refine ⟨_, rfl, ?_⟩
  have BE : Hid (Below w.heap.size w w5) := BE.out.trans (hb.mono BE.out.size)
  have BQ := Lib.hid (BQ.out.below hb BQ.out.lt)
  have hcT := Lib.hid hg.fresh
  have hvT := Lib.hid hgv.fresh
  obtain ⟨va, vk, rfl⟩ := hgv.slice
  clear hg hgv
  clear hb
  refine lnow 2 (.tuple #[.agg hc.toArray, .slice va (spineT t).2.length vk]) (some 18) ?_
  refine lnow 3 (.agg hc.toArray) (some 21) ?_
  refine lnow 4 (.slice va (spineT t).2.length vk) (some 22) ?_
  obtain ⟨b3, hb3⟩ : ∃ z, Hid (w5.heap.size = z) := ⟨_, rfl⟩
  refine lin_alloc 5 25 z5T (b3) (some 3) (by kernel_rfl) (by kernel_rfl) (by kernel_rfl) (by kernel_rfl) hb3 ?_
  intro w6a bw6a bew6a hsw6a
  refine lin_put 6 25 (.tmp 3) (.tmp 21) (b3) _ (z5T) (hc) (by kernel_rfl) (by kernel_rfl) (by kernel_rfl) (by kernel_rfl) (by kernel_rfl) bw6a (hcT.out.len.trans (rfl : z5T.length = 5).symm) (t5Size hcT.out.len) (by simpa using hcT.out.one) ?_
  intro w6 bw6 uw6
  have hbp : Below w5.heap.size w5 w6 := by rw [hb3.out]; exact uw6.below bew6a (Nat.le_refl _) (by have := bew6a.size; have := hb3.out; omega)
  have BE : Hid (Below w.heap.size w w6) := BE.out.trans (hbp.mono BE.out.size)
  have BQ := Lib.hid (BQ.out.below hbp BQ.out.lt)
  have hcT := Lib.hid (hcT.out.below hbp)
  have hvT := Lib.hid (hvT.out.below hbp)
  have hcB : Hid (Blk w6 b3 25 hc) := bw6
  clear hbp bw6a bew6a hsw6a bw6 uw6 hb3
  refine lnow 7 (.slice va (spineT t).2.length vk) (some 4) ?_
  refine lin_done 8 (by kernel_rfl) ?_
  generalize hact : Act.put _ (some 4) _ = act
  simp only [Act.put, List.setIfInBounds_toArray, List.set_cons_succ, List.set_cons_zero] at hact
  subst hact
  go_upto_region 6 with (fail)
  refine lin_begin (opsOf Try.f3 6) (by kernel_rfl) ?_
  refine lnowP 0 (.agg (cs).toArray) (some 24) (exec_load_mid 25 (.tmp 1) (by kernel_rfl) (q) 0 (by kernel_rfl) (cs) _ (BQ.out).whole Try.underlying25 rfl (t5Size C5.out)) ?_
  refine lin_call 1 12 #[.agg cs.toArray, .int .i64 7] (some 25) _ (by kernel_rfl) (by kernel_rfl) (by kernel_rfl) (strip_walk t cs 7 w6 (HT.out.below BE.out) HS.out (by have := NB.out; omega)) ?_
  rintro e w7 ⟨tv, pc, rfl, hgv, hg, hb⟩
  refine ⟨_, rfl, ?_⟩
  have BE : Hid (Below w.heap.size w w7) := BE.out.trans (hb.mono BE.out.size)
  have BQ := Lib.hid (BQ.out.below hb BQ.out.lt)
  have hcT := Lib.hid (hcT.out.below hb)
  have hvT := Lib.hid (hvT.out.below hb)
  have hcB := Lib.hid (hcB.out.below hb hcB.out.lt)
  have pcT := Lib.hid hg.fresh
  have pvT := Lib.hid hgv.fresh
  obtain ⟨pa, pk, rfl⟩ := hgv.slice
  clear hg hgv
  clear hb
  refine lnow 2 (.tuple #[.slice pa (stripT 7 t).1.length pk, .agg pc.toArray]) (some 23) ?_
  refine lnow 3 (.slice pa (stripT 7 t).1.length pk) (some 26) ?_
  refine lnow 4 (.agg pc.toArray) (some 27) ?_
  obtain ⟨kp, hkp⟩ : ∃ z, Hid (w7.heap.size = z) := ⟨_, rfl⟩
  refine lin_alloc 5 25 z5T (kp) (some 6) (by kernel_rfl) (by kernel_rfl) (by kernel_rfl) (by kernel_rfl) hkp ?_
  intro w8a bw8a bew8a hsw8a
  refine lnow 6 (.slice pa (stripT 7 t).1.length pk) (some 5) ?_
  refine lin_put 7 25 (.tmp 6) (.tmp 27) (kp) _ (z5T) (pc) (by kernel_rfl) (by kernel_rfl) (by kernel_rfl) (by kernel_rfl) (by kernel_rfl) bw8a (pcT.out.len.trans (rfl : z5T.length = 5).symm) (t5Size pcT.out.len) (by simpa using pcT.out.one) ?_
  intro w8 bw8 uw8
  have hbp : Below w7.heap.size w7 w8 := by rw [hkp.out]; exact uw8.below bew8a (Nat.le_refl _) (by have := bew8a.size; have := hkp.out; omega)
  have BE : Hid (Below w.heap.size w w8) := BE.out.trans (hbp.mono BE.out.size)
  have BQ := Lib.hid (BQ.out.below hbp BQ.out.lt)
  have hcT := Lib.hid (hcT.out.below hbp)
  have hvT := Lib.hid (hvT.out.below hbp)
  have hcB := Lib.hid (hcB.out.below hbp hcB.out.lt)
  have pcT := Lib.hid (pcT.out.below hbp)
  have pvT := Lib.hid (pvT.out.below hbp)
  have pcB : Hid (Blk w8 kp 25 pc) := bw8
  clear hbp bw8a bew8a hsw8a bw8 uw8 hkp
  refine lin_done 8 (by kernel_rfl) ?_
  generalize hact : Act.put _ none _ = act
  simp only [Act.put, List.setIfInBounds_toArray, List.set_cons_succ, List.set_cons_zero] at hact
  subst hact
  go_upto_region 7 with (fail)
  refine lin_begin (opsOf Try.f3 7) (by kernel_rfl) ?_
  refine lnowP 0 (.agg (cs).toArray) (some 29) (exec_load_mid 25 (.tmp 1) (by kernel_rfl) (q) 0 (by kernel_rfl) (cs) _ (BQ.out).whole Try.underlying25 rfl (t5Size C5.out)) ?_
  refine lin_call 1 12 #[.agg cs.toArray, .int .i64 6] (some 30) _ (by kernel_rfl) (by kernel_rfl) (by kernel_rfl) (strip_walk t cs 6 w8 (HT.out.below BE.out) HS.out (by have := NB.out; omega)) ?_
  rintro e w9 ⟨tv, rc, rfl, hgv, hg, hb⟩
  refine ⟨_, rfl, ?_⟩
  have BE : Hid (Below w.heap.size w w9) := BE.out.trans (hb.mono BE.out.size)
  have BQ := Lib.hid (BQ.out.below hb BQ.out.lt)
  have hcT := Lib.hid (hcT.out.below hb)
  have hvT := Lib.hid (hvT.out.below hb)
  have hcB := Lib.hid (hcB.out.below hb hcB.out.lt)
  have pcT := Lib.hid (pcT.out.below hb)
  have pvT := Lib.hid (pvT.out.below hb)
  have pcB := Lib.hid (pcB.out.below hb pcB.out.lt)
  have rcT := Lib.hid hg.fresh
  have rvT := Lib.hid hgv.fresh
  obtain ⟨ra, rk, rfl⟩ := hgv.slice
  clear hg hgv
  clear hb
  refine lnow 2 (.tuple #[.slice ra (stripT 6 t).1.length rk, .agg rc.toArray]) (some 28) ?_
  refine lnow 3 (.slice ra (stripT 6 t).1.length rk) (some 31) ?_
  refine lnow 4 (.agg rc.toArray) (some 32) ?_
  obtain ⟨kr, hkr⟩ : ∃ z, Hid (w9.heap.size = z) := ⟨_, rfl⟩
  refine lin_alloc 5 25 z5T (kr) (some 8) (by kernel_rfl) (by kernel_rfl) (by kernel_rfl) (by kernel_rfl) hkr ?_
  intro w10a bw10a bew10a hsw10a
  refine lnow 6 (.slice ra (stripT 6 t).1.length rk) (some 7) ?_
  refine lin_put 7 25 (.tmp 8) (.tmp 32) (kr) _ (z5T) (rc) (by kernel_rfl) (by kernel_rfl) (by kernel_rfl) (by kernel_rfl) (by kernel_rfl) bw10a (rcT.out.len.trans (rfl : z5T.length = 5).symm) (t5Size rcT.out.len) (by simpa using rcT.out.one) ?_
  intro w10 bw10 uw10
  have hbp : Below w9.heap.size w9 w10 := by rw [hkr.out]; exact uw10.below bew10a (Nat.le_refl _) (by have := bew10a.size; have := hkr.out; omega)
  have BE : Hid (Below w.heap.size w w10) := BE.out.trans (hbp.mono BE.out.size)
  have BQ := Lib.hid (BQ.out.below hbp BQ.out.lt)
  have hcT := Lib.hid (hcT.out.below hbp)
  have hvT := Lib.hid (hvT.out.below hbp)
  have hcB := Lib.hid (hcB.out.below hbp hcB.out.lt)
  have pcT := Lib.hid (pcT.out.below hbp)
  have pvT := Lib.hid (pvT.out.below hbp)
  have pcB := Lib.hid (pcB.out.below hbp pcB.out.lt)
  have rcT := Lib.hid (rcT.out.below hbp)
  have rvT := Lib.hid (rvT.out.below hbp)
  have rcB : Hid (Blk w10 kr 25 rc) := bw10
  clear hbp bw10a bew10a hsw10a bw10 uw10 hkr
  refine lin_done 8 (by kernel_rfl) ?_
  generalize hact : Act.put _ none _ = act
  simp only [Act.put, List.setIfInBounds_toArray, List.set_cons_succ, List.set_cons_zero] at hact
  subst hact
  have hc5 := Lib.hid hcT.out.len
  have pc5 := Lib.hid pcT.out.len
  have rc5 := Lib.hid rcT.out.len
  obtain ⟨l1, a1, h1, -, -⟩ := hcT.out.open
  obtain ⟨l2, a2, h2, -, -⟩ := pcT.out.open
  obtain ⟨l3, a3, h3, -, -⟩ := rcT.out.open
  go_upto_region 8 with (fail)
  refine region_begin (opsOf Try.f3 8) (fun W' => Below w10.heap.size w10 W') (by kernel_rfl) (by kernel_rfl) 35 (by kernel_rfl) ?_
  intro Q' hQN hN
  have HB : Below w10.heap.size w10 w10.drew := (Below.refl _ _).drew
  obtain ⟨y0, hy0⟩ : ∃ y, w10.drew = y := ⟨_, rfl⟩
  rw [hy0] at HB ⊢
  clear hy0
  refine reg_nowIf 0 (.agg (hc).toArray) (some 33) hQN HB (by kernel_rfl) (by kernel_rfl) (fun w' hw => exec_load_mid 25 (.tmp 3) (by kernel_rfl) (b3) 0 (by kernel_rfl) (hc) _ (hcB.out.below hw hcB.out.lt).whole Try.underlying25 rfl (t5Size hc5.out)) ?_
  refine reg_now 1 (.slice va (spineT t).2.length vk) (some 34) hQN HB (by kernel_rfl) (by kernel_rfl) (fun w => by kernel_rfl) ?_
  refine reg_nowIf 3 (.agg (cs).toArray) (some 36) hQN HB (by kernel_rfl) (by kernel_rfl) (fun w' hw => exec_load_mid 25 (.tmp 1) (by kernel_rfl) (q) 0 (by kernel_rfl) (cs) _ (BQ.out.below hw BQ.out.lt).whole Try.underlying25 rfl (t5Size C5.out)) ?_
  refine reg_call 2 14 #[.agg hc.toArray, .slice va (spineT t).2.length vk] (some 35) _ (by kernel_rfl) (by kernel_rfl) (by kernel_rfl) (app_walk (spineT t).1 (spineT t).2 hc _ y0 (hcT.out.below HB) SH.out (hvT.out.below HB) SSP.out LSP.out) ?_
  rintro e y1 ⟨xc, rfl, hx, hb⟩
  have HB : Below w10.heap.size w10 y1 := HB.trans (hb.mono HB.size)
  refine ⟨_, rfl, HB, ?_⟩
  rw [AS.out.1] at hx
  have xcT := Lib.hid hx.fresh
  clear hx
  clear hb
  refine reg_call 4 13 #[.agg xc.toArray, .agg cs.toArray] (some 37) _ (by kernel_rfl) (by kernel_rfl) (by kernel_rfl) ((by have h := sameterm_walk t t xc cs y1 [] F xcT.out (HT.out.below (BE.out.trans (HB.mono BE.out.size))) HS.out; rw [eqT_yes rfl] at h; exact h)) ?_
  rintro e y2 ⟨rfl, hb⟩
  have HB : Below w10.heap.size w10 y2 := HB.trans (hb.mono HB.size)
  refine ⟨_, rfl, HB, ?_⟩
  clear xcT
  clear hb
  refine reg_now 5 (.bool true) (some 38) hQN HB (by kernel_rfl) (by kernel_rfl) (fun w => by kernel_rfl) ?_
  refine reg_nowIf 6 (.agg (pc).toArray) (some 39) hQN HB (by kernel_rfl) (by kernel_rfl) (fun w' hw => exec_load_mid 25 (.tmp 6) (by kernel_rfl) (kp) 0 (by kernel_rfl) (pc) _ (pcB.out.below hw pcB.out.lt).whole Try.underlying25 rfl (t5Size pc5.out)) ?_
  refine reg_now 7 (.slice pa (stripT 7 t).1.length pk) (some 40) hQN HB (by kernel_rfl) (by kernel_rfl) (fun w => by kernel_rfl) ?_
  refine reg_nowIf 9 (.agg (cs).toArray) (some 42) hQN HB (by kernel_rfl) (by kernel_rfl) (fun w' hw => exec_load_mid 25 (.tmp 1) (by kernel_rfl) (q) 0 (by kernel_rfl) (cs) _ (BQ.out.below hw BQ.out.lt).whole Try.underlying25 rfl (t5Size C5.out)) ?_
  refine reg_call 8 15 #[.int .i64 7, .agg pc.toArray, .slice pa (stripT 7 t).1.length pk] (some 41) _ (by kernel_rfl) (by kernel_rfl) (by kernel_rfl) (bind_walk 7 (stripT 7 t).2 (stripT 7 t).1 pc _ y2 (pcT.out.below HB) S7.out.1 (pvT.out.below HB) (SmTs.of S7.out.2.1) L7.out) ?_
  rintro e y3 ⟨xc, rfl, hx, hb⟩
  have HB : Below w10.heap.size w10 y3 := HB.trans (hb.mono HB.size)
  refine ⟨_, rfl, HB, ?_⟩
  rw [B7.out.1] at hx
  have xcT := Lib.hid hx.fresh
  clear hx
  clear hb
  refine reg_call 10 13 #[.agg xc.toArray, .agg cs.toArray] (some 43) _ (by kernel_rfl) (by kernel_rfl) (by kernel_rfl) ((by have h := sameterm_walk t t xc cs y3 [] F xcT.out (HT.out.below (BE.out.trans (HB.mono BE.out.size))) HS.out; rw [eqT_yes rfl] at h; exact h)) ?_
  rintro e y4 ⟨rfl, hb⟩
  have HB : Below w10.heap.size w10 y4 := HB.trans (hb.mono HB.size)
  refine ⟨_, rfl, HB, ?_⟩
  clear xcT
  clear hb
  refine reg_now 11 (.bool true) (some 44) hQN HB (by kernel_rfl) (by kernel_rfl) (fun w => by kernel_rfl) ?_
  refine reg_now 12 (.bool true) (some 45) hQN HB (by kernel_rfl) (by kernel_rfl) (fun w => by kernel_rfl) ?_
  refine reg_nowIf 13 (.agg (rc).toArray) (some 46) hQN HB (by kernel_rfl) (by kernel_rfl) (fun w' hw => exec_load_mid 25 (.tmp 8) (by kernel_rfl) (kr) 0 (by kernel_rfl) (rc) _ (rcB.out.below hw rcB.out.lt).whole Try.underlying25 rfl (t5Size rc5.out)) ?_
  refine reg_now 14 (.slice ra (stripT 6 t).1.length rk) (some 47) hQN HB (by kernel_rfl) (by kernel_rfl) (fun w => by kernel_rfl) ?_
  refine reg_nowIf 16 (.agg (cs).toArray) (some 49) hQN HB (by kernel_rfl) (by kernel_rfl) (fun w' hw => exec_load_mid 25 (.tmp 1) (by kernel_rfl) (q) 0 (by kernel_rfl) (cs) _ (BQ.out.below hw BQ.out.lt).whole Try.underlying25 rfl (t5Size C5.out)) ?_
  refine reg_call 15 15 #[.int .i64 6, .agg rc.toArray, .slice ra (stripT 6 t).1.length rk] (some 48) _ (by kernel_rfl) (by kernel_rfl) (by kernel_rfl) (bind_walk 6 (stripT 6 t).2 (stripT 6 t).1 rc _ y4 (rcT.out.below HB) S6.out.1 (rvT.out.below HB) (SmTs.of S6.out.2.1) L6.out) ?_
  rintro e y5 ⟨xc, rfl, hx, hb⟩
  have HB : Below w10.heap.size w10 y5 := HB.trans (hb.mono HB.size)
  refine ⟨_, rfl, HB, ?_⟩
  rw [B6.out.1] at hx
  have xcT := Lib.hid hx.fresh
  clear hx
  clear hb
  refine reg_call 17 13 #[.agg xc.toArray, .agg cs.toArray] (some 50) _ (by kernel_rfl) (by kernel_rfl) (by kernel_rfl) ((by have h := sameterm_walk t t xc cs y5 [] F xcT.out (HT.out.below (BE.out.trans (HB.mono BE.out.size))) HS.out; rw [eqT_yes rfl] at h; exact h)) ?_
  rintro e y6 ⟨rfl, hb⟩
  have HB : Below w10.heap.size w10 y6 := HB.trans (hb.mono HB.size)
  refine ⟨_, rfl, HB, ?_⟩
  clear xcT
  clear hb
  refine reg_now 18 (.bool true) (some 51) hQN HB (by kernel_rfl) (by kernel_rfl) (fun w => by kernel_rfl) ?_
  refine reg_now 19 (.bool true) (some 52) hQN HB (by kernel_rfl) (by kernel_rfl) (fun w => by kernel_rfl) ?_
  refine reg_now 20 (.pointer (some ⟨b3, 0, none⟩)) (some 53) hQN HB (by kernel_rfl) (by kernel_rfl) (fun w => by kernel_rfl) ?_
  refine reg_nowIf 21 (.int .i64 ((spineT t).1).kind) (some 54) hQN HB (by kernel_rfl) (by kernel_rfl) (fun w' hw => exec_load_cell 3 (.tmp 53) (by kernel_rfl) b3 0 (by kernel_rfl) _ ((hcB.out.below hw hcB.out.lt).cell (by rw [h1]; rfl)) _ Try.underlying3 rfl) ?_
  refine reg_now 22 (.bool (!decide (((spineT t).1).kind = 5))) (some 55) hQN HB (by kernel_rfl) (by kernel_rfl) (fun w => by kernel_rfl) ?_
  rw [show (!decide (((spineT t).1).kind = 5)) = true by rw [decide_eq_false AS.out.2]; rfl]
  refine reg_now 23 (.bool true) (some 56) hQN HB (by kernel_rfl) (by kernel_rfl) (fun w => by kernel_rfl) ?_
  refine reg_now 24 (.bool true) (some 57) hQN HB (by kernel_rfl) (by kernel_rfl) (fun w => by kernel_rfl) ?_
  refine reg_now 25 (.pointer (some ⟨kp, 0, none⟩)) (some 58) hQN HB (by kernel_rfl) (by kernel_rfl) (fun w => by kernel_rfl) ?_
  refine reg_nowIf 26 (.int .i64 ((stripT 7 t).2).kind) (some 59) hQN HB (by kernel_rfl) (by kernel_rfl) (fun w' hw => exec_load_cell 3 (.tmp 58) (by kernel_rfl) kp 0 (by kernel_rfl) _ ((pcB.out.below hw pcB.out.lt).cell (by rw [h2]; rfl)) _ Try.underlying3 rfl) ?_
  refine reg_now 27 (.bool (!decide (((stripT 7 t).2).kind = 7))) (some 60) hQN HB (by kernel_rfl) (by kernel_rfl) (fun w => by kernel_rfl) ?_
  rw [show (!decide (((stripT 7 t).2).kind = 7)) = true by rw [decide_eq_false B7.out.2]; rfl]
  refine reg_now 28 (.bool true) (some 61) hQN HB (by kernel_rfl) (by kernel_rfl) (fun w => by kernel_rfl) ?_
  refine reg_now 29 (.bool true) (some 62) hQN HB (by kernel_rfl) (by kernel_rfl) (fun w => by kernel_rfl) ?_
  refine reg_now 30 (.pointer (some ⟨kr, 0, none⟩)) (some 63) hQN HB (by kernel_rfl) (by kernel_rfl) (fun w => by kernel_rfl) ?_
  refine reg_nowIf 31 (.int .i64 ((stripT 6 t).2).kind) (some 64) hQN HB (by kernel_rfl) (by kernel_rfl) (fun w' hw => exec_load_cell 3 (.tmp 63) (by kernel_rfl) kr 0 (by kernel_rfl) _ ((rcB.out.below hw rcB.out.lt).cell (by rw [h3]; rfl)) _ Try.underlying3 rfl) ?_
  refine reg_now 32 (.bool (!decide (((stripT 6 t).2).kind = 6))) (some 65) hQN HB (by kernel_rfl) (by kernel_rfl) (fun w => by kernel_rfl) ?_
  rw [show (!decide (((stripT 6 t).2).kind = 6)) = true by rw [decide_eq_false B6.out.2]; rfl]
  refine reg_now 33 (.bool true) (some 66) hQN HB (by kernel_rfl) (by kernel_rfl) (fun w => by kernel_rfl) ?_
  refine reg_now 34 (.bool true) (some 2) hQN HB (by kernel_rfl) (by kernel_rfl) (fun w => by kernel_rfl) ?_
  refine reg_done (by kernel_rfl) (hN _ _ ?_)
  generalize hact : Act.put _ (some 2) _ = act
  simp only [Act.put, List.setIfInBounds_toArray, List.set_cons_succ, List.set_cons_zero] at hact
  subst hact
  go_wp2
  go_ret
  exact ⟨rfl, BE.out.trans (HB.mono BE.out.size)⟩
end Go.Proofs.Ytndbpmkglddjjaa
