/- The law TermRights. -/
import Derived.Test.YtlheikhjgdhmmaaTrmL
namespace Go.Proofs.Ytlheikhjgdhmmaa
open Go Go.RowKit
set_option maxRecDepth 100000

theorem rightP_parts {p v : Int} {t : Tm} (h : rightP p v t = true) : 0 ≤ p ∧ p ≤ 4 ∧ 0 ≤ v ∧ v ≤ 1099511627776 ∧ nodesT t ≤ 3000 ∧ rightT wordB p v 0 t = true := by
  simp only [rightP, Bool.and_eq_true, decide_eq_true_eq] at h
  obtain ⟨⟨⟨⟨h1, h2⟩, h3⟩, h4⟩, h5, h6⟩ := h
  exact ⟨h1, h2, h3, h4, h5, h6⟩
theorem rightP_of {p v : Int} {t : Tm} (h1 : 0 ≤ p) (h2 : p ≤ 4) (h3 : 0 ≤ v) (h4 : v ≤ 1099511627776) (h5 : nodesT t ≤ 3000) (h6 : rightT wordB p v 0 t = true) : rightP p v t = true := by
  simp only [rightP, Bool.and_eq_true, decide_eq_true_eq]
  exact ⟨⟨⟨⟨h1, h2⟩, h3⟩, h4⟩, h5, h6⟩
structure Rts (p v m : Int) (t : Tm) : Prop where
  a : rightP 4 v t = true
  b : rightP p (v + m) t = true
  c : 0 ≤ looseP t ∧ looseP t ≤ v
  d : rightP p (looseP t) t = true
  e : looseP t ≠ 0 → rightP p (looseP t - 1) t = false ∧ 0 < usesP (looseP t - 1) t
  n : 0 ≤ v
theorem rts_of {p v m : Int} {t : Tm} (h : rightP p v t = true) (hm : 0 ≤ m) (hm2 : m ≤ 1000) (hv : v ≤ 1000) : Rts p v m t := by
  obtain ⟨h1, h2, h3, h4, h5, h6⟩ := rightP_parts h
  have h7 : rightP 4 1099511627776 t = true := rightP_of (by omega) (by omega) (by omega) (by omega) h5 (right_mono h2 t v _ 0 (by omega) h6)
  have hL : looseP t = looseT 0 t := by rw [looseP, if_pos h7]
  have hn := loose_nonneg t 0
  have hle : looseT 0 t ≤ v := loose_le (wo := wordB) (p := p) t v 0 0 h3 (by rw [Int.add_zero]; exact h6)
  have hd : rightT wordB p (looseT 0 t) 0 t = true := by
    have := right_loose t v (looseT 0 t) 0 0 h6 (Int.le_refl _)
    rwa [Int.add_zero] at this
  refine ⟨rightP_of (by omega) (by omega) h3 h4 h5 (right_mono h2 t v v 0 (Int.le_refl _) h6), rightP_of h1 h2 (by omega) (by omega) h5 (right_mono (Int.le_refl _) t v _ 0 (by omega) h6), by rw [hL]; exact ⟨hn, hle⟩, by rw [hL]; exact rightP_of h1 h2 hn (by omega) h5 hd, fun h0 => ?_, h3⟩
  rw [hL] at h0 ⊢
  have hm1 : looseT 0 t = (looseT 0 t - 1) + 1 := by omega
  refine ⟨?_, ?_⟩
  · rw [Bool.eq_false_iff]
    intro hc
    have := (rightP_parts hc).2.2.2.2.2
    rw [not_right (by omega) hm1] at this
    cases this
  · rw [usesP, if_neg (by omega), if_pos h7]
    exact loose_use t _ 0 (by omega) hm1

set_option maxHeartbeats 8000000 in
theorem rights_main {F : List Nat} (t : Tm) (cs : List Value) (p v m : Int) (w : World) (ht : TmAt F w t cs) (hs : SmT t) : Calls Try.prog 5 #[.agg cs.toArray, .int .i64 p, .int .i64 v, .int .i64 m] w fun e w' => e = .returned (.bool true) ∧ Below w.heap.size w w' := by
  have C5 := Lib.hid ht.len
  have HT := Lib.hid ht
  have HS := Lib.hid hs
  clear ht hs
  obtain ⟨q, hq⟩ : ∃ q, Hid (w.heap.size = q) := ⟨_, rfl⟩
  go_enter Try.func5, Try.ntmps5
  go_upto_region 0 with (fail)
  refine lin_begin (opsOf Try.f5 0) (by kernel_rfl) ?_
  refine lin_box 0 27 (.tmp 0) (cs) (q) (some 4) (by kernel_rfl) (by kernel_rfl) (by kernel_rfl) (by kernel_rfl) hq ?_
  intro w1 bw1 bew1 hsw1
  refine lin_now 1 (.bool false) (some 8) (by kernel_rfl) (by kernel_rfl) (by kernel_rfl) ?_
  refine lin_done 2 (by kernel_rfl) ?_
  generalize hact : Act.put _ (some 8) _ = act
  simp only [Act.put, List.setIfInBounds_toArray, List.set_cons_succ, List.set_cons_zero] at hact
  subst hact
  have B1 := Lib.hid bw1
  have BE1 : Hid (Below w.heap.size w w1) := by rw [Hid, hq.out]; exact bew1
  clear bw1 bew1 hsw1
  go_upto_region 1 with (fail)
  refine lin_begin (opsOf Try.f5 1) (by kernel_rfl) ?_
  refine lin_call 0 7 #[] (some 10) _ (by kernel_rfl) (by kernel_rfl) (by kernel_rfl) (alive8_walk w1) ?_
  rintro e w2 ⟨rfl, hb2⟩
  refine ⟨_, rfl, ?_⟩
  refine lin_now 1 (.bool false) (some 11) (by kernel_rfl) (by kernel_rfl) (by kernel_rfl) ?_
  refine lin_done 2 (by kernel_rfl) ?_
  generalize hact : Act.put _ (some 11) _ = act
  simp only [Act.put, List.setIfInBounds_toArray, List.set_cons_succ, List.set_cons_zero] at hact
  subst hact
  have B2 := Lib.hid (B1.out.below hb2 B1.out.lt)
  have BE2 : Hid (Below w.heap.size w w2) := BE1.out.trans (hb2.mono BE1.out.size)
  clear hb2 B1 BE1
  by_cases hg : 3600 < nodesT t
  · have RG : decide (3600 < nodesT t) = true := decide_eq_true hg
    go_upto_region 3 with (fail)
    refine lin_begin (opsOf Try.f5 3) (by kernel_rfl) ?_
    refine lin_now 0 (.agg (cs).toArray) (some 12) (by kernel_rfl) (by kernel_rfl) (exec_load_mid 27 (.tmp 4) (by kernel_rfl) (q) 0 (by kernel_rfl) (cs) _ (B2.out).whole Try.underlying27 rfl (t5Size C5.out)) ?_
    refine lin_call 1 10 #[.agg cs.toArray] (some 13) _ (by kernel_rfl) (by kernel_rfl) (by kernel_rfl) ((by have h := great_walk t cs w2 (HT.out.below BE2.out) HS.out; rw [RG] at h; exact h)) ?_
    rintro e w3 ⟨rfl, hb⟩
    refine ⟨_, rfl, ?_⟩
    have B3 := Lib.hid (B2.out.below hb B2.out.lt)
    have BE3 : Hid (Below w.heap.size w w3) := BE2.out.trans (hb.mono BE2.out.size)
    clear hb B2 BE2
    refine lin_now 2 (.bool true) (some 14) (by kernel_rfl) (by kernel_rfl) (by kernel_rfl) ?_
    refine lin_pass 3 (some 15) (by kernel_rfl) (by kernel_rfl) ?_
    refine lin_pass 4 (some 16) (by kernel_rfl) (by kernel_rfl) ?_
    refine lin_now 5 (.bool true) (some 17) (by kernel_rfl) (by kernel_rfl) (by kernel_rfl) ?_
    refine lin_now 6 (.bool true) (some 18) (by kernel_rfl) (by kernel_rfl) (by kernel_rfl) ?_
    refine lin_pass 7 (some 19) (by kernel_rfl) (by kernel_rfl) ?_
    refine lin_pass 8 (some 20) (by kernel_rfl) (by kernel_rfl) ?_
    refine lin_now 9 (.bool true) (some 21) (by kernel_rfl) (by kernel_rfl) (by kernel_rfl) ?_
    refine lin_now 10 (.bool true) (some 22) (by kernel_rfl) (by kernel_rfl) (by kernel_rfl) ?_
    refine lin_pass 11 (some 23) (by kernel_rfl) (by kernel_rfl) ?_
    refine lin_pass 12 (some 24) (by kernel_rfl) (by kernel_rfl) ?_
    refine lin_now 13 (.bool true) (some 25) (by kernel_rfl) (by kernel_rfl) (by kernel_rfl) ?_
    refine lin_now 14 (.bool true) (some 26) (by kernel_rfl) (by kernel_rfl) (by kernel_rfl) ?_
    refine lin_pass 15 (some 27) (by kernel_rfl) (by kernel_rfl) ?_
    refine lin_pass 16 (some 28) (by kernel_rfl) (by kernel_rfl) ?_
    refine lin_pass 17 (some 29) (by kernel_rfl) (by kernel_rfl) ?_
    refine lin_pass 18 (some 30) (by kernel_rfl) (by kernel_rfl) ?_
    refine lin_pass 19 (some 31) (by kernel_rfl) (by kernel_rfl) ?_
    refine lin_now 20 (.bool true) (some 32) (by kernel_rfl) (by kernel_rfl) (by kernel_rfl) ?_
    refine lin_done 21 (by kernel_rfl) ?_
    generalize hact : Act.put _ (some 32) _ = act
    simp only [Act.put, List.setIfInBounds_toArray, List.set_cons_succ, List.set_cons_zero] at hact
    subst hact
    go_wp2
    go_ret
    exact ⟨rfl, BE3.out⟩
  have RG : decide (3600 < nodesT t) = false := decide_eq_false hg
  have NB : Hid (nodesT t ≤ 3600) := by rw [Hid]; omega
  clear hg
  by_cases h1 : m < 0
  · have RM : decide (m < 0) = true := decide_eq_true h1
    go_upto_region 3 with (fail)
    refine lin_begin (opsOf Try.f5 3) (by kernel_rfl) ?_
    refine lin_now 0 (.agg (cs).toArray) (some 12) (by kernel_rfl) (by kernel_rfl) (exec_load_mid 27 (.tmp 4) (by kernel_rfl) (q) 0 (by kernel_rfl) (cs) _ (B2.out).whole Try.underlying27 rfl (t5Size C5.out)) ?_
    refine lin_call 1 10 #[.agg cs.toArray] (some 13) _ (by kernel_rfl) (by kernel_rfl) (by kernel_rfl) ((by have h := great_walk t cs w2 (HT.out.below BE2.out) HS.out; rw [RG] at h; exact h)) ?_
    rintro e w3 ⟨rfl, hb⟩
    refine ⟨_, rfl, ?_⟩
    have B3 := Lib.hid (B2.out.below hb B2.out.lt)
    have BE3 : Hid (Below w.heap.size w w3) := BE2.out.trans (hb.mono BE2.out.size)
    clear hb B2 BE2
    refine lin_now 2 (.bool false) (some 14) (by kernel_rfl) (by kernel_rfl) (by kernel_rfl) ?_
    refine lin_now 3 (.int .i64 m) (some 15) (by kernel_rfl) (by kernel_rfl) (by kernel_rfl) ?_
    refine lin_now 4 (.bool (decide (m < 0))) (some 16) (by kernel_rfl) (by kernel_rfl) (by kernel_rfl) ?_
    rw [RM]
    refine lin_now 5 (.bool true) (some 17) (by kernel_rfl) (by kernel_rfl) (by kernel_rfl) ?_
    refine lin_now 6 (.bool true) (some 18) (by kernel_rfl) (by kernel_rfl) (by kernel_rfl) ?_
    refine lin_pass 7 (some 19) (by kernel_rfl) (by kernel_rfl) ?_
    refine lin_pass 8 (some 20) (by kernel_rfl) (by kernel_rfl) ?_
    refine lin_now 9 (.bool true) (some 21) (by kernel_rfl) (by kernel_rfl) (by kernel_rfl) ?_
    refine lin_now 10 (.bool true) (some 22) (by kernel_rfl) (by kernel_rfl) (by kernel_rfl) ?_
    refine lin_pass 11 (some 23) (by kernel_rfl) (by kernel_rfl) ?_
    refine lin_pass 12 (some 24) (by kernel_rfl) (by kernel_rfl) ?_
    refine lin_now 13 (.bool true) (some 25) (by kernel_rfl) (by kernel_rfl) (by kernel_rfl) ?_
    refine lin_now 14 (.bool true) (some 26) (by kernel_rfl) (by kernel_rfl) (by kernel_rfl) ?_
    refine lin_pass 15 (some 27) (by kernel_rfl) (by kernel_rfl) ?_
    refine lin_pass 16 (some 28) (by kernel_rfl) (by kernel_rfl) ?_
    refine lin_pass 17 (some 29) (by kernel_rfl) (by kernel_rfl) ?_
    refine lin_pass 18 (some 30) (by kernel_rfl) (by kernel_rfl) ?_
    refine lin_pass 19 (some 31) (by kernel_rfl) (by kernel_rfl) ?_
    refine lin_now 20 (.bool true) (some 32) (by kernel_rfl) (by kernel_rfl) (by kernel_rfl) ?_
    refine lin_done 21 (by kernel_rfl) ?_
    generalize hact : Act.put _ (some 32) _ = act
    simp only [Act.put, List.setIfInBounds_toArray, List.set_cons_succ, List.set_cons_zero] at hact
    subst hact
    go_wp2
    go_ret
    exact ⟨rfl, BE3.out⟩
  have RM : decide (m < 0) = false := decide_eq_false h1
  by_cases h2 : m > 1000
  · have RK : decide (m > 1000) = true := decide_eq_true h2
    go_upto_region 3 with (fail)
    refine lin_begin (opsOf Try.f5 3) (by kernel_rfl) ?_
    refine lin_now 0 (.agg (cs).toArray) (some 12) (by kernel_rfl) (by kernel_rfl) (exec_load_mid 27 (.tmp 4) (by kernel_rfl) (q) 0 (by kernel_rfl) (cs) _ (B2.out).whole Try.underlying27 rfl (t5Size C5.out)) ?_
    refine lin_call 1 10 #[.agg cs.toArray] (some 13) _ (by kernel_rfl) (by kernel_rfl) (by kernel_rfl) ((by have h := great_walk t cs w2 (HT.out.below BE2.out) HS.out; rw [RG] at h; exact h)) ?_
    rintro e w3 ⟨rfl, hb⟩
    refine ⟨_, rfl, ?_⟩
    have B3 := Lib.hid (B2.out.below hb B2.out.lt)
    have BE3 : Hid (Below w.heap.size w w3) := BE2.out.trans (hb.mono BE2.out.size)
    clear hb B2 BE2
    refine lin_now 2 (.bool false) (some 14) (by kernel_rfl) (by kernel_rfl) (by kernel_rfl) ?_
    refine lin_now 3 (.int .i64 m) (some 15) (by kernel_rfl) (by kernel_rfl) (by kernel_rfl) ?_
    refine lin_now 4 (.bool (decide (m < 0))) (some 16) (by kernel_rfl) (by kernel_rfl) (by kernel_rfl) ?_
    rw [RM]
    refine lin_now 5 (.bool false) (some 17) (by kernel_rfl) (by kernel_rfl) (by kernel_rfl) ?_
    refine lin_now 6 (.bool false) (some 18) (by kernel_rfl) (by kernel_rfl) (by kernel_rfl) ?_
    refine lin_now 7 (.int .i64 m) (some 19) (by kernel_rfl) (by kernel_rfl) (by kernel_rfl) ?_
    refine lin_now 8 (.bool (decide (m > 1000))) (some 20) (by kernel_rfl) (by kernel_rfl) (by kernel_rfl) ?_
    rw [RK]
    refine lin_now 9 (.bool true) (some 21) (by kernel_rfl) (by kernel_rfl) (by kernel_rfl) ?_
    refine lin_now 10 (.bool true) (some 22) (by kernel_rfl) (by kernel_rfl) (by kernel_rfl) ?_
    refine lin_pass 11 (some 23) (by kernel_rfl) (by kernel_rfl) ?_
    refine lin_pass 12 (some 24) (by kernel_rfl) (by kernel_rfl) ?_
    refine lin_now 13 (.bool true) (some 25) (by kernel_rfl) (by kernel_rfl) (by kernel_rfl) ?_
    refine lin_now 14 (.bool true) (some 26) (by kernel_rfl) (by kernel_rfl) (by kernel_rfl) ?_
    refine lin_pass 15 (some 27) (by kernel_rfl) (by kernel_rfl) ?_
    refine lin_pass 16 (some 28) (by kernel_rfl) (by kernel_rfl) ?_
    refine lin_pass 17 (some 29) (by kernel_rfl) (by kernel_rfl) ?_
    refine lin_pass 18 (some 30) (by kernel_rfl) (by kernel_rfl) ?_
    refine lin_pass 19 (some 31) (by kernel_rfl) (by kernel_rfl) ?_
    refine lin_now 20 (.bool true) (some 32) (by kernel_rfl) (by kernel_rfl) (by kernel_rfl) ?_
    refine lin_done 21 (by kernel_rfl) ?_
    generalize hact : Act.put _ (some 32) _ = act
    simp only [Act.put, List.setIfInBounds_toArray, List.set_cons_succ, List.set_cons_zero] at hact
    subst hact
    go_wp2
    go_ret
    exact ⟨rfl, BE3.out⟩
  have RK : decide (m > 1000) = false := decide_eq_false h2
  by_cases h3 : v > 1000
  · have RV : decide (v > 1000) = true := decide_eq_true h3
    go_upto_region 3 with (fail)
    refine lin_begin (opsOf Try.f5 3) (by kernel_rfl) ?_
    refine lin_now 0 (.agg (cs).toArray) (some 12) (by kernel_rfl) (by kernel_rfl) (exec_load_mid 27 (.tmp 4) (by kernel_rfl) (q) 0 (by kernel_rfl) (cs) _ (B2.out).whole Try.underlying27 rfl (t5Size C5.out)) ?_
    refine lin_call 1 10 #[.agg cs.toArray] (some 13) _ (by kernel_rfl) (by kernel_rfl) (by kernel_rfl) ((by have h := great_walk t cs w2 (HT.out.below BE2.out) HS.out; rw [RG] at h; exact h)) ?_
    rintro e w3 ⟨rfl, hb⟩
    refine ⟨_, rfl, ?_⟩
    have B3 := Lib.hid (B2.out.below hb B2.out.lt)
    have BE3 : Hid (Below w.heap.size w w3) := BE2.out.trans (hb.mono BE2.out.size)
    clear hb B2 BE2
    refine lin_now 2 (.bool false) (some 14) (by kernel_rfl) (by kernel_rfl) (by kernel_rfl) ?_
    refine lin_now 3 (.int .i64 m) (some 15) (by kernel_rfl) (by kernel_rfl) (by kernel_rfl) ?_
    refine lin_now 4 (.bool (decide (m < 0))) (some 16) (by kernel_rfl) (by kernel_rfl) (by kernel_rfl) ?_
    rw [RM]
    refine lin_now 5 (.bool false) (some 17) (by kernel_rfl) (by kernel_rfl) (by kernel_rfl) ?_
    refine lin_now 6 (.bool false) (some 18) (by kernel_rfl) (by kernel_rfl) (by kernel_rfl) ?_
    refine lin_now 7 (.int .i64 m) (some 19) (by kernel_rfl) (by kernel_rfl) (by kernel_rfl) ?_
    refine lin_now 8 (.bool (decide (m > 1000))) (some 20) (by kernel_rfl) (by kernel_rfl) (by kernel_rfl) ?_
    rw [RK]
    refine lin_now 9 (.bool false) (some 21) (by kernel_rfl) (by kernel_rfl) (by kernel_rfl) ?_
    refine lin_now 10 (.bool false) (some 22) (by kernel_rfl) (by kernel_rfl) (by kernel_rfl) ?_
    refine lin_now 11 (.int .i64 v) (some 23) (by kernel_rfl) (by kernel_rfl) (by kernel_rfl) ?_
    refine lin_now 12 (.bool (decide (v > 1000))) (some 24) (by kernel_rfl) (by kernel_rfl) (by kernel_rfl) ?_
    rw [RV]
    refine lin_now 13 (.bool true) (some 25) (by kernel_rfl) (by kernel_rfl) (by kernel_rfl) ?_
    refine lin_now 14 (.bool true) (some 26) (by kernel_rfl) (by kernel_rfl) (by kernel_rfl) ?_
    refine lin_pass 15 (some 27) (by kernel_rfl) (by kernel_rfl) ?_
    refine lin_pass 16 (some 28) (by kernel_rfl) (by kernel_rfl) ?_
    refine lin_pass 17 (some 29) (by kernel_rfl) (by kernel_rfl) ?_
    refine lin_pass 18 (some 30) (by kernel_rfl) (by kernel_rfl) ?_
    refine lin_pass 19 (some 31) (by kernel_rfl) (by kernel_rfl) ?_
    refine lin_now 20 (.bool true) (some 32) (by kernel_rfl) (by kernel_rfl) (by kernel_rfl) ?_
    refine lin_done 21 (by kernel_rfl) ?_
    generalize hact : Act.put _ (some 32) _ = act
    simp only [Act.put, List.setIfInBounds_toArray, List.set_cons_succ, List.set_cons_zero] at hact
    subst hact
    go_wp2
    go_ret
    exact ⟨rfl, BE3.out⟩
  have RV : decide (v > 1000) = false := decide_eq_false h3
  cases RR : rightP p v t
  · skip
    go_upto_region 3 with (fail)
    refine lin_begin (opsOf Try.f5 3) (by kernel_rfl) ?_
    refine lin_now 0 (.agg (cs).toArray) (some 12) (by kernel_rfl) (by kernel_rfl) (exec_load_mid 27 (.tmp 4) (by kernel_rfl) (q) 0 (by kernel_rfl) (cs) _ (B2.out).whole Try.underlying27 rfl (t5Size C5.out)) ?_
    refine lin_call 1 10 #[.agg cs.toArray] (some 13) _ (by kernel_rfl) (by kernel_rfl) (by kernel_rfl) ((by have h := great_walk t cs w2 (HT.out.below BE2.out) HS.out; rw [RG] at h; exact h)) ?_
    rintro e w3 ⟨rfl, hb⟩
    refine ⟨_, rfl, ?_⟩
    have B3 := Lib.hid (B2.out.below hb B2.out.lt)
    have BE3 : Hid (Below w.heap.size w w3) := BE2.out.trans (hb.mono BE2.out.size)
    clear hb B2 BE2
    refine lin_now 2 (.bool false) (some 14) (by kernel_rfl) (by kernel_rfl) (by kernel_rfl) ?_
    refine lin_now 3 (.int .i64 m) (some 15) (by kernel_rfl) (by kernel_rfl) (by kernel_rfl) ?_
    refine lin_now 4 (.bool (decide (m < 0))) (some 16) (by kernel_rfl) (by kernel_rfl) (by kernel_rfl) ?_
    rw [RM]
    refine lin_now 5 (.bool false) (some 17) (by kernel_rfl) (by kernel_rfl) (by kernel_rfl) ?_
    refine lin_now 6 (.bool false) (some 18) (by kernel_rfl) (by kernel_rfl) (by kernel_rfl) ?_
    refine lin_now 7 (.int .i64 m) (some 19) (by kernel_rfl) (by kernel_rfl) (by kernel_rfl) ?_
    refine lin_now 8 (.bool (decide (m > 1000))) (some 20) (by kernel_rfl) (by kernel_rfl) (by kernel_rfl) ?_
    rw [RK]
    refine lin_now 9 (.bool false) (some 21) (by kernel_rfl) (by kernel_rfl) (by kernel_rfl) ?_
    refine lin_now 10 (.bool false) (some 22) (by kernel_rfl) (by kernel_rfl) (by kernel_rfl) ?_
    refine lin_now 11 (.int .i64 v) (some 23) (by kernel_rfl) (by kernel_rfl) (by kernel_rfl) ?_
    refine lin_now 12 (.bool (decide (v > 1000))) (some 24) (by kernel_rfl) (by kernel_rfl) (by kernel_rfl) ?_
    rw [RV]
    refine lin_now 13 (.bool false) (some 25) (by kernel_rfl) (by kernel_rfl) (by kernel_rfl) ?_
    refine lin_now 14 (.bool false) (some 26) (by kernel_rfl) (by kernel_rfl) (by kernel_rfl) ?_
    refine lin_now 15 (.agg (cs).toArray) (some 27) (by kernel_rfl) (by kernel_rfl) (exec_load_mid 27 (.tmp 4) (by kernel_rfl) (q) 0 (by kernel_rfl) (cs) _ (B3.out).whole Try.underlying27 rfl (t5Size C5.out)) ?_
    refine lin_now 16 (.int .i64 p) (some 28) (by kernel_rfl) (by kernel_rfl) (by kernel_rfl) ?_
    refine lin_now 17 (.int .i64 v) (some 29) (by kernel_rfl) (by kernel_rfl) (by kernel_rfl) ?_
    refine lin_call 18 20 #[.agg cs.toArray, .int .i64 p, .int .i64 v] (some 30) _ (by kernel_rfl) (by kernel_rfl) (by kernel_rfl) ((by have h := right_walk8 t cs p v w3 (HT.out.below BE3.out) HS.out (by have := NB.out; omega); rw [RR] at h; exact h)) ?_
    rintro e w4 ⟨rfl, hb⟩
    refine ⟨_, rfl, ?_⟩
    have B4 := Lib.hid (B3.out.below hb B3.out.lt)
    have BE4 : Hid (Below w.heap.size w w4) := BE3.out.trans (hb.mono BE3.out.size)
    clear hb B3 BE3
    refine lin_now 19 (.bool true) (some 31) (by kernel_rfl) (by kernel_rfl) (by kernel_rfl) ?_
    refine lin_now 20 (.bool true) (some 32) (by kernel_rfl) (by kernel_rfl) (by kernel_rfl) ?_
    refine lin_done 21 (by kernel_rfl) ?_
    generalize hact : Act.put _ (some 32) _ = act
    simp only [Act.put, List.setIfInBounds_toArray, List.set_cons_succ, List.set_cons_zero] at hact
    subst hact
    go_wp2
    go_ret
    exact ⟨rfl, BE4.out⟩
  have RT := rts_of RR (by omega) (by omega) (m := m) (by omega)
  go_upto_region 3 with (fail)
  refine lin_begin (opsOf Try.f5 3) (by kernel_rfl) ?_
  refine lin_now 0 (.agg (cs).toArray) (some 12) (by kernel_rfl) (by kernel_rfl) (exec_load_mid 27 (.tmp 4) (by kernel_rfl) (q) 0 (by kernel_rfl) (cs) _ (B2.out).whole Try.underlying27 rfl (t5Size C5.out)) ?_
  refine lin_call 1 10 #[.agg cs.toArray] (some 13) _ (by kernel_rfl) (by kernel_rfl) (by kernel_rfl) ((by have h := great_walk t cs w2 (HT.out.below BE2.out) HS.out; rw [RG] at h; exact h)) ?_
  rintro e w3 ⟨rfl, hb⟩
  refine ⟨_, rfl, ?_⟩
  have B3 := Lib.hid (B2.out.below hb B2.out.lt)
  have BE3 : Hid (Below w.heap.size w w3) := BE2.out.trans (hb.mono BE2.out.size)
  clear hb B2 BE2
  refine lin_now 2 (.bool false) (some 14) (by kernel_rfl) (by kernel_rfl) (by kernel_rfl) ?_
  refine lin_now 3 (.int .i64 m) (some 15) (by kernel_rfl) (by kernel_rfl) (by kernel_rfl) ?_
  refine lin_now 4 (.bool (decide (m < 0))) (some 16) (by kernel_rfl) (by kernel_rfl) (by kernel_rfl) ?_
  rw [RM]
  refine lin_now 5 (.bool false) (some 17) (by kernel_rfl) (by kernel_rfl) (by kernel_rfl) ?_
  refine lin_now 6 (.bool false) (some 18) (by kernel_rfl) (by kernel_rfl) (by kernel_rfl) ?_
  refine lin_now 7 (.int .i64 m) (some 19) (by kernel_rfl) (by kernel_rfl) (by kernel_rfl) ?_
  refine lin_now 8 (.bool (decide (m > 1000))) (some 20) (by kernel_rfl) (by kernel_rfl) (by kernel_rfl) ?_
  rw [RK]
  refine lin_now 9 (.bool false) (some 21) (by kernel_rfl) (by kernel_rfl) (by kernel_rfl) ?_
  refine lin_now 10 (.bool false) (some 22) (by kernel_rfl) (by kernel_rfl) (by kernel_rfl) ?_
  refine lin_now 11 (.int .i64 v) (some 23) (by kernel_rfl) (by kernel_rfl) (by kernel_rfl) ?_
  refine lin_now 12 (.bool (decide (v > 1000))) (some 24) (by kernel_rfl) (by kernel_rfl) (by kernel_rfl) ?_
  rw [RV]
  refine lin_now 13 (.bool false) (some 25) (by kernel_rfl) (by kernel_rfl) (by kernel_rfl) ?_
  refine lin_now 14 (.bool false) (some 26) (by kernel_rfl) (by kernel_rfl) (by kernel_rfl) ?_
  refine lin_now 15 (.agg (cs).toArray) (some 27) (by kernel_rfl) (by kernel_rfl) (exec_load_mid 27 (.tmp 4) (by kernel_rfl) (q) 0 (by kernel_rfl) (cs) _ (B3.out).whole Try.underlying27 rfl (t5Size C5.out)) ?_
  refine lin_now 16 (.int .i64 p) (some 28) (by kernel_rfl) (by kernel_rfl) (by kernel_rfl) ?_
  refine lin_now 17 (.int .i64 v) (some 29) (by kernel_rfl) (by kernel_rfl) (by kernel_rfl) ?_
  refine lin_call 18 20 #[.agg cs.toArray, .int .i64 p, .int .i64 v] (some 30) _ (by kernel_rfl) (by kernel_rfl) (by kernel_rfl) ((by have h := right_walk8 t cs p v w3 (HT.out.below BE3.out) HS.out (by have := NB.out; omega); rw [RR] at h; exact h)) ?_
  rintro e w4 ⟨rfl, hb⟩
  refine ⟨_, rfl, ?_⟩
  have B4 := Lib.hid (B3.out.below hb B3.out.lt)
  have BE4 : Hid (Below w.heap.size w w4) := BE3.out.trans (hb.mono BE3.out.size)
  clear hb B3 BE3
  refine lin_now 19 (.bool false) (some 31) (by kernel_rfl) (by kernel_rfl) (by kernel_rfl) ?_
  refine lin_now 20 (.bool false) (some 32) (by kernel_rfl) (by kernel_rfl) (by kernel_rfl) ?_
  refine lin_done 21 (by kernel_rfl) ?_
  generalize hact : Act.put _ (some 32) _ = act
  simp only [Act.put, List.setIfInBounds_toArray, List.set_cons_succ, List.set_cons_zero] at hact
  subst hact
  obtain ⟨n, hn⟩ : ∃ n, looseP t = n := ⟨_, rfl⟩
  obtain ⟨ra, rb, ⟨rc, rc2⟩, rd, re, rn⟩ := RT
  rw [hn] at rc rc2 rd re
  have hwr : IntKind.i64.wrap (v + m) = v + m := IntWalk.i64_in _ (by omega)
  go_upto_region 5 with (fail)
  refine lin_begin (opsOf Try.f5 5) (by kernel_rfl) ?_
  refine lin_now 0 (.agg (cs).toArray) (some 33) (by kernel_rfl) (by kernel_rfl) (exec_load_mid 27 (.tmp 4) (by kernel_rfl) (q) 0 (by kernel_rfl) (cs) _ (B4.out).whole Try.underlying27 rfl (t5Size C5.out)) ?_
  refine lin_call 1 21 #[.agg cs.toArray] (some 34) _ (by kernel_rfl) (by kernel_rfl) (by kernel_rfl) ((by have h := loose_walk t cs w4 (HT.out.below BE4.out) HS.out (by have := NB.out; omega); rw [hn] at h; exact h)) ?_
  rintro e w5 ⟨rfl, hb⟩
  refine ⟨_, rfl, ?_⟩
  have B5 := Lib.hid (B4.out.below hb B4.out.lt)
  have BE5 : Hid (Below w.heap.size w w5) := BE4.out.trans (hb.mono BE4.out.size)
  clear hb B4 BE4
  refine lin_now 2 (.int .i64 n) (some 9) (by kernel_rfl) (by kernel_rfl) (by kernel_rfl) ?_
  refine lin_done 3 (by kernel_rfl) ?_
  generalize hact : Act.put _ (some 9) _ = act
  simp only [Act.put, List.setIfInBounds_toArray, List.set_cons_succ, List.set_cons_zero] at hact
  subst hact
  clear RG RM RK RV
  by_cases hz : n = 0
  · subst hz
    clear re
    go_upto_region 6 with (fail)
    refine lin_begin (opsOf Try.f5 6) (by kernel_rfl) ?_
    refine lin_now 0 (.agg (cs).toArray) (some 35) (by kernel_rfl) (by kernel_rfl) (exec_load_mid 27 (.tmp 4) (by kernel_rfl) (q) 0 (by kernel_rfl) (cs) _ (B5.out).whole Try.underlying27 rfl (t5Size C5.out)) ?_
    refine lin_now 1 (.int .i64 v) (some 36) (by kernel_rfl) (by kernel_rfl) (by kernel_rfl) ?_
    refine lin_call 2 20 #[.agg cs.toArray, .int .i64 4, .int .i64 v] (some 37) _ (by kernel_rfl) (by kernel_rfl) (by kernel_rfl) ((by have h := right_walk8 t cs 4 v w5 (HT.out.below BE5.out) HS.out (by have := NB.out; omega); rw [ra] at h; exact h)) ?_
    rintro e w6 ⟨rfl, hb⟩
    refine ⟨_, rfl, ?_⟩
    have B6 := Lib.hid (B5.out.below hb B5.out.lt)
    have BE6 : Hid (Below w.heap.size w w6) := BE5.out.trans (hb.mono BE5.out.size)
    clear hb B5 BE5
    refine lin_now 3 (.bool true) (some 38) (by kernel_rfl) (by kernel_rfl) (by kernel_rfl) ?_
    refine lin_now 4 (.agg (cs).toArray) (some 39) (by kernel_rfl) (by kernel_rfl) (exec_load_mid 27 (.tmp 4) (by kernel_rfl) (q) 0 (by kernel_rfl) (cs) _ (B6.out).whole Try.underlying27 rfl (t5Size C5.out)) ?_
    refine lin_now 5 (.int .i64 p) (some 40) (by kernel_rfl) (by kernel_rfl) (by kernel_rfl) ?_
    refine lin_now 6 (.int .i64 v) (some 41) (by kernel_rfl) (by kernel_rfl) (by kernel_rfl) ?_
    refine lin_now 7 (.int .i64 m) (some 42) (by kernel_rfl) (by kernel_rfl) (by kernel_rfl) ?_
    refine lin_now 8 (.int .i64 (IntKind.i64.wrap (v + m))) (some 43) (by kernel_rfl) (by kernel_rfl) (by kernel_rfl) ?_
    rw [hwr]
    refine lin_call 9 20 #[.agg cs.toArray, .int .i64 p, .int .i64 (v + m)] (some 44) _ (by kernel_rfl) (by kernel_rfl) (by kernel_rfl) ((by have h := right_walk8 t cs p (v + m) w6 (HT.out.below BE6.out) HS.out (by have := NB.out; omega); rw [rb] at h; exact h)) ?_
    rintro e w7 ⟨rfl, hb⟩
    refine ⟨_, rfl, ?_⟩
    have B7 := Lib.hid (B6.out.below hb B6.out.lt)
    have BE7 : Hid (Below w.heap.size w w7) := BE6.out.trans (hb.mono BE6.out.size)
    clear hb B6 BE6
    refine lin_now 10 (.bool true) (some 45) (by kernel_rfl) (by kernel_rfl) (by kernel_rfl) ?_
    refine lin_now 11 (.bool true) (some 46) (by kernel_rfl) (by kernel_rfl) (by kernel_rfl) ?_
    refine lin_now 12 (.int .i64 0) (some 47) (by kernel_rfl) (by kernel_rfl) (by kernel_rfl) ?_
    refine lin_now 13 (.int .i64 v) (some 48) (by kernel_rfl) (by kernel_rfl) (by kernel_rfl) ?_
    refine lin_now 14 (.bool (decide (0 ≤ v))) (some 49) (by kernel_rfl) (by kernel_rfl) (by kernel_rfl) ?_
    rw [decide_eq_true rc2]
    refine lin_now 15 (.bool true) (some 50) (by kernel_rfl) (by kernel_rfl) (by kernel_rfl) ?_
    refine lin_now 16 (.bool true) (some 51) (by kernel_rfl) (by kernel_rfl) (by kernel_rfl) ?_
    refine lin_now 17 (.agg (cs).toArray) (some 52) (by kernel_rfl) (by kernel_rfl) (exec_load_mid 27 (.tmp 4) (by kernel_rfl) (q) 0 (by kernel_rfl) (cs) _ (B7.out).whole Try.underlying27 rfl (t5Size C5.out)) ?_
    refine lin_now 18 (.int .i64 p) (some 53) (by kernel_rfl) (by kernel_rfl) (by kernel_rfl) ?_
    refine lin_now 19 (.int .i64 0) (some 54) (by kernel_rfl) (by kernel_rfl) (by kernel_rfl) ?_
    refine lin_call 20 20 #[.agg cs.toArray, .int .i64 p, .int .i64 0] (some 55) _ (by kernel_rfl) (by kernel_rfl) (by kernel_rfl) ((by have h := right_walk8 t cs p 0 w7 (HT.out.below BE7.out) HS.out (by have := NB.out; omega); rw [rd] at h; exact h)) ?_
    rintro e w8 ⟨rfl, hb⟩
    refine ⟨_, rfl, ?_⟩
    have B8 := Lib.hid (B7.out.below hb B7.out.lt)
    have BE8 : Hid (Below w.heap.size w w8) := BE7.out.trans (hb.mono BE7.out.size)
    clear hb B7 BE7
    refine lin_now 21 (.bool true) (some 56) (by kernel_rfl) (by kernel_rfl) (by kernel_rfl) ?_
    refine lin_now 22 (.bool true) (some 57) (by kernel_rfl) (by kernel_rfl) (by kernel_rfl) ?_
    refine lin_now 23 (.int .i64 0) (some 58) (by kernel_rfl) (by kernel_rfl) (by kernel_rfl) ?_
    refine lin_now 24 (.bool true) (some 59) (by kernel_rfl) (by kernel_rfl) (by kernel_rfl) ?_
    refine lin_now 25 (.bool true) (some 60) (by kernel_rfl) (by kernel_rfl) (by kernel_rfl) ?_
    refine lin_pass 26 (some 61) (by kernel_rfl) (by kernel_rfl) ?_
    refine lin_pass 27 (some 62) (by kernel_rfl) (by kernel_rfl) ?_
    refine lin_pass 28 (some 63) (by kernel_rfl) (by kernel_rfl) ?_
    refine lin_pass 29 (some 64) (by kernel_rfl) (by kernel_rfl) ?_
    refine lin_pass 30 (some 65) (by kernel_rfl) (by kernel_rfl) ?_
    refine lin_pass 31 (some 66) (by kernel_rfl) (by kernel_rfl) ?_
    refine lin_pass 32 (some 67) (by kernel_rfl) (by kernel_rfl) ?_
    refine lin_pass 33 (some 68) (by kernel_rfl) (by kernel_rfl) ?_
    refine lin_pass 34 (some 69) (by kernel_rfl) (by kernel_rfl) ?_
    refine lin_pass 35 (some 70) (by kernel_rfl) (by kernel_rfl) ?_
    refine lin_pass 36 (some 71) (by kernel_rfl) (by kernel_rfl) ?_
    refine lin_pass 37 (some 72) (by kernel_rfl) (by kernel_rfl) ?_
    refine lin_pass 38 (some 73) (by kernel_rfl) (by kernel_rfl) ?_
    refine lin_now 39 (.bool true) (some 74) (by kernel_rfl) (by kernel_rfl) (by kernel_rfl) ?_
    refine lin_now 40 (.bool true) (some 75) (by kernel_rfl) (by kernel_rfl) (by kernel_rfl) ?_
    refine lin_now 41 (.bool true) (some 8) (by kernel_rfl) (by kernel_rfl) (by kernel_rfl) ?_
    refine lin_done 42 (by kernel_rfl) ?_
    generalize hact : Act.put _ (some 8) _ = act
    simp only [Act.put, List.setIfInBounds_toArray, List.set_cons_succ, List.set_cons_zero] at hact
    subst hact
    go_wp2
    go_ret
    exact ⟨rfl, BE8.out⟩
  obtain ⟨re1, re2⟩ := re hz
  have hwn : IntKind.i64.wrap (n - 1) = n - 1 := IntWalk.i64_in _ (by omega)
  go_upto_region 6 with (fail)
  refine lin_begin (opsOf Try.f5 6) (by kernel_rfl) ?_
  refine lin_now 0 (.agg (cs).toArray) (some 35) (by kernel_rfl) (by kernel_rfl) (exec_load_mid 27 (.tmp 4) (by kernel_rfl) (q) 0 (by kernel_rfl) (cs) _ (B5.out).whole Try.underlying27 rfl (t5Size C5.out)) ?_
  refine lin_now 1 (.int .i64 v) (some 36) (by kernel_rfl) (by kernel_rfl) (by kernel_rfl) ?_
  refine lin_call 2 20 #[.agg cs.toArray, .int .i64 4, .int .i64 v] (some 37) _ (by kernel_rfl) (by kernel_rfl) (by kernel_rfl) ((by have h := right_walk8 t cs 4 v w5 (HT.out.below BE5.out) HS.out (by have := NB.out; omega); rw [ra] at h; exact h)) ?_
  rintro e w6 ⟨rfl, hb⟩
  refine ⟨_, rfl, ?_⟩
  have B6 := Lib.hid (B5.out.below hb B5.out.lt)
  have BE6 : Hid (Below w.heap.size w w6) := BE5.out.trans (hb.mono BE5.out.size)
  clear hb B5 BE5
  refine lin_now 3 (.bool true) (some 38) (by kernel_rfl) (by kernel_rfl) (by kernel_rfl) ?_
  refine lin_now 4 (.agg (cs).toArray) (some 39) (by kernel_rfl) (by kernel_rfl) (exec_load_mid 27 (.tmp 4) (by kernel_rfl) (q) 0 (by kernel_rfl) (cs) _ (B6.out).whole Try.underlying27 rfl (t5Size C5.out)) ?_
  refine lin_now 5 (.int .i64 p) (some 40) (by kernel_rfl) (by kernel_rfl) (by kernel_rfl) ?_
  refine lin_now 6 (.int .i64 v) (some 41) (by kernel_rfl) (by kernel_rfl) (by kernel_rfl) ?_
  refine lin_now 7 (.int .i64 m) (some 42) (by kernel_rfl) (by kernel_rfl) (by kernel_rfl) ?_
  refine lin_now 8 (.int .i64 (IntKind.i64.wrap (v + m))) (some 43) (by kernel_rfl) (by kernel_rfl) (by kernel_rfl) ?_
  rw [hwr]
  refine lin_call 9 20 #[.agg cs.toArray, .int .i64 p, .int .i64 (v + m)] (some 44) _ (by kernel_rfl) (by kernel_rfl) (by kernel_rfl) ((by have h := right_walk8 t cs p (v + m) w6 (HT.out.below BE6.out) HS.out (by have := NB.out; omega); rw [rb] at h; exact h)) ?_
  rintro e w7 ⟨rfl, hb⟩
  refine ⟨_, rfl, ?_⟩
  have B7 := Lib.hid (B6.out.below hb B6.out.lt)
  have BE7 : Hid (Below w.heap.size w w7) := BE6.out.trans (hb.mono BE6.out.size)
  clear hb B6 BE6
  refine lin_now 10 (.bool true) (some 45) (by kernel_rfl) (by kernel_rfl) (by kernel_rfl) ?_
  refine lin_now 11 (.bool true) (some 46) (by kernel_rfl) (by kernel_rfl) (by kernel_rfl) ?_
  refine lin_now 12 (.int .i64 n) (some 47) (by kernel_rfl) (by kernel_rfl) (by kernel_rfl) ?_
  refine lin_now 13 (.int .i64 v) (some 48) (by kernel_rfl) (by kernel_rfl) (by kernel_rfl) ?_
  refine lin_now 14 (.bool (decide (n ≤ v))) (some 49) (by kernel_rfl) (by kernel_rfl) (by kernel_rfl) ?_
  rw [decide_eq_true rc2]
  refine lin_now 15 (.bool true) (some 50) (by kernel_rfl) (by kernel_rfl) (by kernel_rfl) ?_
  refine lin_now 16 (.bool true) (some 51) (by kernel_rfl) (by kernel_rfl) (by kernel_rfl) ?_
  refine lin_now 17 (.agg (cs).toArray) (some 52) (by kernel_rfl) (by kernel_rfl) (exec_load_mid 27 (.tmp 4) (by kernel_rfl) (q) 0 (by kernel_rfl) (cs) _ (B7.out).whole Try.underlying27 rfl (t5Size C5.out)) ?_
  refine lin_now 18 (.int .i64 p) (some 53) (by kernel_rfl) (by kernel_rfl) (by kernel_rfl) ?_
  refine lin_now 19 (.int .i64 n) (some 54) (by kernel_rfl) (by kernel_rfl) (by kernel_rfl) ?_
  refine lin_call 20 20 #[.agg cs.toArray, .int .i64 p, .int .i64 n] (some 55) _ (by kernel_rfl) (by kernel_rfl) (by kernel_rfl) ((by have h := right_walk8 t cs p n w7 (HT.out.below BE7.out) HS.out (by have := NB.out; omega); rw [rd] at h; exact h)) ?_
  rintro e w8 ⟨rfl, hb⟩
  refine ⟨_, rfl, ?_⟩
  have B8 := Lib.hid (B7.out.below hb B7.out.lt)
  have BE8 : Hid (Below w.heap.size w w8) := BE7.out.trans (hb.mono BE7.out.size)
  clear hb B7 BE7
  refine lin_now 21 (.bool true) (some 56) (by kernel_rfl) (by kernel_rfl) (by kernel_rfl) ?_
  refine lin_now 22 (.bool true) (some 57) (by kernel_rfl) (by kernel_rfl) (by kernel_rfl) ?_
  refine lin_now 23 (.int .i64 n) (some 58) (by kernel_rfl) (by kernel_rfl) (by kernel_rfl) ?_
  refine lin_now 24 (.bool (decide (n = 0))) (some 59) (by kernel_rfl) (by kernel_rfl) (by kernel_rfl) ?_
  rw [decide_eq_false hz]
  refine lin_now 25 (.bool false) (some 60) (by kernel_rfl) (by kernel_rfl) (by kernel_rfl) ?_
  refine lin_now 26 (.agg (cs).toArray) (some 61) (by kernel_rfl) (by kernel_rfl) (exec_load_mid 27 (.tmp 4) (by kernel_rfl) (q) 0 (by kernel_rfl) (cs) _ (B8.out).whole Try.underlying27 rfl (t5Size C5.out)) ?_
  refine lin_now 27 (.int .i64 p) (some 62) (by kernel_rfl) (by kernel_rfl) (by kernel_rfl) ?_
  refine lin_now 28 (.int .i64 n) (some 63) (by kernel_rfl) (by kernel_rfl) (by kernel_rfl) ?_
  refine lin_now 29 (.int .i64 (IntKind.i64.wrap (n - 1))) (some 64) (by kernel_rfl) (by kernel_rfl) (by kernel_rfl) ?_
  rw [hwn]
  refine lin_call 30 20 #[.agg cs.toArray, .int .i64 p, .int .i64 (n - 1)] (some 65) _ (by kernel_rfl) (by kernel_rfl) (by kernel_rfl) ((by have h := right_walk8 t cs p (n - 1) w8 (HT.out.below BE8.out) HS.out (by have := NB.out; omega); rw [re1] at h; exact h)) ?_
  rintro e w9 ⟨rfl, hb⟩
  refine ⟨_, rfl, ?_⟩
  have B9 := Lib.hid (B8.out.below hb B8.out.lt)
  have BE9 : Hid (Below w.heap.size w w9) := BE8.out.trans (hb.mono BE8.out.size)
  clear hb B8 BE8
  refine lin_now 31 (.bool true) (some 66) (by kernel_rfl) (by kernel_rfl) (by kernel_rfl) ?_
  refine lin_now 32 (.bool true) (some 67) (by kernel_rfl) (by kernel_rfl) (by kernel_rfl) ?_
  refine lin_now 33 (.agg (cs).toArray) (some 68) (by kernel_rfl) (by kernel_rfl) (exec_load_mid 27 (.tmp 4) (by kernel_rfl) (q) 0 (by kernel_rfl) (cs) _ (B9.out).whole Try.underlying27 rfl (t5Size C5.out)) ?_
  refine lin_now 34 (.int .i64 n) (some 69) (by kernel_rfl) (by kernel_rfl) (by kernel_rfl) ?_
  refine lin_now 35 (.int .i64 (IntKind.i64.wrap (n - 1))) (some 70) (by kernel_rfl) (by kernel_rfl) (by kernel_rfl) ?_
  rw [hwn]
  refine lin_call 36 22 #[.agg cs.toArray, .int .i64 (n - 1)] (some 71) _ (by kernel_rfl) (by kernel_rfl) (by kernel_rfl) (uses_walk t (n - 1) cs w9 (HT.out.below BE9.out) HS.out (by have := NB.out; omega)) ?_
  rintro e w10 ⟨rfl, hb⟩
  refine ⟨_, rfl, ?_⟩
  have B10 := Lib.hid (B9.out.below hb B9.out.lt)
  have BE10 : Hid (Below w.heap.size w w10) := BE9.out.trans (hb.mono BE9.out.size)
  clear hb B9 BE9
  refine lin_now 37 (.bool (decide (usesP (n - 1) t > 0))) (some 72) (by kernel_rfl) (by kernel_rfl) (by kernel_rfl) ?_
  rw [decide_eq_true re2]
  refine lin_now 38 (.bool true) (some 73) (by kernel_rfl) (by kernel_rfl) (by kernel_rfl) ?_
  refine lin_now 39 (.bool true) (some 74) (by kernel_rfl) (by kernel_rfl) (by kernel_rfl) ?_
  refine lin_now 40 (.bool true) (some 75) (by kernel_rfl) (by kernel_rfl) (by kernel_rfl) ?_
  refine lin_now 41 (.bool true) (some 8) (by kernel_rfl) (by kernel_rfl) (by kernel_rfl) ?_
  refine lin_done 42 (by kernel_rfl) ?_
  generalize hact : Act.put _ (some 8) _ = act
  simp only [Act.put, List.setIfInBounds_toArray, List.set_cons_succ, List.set_cons_zero] at hact
  subst hact
  go_wp2
  go_ret
  exact ⟨rfl, BE10.out⟩
end Go.Proofs.Ytlheikhjgdhmmaa
