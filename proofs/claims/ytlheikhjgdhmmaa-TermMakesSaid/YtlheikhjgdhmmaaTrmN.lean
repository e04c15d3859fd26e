/- The law TermMakes. -/
import Derived.Test.YtlheikhjgdhmmaaTrmL
namespace Go.Proofs.Ytlheikhjgdhmmaa
open Go Go.RowKit
set_option maxRecDepth 100000

theorem tms_low {F : List Nat} {w : World} {ts1 ts2 : List Tm} {v : Value} (h : TmsAt F w (ts1 ++ ts2) v) (w' : World) : ∃ v', (Instr.sliceAt 25 v (some (.int .i64 (ts1.length : Int))) none none).run Try.prog w' = .ok v' w' ∧ TmsAt F w ts2 v' := by
  obtain ⟨a, c, rfl⟩ := h.slice
  have hz : (sizeOf (Try.prog.elem 25)).run Try.prog w' = .ok 5 w' := by kernel_rfl
  rw [run_sliceAt_slice w' 25 _ _ _ _ elemTms, run_slice_l w' 25 _ _ c elemTms .i64 (ts1.length : Int) (by omega) (by simp; omega), hz]
  simp only [Result.andThen_ok, sliced, Int.toNat_natCast]
  refine ⟨_, rfl, ?_⟩
  cases ts2 with
  | nil =>
    rw [List.append_nil, Nat.sub_self]
    exact TmsAt.nil _ _ _ _
  | cons t ts =>
    obtain ⟨x, pb, po, cs, -, -, rfl, hF, hb, hc, -, -⟩ := h.get rfl (i := ts1.length) (by simp)
    have hlen : (ts1 ++ t :: ts).length - ts1.length = (t :: ts).length := by simp
    rw [hlen, if_neg (by simp at hc; omega)]
    simp only [Option.map_some, Addr.add_mid, Nat.mul_comm ts1.length 5]
    refine TmsAt.of (by simp at hc ⊢; omega) hF hb fun i y hy => ?_
    have hi := (List.getElem?_eq_some_iff.1 hy).1
    obtain ⟨x, pb2, po2, cs, hx, -, e, -, -, -, hr, ht⟩ := h.get rfl (i := ts1.length + i) (by simp at hi ⊢; omega)
    cases e
    rw [List.getElem?_append_right (by omega), Nat.add_sub_cancel_left, hy] at hx
    cases hx
    exact ⟨cs, by rw [show po + 5 * ts1.length + 5 * i = po + 5 * (ts1.length + i) by omega]; exact hr, ht⟩
theorem tms_high {F : List Nat} {w : World} {ts1 ts2 : List Tm} {v : Value} (h : TmsAt F w (ts1 ++ ts2) v) (w' : World) : ∃ v', (Instr.sliceAt 25 v none (some (.int .i64 (ts1.length : Int))) none).run Try.prog w' = .ok v' w' ∧ TmsAt F w ts1 v' := by
  obtain ⟨a, c, rfl⟩ := h.slice
  have hz : (sizeOf (Try.prog.elem 25)).run Try.prog w' = .ok 5 w' := by kernel_rfl
  have hle : ts1.length ≤ c := by
    by_cases h0 : 0 < (ts1 ++ ts2).length
    · obtain ⟨x, pb, po, cs, -, -, -, -, -, hc, -, -⟩ := h.get rfl (i := 0) h0
      simp at hc
      omega
    · rw [Nat.not_lt, Nat.le_zero, List.length_append] at h0
      omega
  rw [run_sliceAt_slice w' 25 _ _ _ _ elemTms, run_slice_h w' 25 _ _ c elemTms .i64 (ts1.length : Int) (by omega) (by omega), hz]
  simp only [Result.andThen_ok, sliced, Int.toNat_natCast, Nat.sub_zero, Nat.zero_mul]
  refine ⟨_, rfl, ?_⟩
  cases ts1 with
  | nil => exact TmsAt.nil _ _ _ _
  | cons t ts =>
    obtain ⟨x, pb, po, cs, -, -, rfl, hF, hb, hc, -, -⟩ := h.get rfl (i := 0) (by simp)
    simp only [Option.map_some, Addr.add_mid, Nat.add_zero, ite_self]
    refine TmsAt.of hle hF hb fun i y hy => ?_
    have hi := (List.getElem?_eq_some_iff.1 hy).1
    obtain ⟨x, pb2, po2, cs, hx, -, e, -, -, -, hr, ht⟩ := h.get rfl (i := i) (by simp at hi ⊢; omega)
    cases e
    rw [List.getElem?_append_left hi, hy] at hx
    cases hx
    exact ⟨cs, hr, ht⟩
theorem spine_len (t : Tm) : (spineT t).2.length ≤ nodesT t := by
  refine Tm.byParts (C := fun t => (spineT t).2.length ≤ nodesT t) (fun k n s ls a ih => ?_) t
  match a, ih with
  | [], _ => simp [spineT]
  | [x], _ => simp [spineT]
  | [f, x], ih =>
    by_cases hk : k = 5
    · subst hk
      have := ih f (by simp)
      rw [spine_node]
      simp [nodesT, nodesTs]
      omega
    · unfold spineT
      split
      · rename_i h
        simp at h
        omega
      · simp
  | _ :: _ :: _ :: _, _ => simp [spineT]
theorem sm_app : ∀ (l : List Tm) (f : Tm), SmT f → SmTs l → SmT (appT f l)
  | [], _, h, _ => h
  | x :: l, f, h, hs => by
    rw [SmTs] at hs
    exact sm_app l _ (sm_two 5 h hs.1) hs.2
theorem sm_bind (k : Int) : ∀ (l : List Tm) (f : Tm), SmT f → SmTs l → SmT (bindT k f l)
  | [], _, h, _ => h
  | x :: l, f, h, hs => by
    rw [SmTs] at hs
    exact sm_two k hs.1 (sm_bind k l f h hs.2)
theorem nodes_app : ∀ (l : List Tm) (f : Tm), nodesT (appT f l) = nodesT f + l.length + nodesTs l
  | [], f => by simp [appT, nodesTs]
  | x :: l, f => by
    rw [appT, nodes_app l]
    simp [nodesT, nodesTs]
    omega
theorem nodes_bind (k : Int) : ∀ (l : List Tm) (f : Tm), nodesT (bindT k f l) = nodesT f + l.length + nodesTs l
  | [], f => by simp [bindT, nodesTs]
  | x :: l, f => by
    rw [bindT, nodesT, nodesTs, nodesTs, nodes_bind k l f]
    simp [nodesTs]
    omega
theorem nodes_sum : ∀ (l : List Tm), (∀ x ∈ l, nodesT x ≤ 400) → nodesTs l ≤ 400 * l.length
  | [], _ => by simp [nodesTs]
  | x :: l, h => by
    have h1 := h x List.mem_cons_self
    have h2 := nodes_sum l (fun y hy => h y (List.mem_cons_of_mem _ hy))
    simp [nodesTs]
    omega
theorem TmAt.fresh {m : Nat} {w : World} {t : Tm} {cs : List Value} (h : TmAt (List.range m) w t cs) : TmAt [] w t cs := TmAt.sub (fun k hk => by cases hk) _ _ h
theorem TmsAt.fresh {m : Nat} {w : World} {ts : List Tm} {v : Value} (h : TmsAt (List.range m) w ts v) : TmsAt [] w ts v := TmsAt.sub (fun k hk => by cases hk) _ _ h

theorem sm_spine (t : Tm) : SmT t → SmT (spineT t).1 := by
  refine Tm.byParts (C := fun t => SmT t → SmT (spineT t).1) (fun k n s ls a ih h => ?_) t
  match a, ih, h with
  | [], _, h => simpa [spineT] using h
  | [x], _, h => simpa [spineT] using h
  | [f, x], ih, h =>
    by_cases hk : k = 5
    · subst hk
      rw [spine_node]
      exact ih f (by simp) (h.args (by simp [Tm.args]))
    · unfold spineT
      split
      · rename_i h2
        simp at h2
        omega
      · exact h
  | _ :: _ :: _ :: _, _, h => simpa [spineT] using h
set_option maxHeartbeats 16000000 in
theorem makes_main {F : List Nat} (f : Tm) (fc : List Value) (l : List Tm) (lv : Value) (k : Int) (w : World) (hf : TmAt F w f fc) (hfs : SmT f) (hl : TmsAt F w l lv) (ss : SmTs l) (sa : l.length * 80 ≤ reachBytes) : Calls Try.prog 4 #[.agg fc.toArray, lv, .int .i64 k] w fun e w' => e = .returned (.bool true) ∧ Below w.heap.size w w' := by
  obtain ⟨aa, ac, rfl⟩ := hl.slice
  obtain ⟨N, hAN⟩ : ∃ N, Hid (l.length = N) := ⟨_, rfl⟩
  have hr : reachBytes = 140737488351232 := rfl
  rw [hr] at sa
  rw [hAN.out] at hl sa ⊢
  have HF := Lib.hid hf
  have HFS := Lib.hid hfs
  have HL := Lib.hid hl
  have SS := Lib.hid ss
  have SA := Lib.hid sa
  have C5 := Lib.hid hf.len
  clear hf hfs hl ss sa
  obtain ⟨q, hq⟩ : ∃ q, Hid (w.heap.size = q) := ⟨_, rfl⟩
  go_enter Try.func4, Try.ntmps4
  go_upto_region 0 with (fail)
  refine lin_begin (opsOf Try.f4 0) (by kernel_rfl) ?_
  refine lin_box 0 27 (.tmp 0) (fc) (q) (some 3) (by kernel_rfl) (by kernel_rfl) (by kernel_rfl) (by kernel_rfl) hq ?_
  intro w1 bw1 bew1 hsw1
  refine lin_now 1 (.bool false) (some 6) (by kernel_rfl) (by kernel_rfl) (by kernel_rfl) ?_
  refine lin_done 2 (by kernel_rfl) ?_
  generalize hact : Act.put _ (some 6) _ = act
  simp only [Act.put, List.setIfInBounds_toArray, List.set_cons_succ, List.set_cons_zero] at hact
  subst hact
  have B1 := Lib.hid bw1
  have BE1 : Hid (Below w.heap.size w w1) := by rw [Hid, hq.out]; exact bew1
  clear bw1 bew1 hsw1
  go_upto_region 1 with (fail)
  refine lin_begin (opsOf Try.f4 1) (by kernel_rfl) ?_
  refine lin_call 0 7 #[] (some 16) _ (by kernel_rfl) (by kernel_rfl) (by kernel_rfl) (alive8_walk w1) ?_
  rintro e w2 ⟨rfl, hb2⟩
  refine ⟨_, rfl, ?_⟩
  refine lin_now 1 (.bool false) (some 17) (by kernel_rfl) (by kernel_rfl) (by kernel_rfl) ?_
  refine lin_done 2 (by kernel_rfl) ?_
  generalize hact : Act.put _ (some 17) _ = act
  simp only [Act.put, List.setIfInBounds_toArray, List.set_cons_succ, List.set_cons_zero] at hact
  subst hact
  have B2 := Lib.hid (B1.out.below hb2 B1.out.lt)
  have BE2 : Hid (Below w.heap.size w w2) := BE1.out.trans (hb2.mono BE1.out.size)
  clear hb2 B1 BE1
  by_cases hg : 3600 < nodesT f
  · have RG : decide (3600 < nodesT f) = true := decide_eq_true hg
    go_upto_region 3 with (fail)
    refine lin_begin (opsOf Try.f4 3) (by kernel_rfl) ?_
    refine lin_now 0 (.agg (fc).toArray) (some 18) (by kernel_rfl) (by kernel_rfl) (exec_load_mid 27 (.tmp 3) (by kernel_rfl) (q) 0 (by kernel_rfl) (fc) _ (B2.out).whole Try.underlying27 rfl (t5Size C5.out)) ?_
    refine lin_call 1 10 #[.agg fc.toArray] (some 19) _ (by kernel_rfl) (by kernel_rfl) (by kernel_rfl) ((by have h := great_walk f fc w2 (HF.out.below BE2.out) HFS.out; rw [RG] at h; exact h)) ?_
    rintro e w3 ⟨rfl, hb⟩
    refine ⟨_, rfl, ?_⟩
    have B3 := Lib.hid (B2.out.below hb B2.out.lt)
    have BE3 : Hid (Below w.heap.size w w3) := BE2.out.trans (hb.mono BE2.out.size)
    clear hb B2 BE2
    refine lin_now 2 (.bool true) (some 20) (by kernel_rfl) (by kernel_rfl) (by kernel_rfl) ?_
    refine lin_pass 3 (some 21) (by kernel_rfl) (by kernel_rfl) ?_
    refine lin_pass 4 (some 22) (by kernel_rfl) (by kernel_rfl) ?_
    refine lin_pass 5 (some 23) (by kernel_rfl) (by kernel_rfl) ?_
    refine lin_now 6 (.bool true) (some 24) (by kernel_rfl) (by kernel_rfl) (by kernel_rfl) ?_
    refine lin_done 7 (by kernel_rfl) ?_
    generalize hact : Act.put _ (some 24) _ = act
    simp only [Act.put, List.setIfInBounds_toArray, List.set_cons_succ, List.set_cons_zero] at hact
    subst hact
    go_wp2
    go_ret
    exact ⟨rfl, BE3.out⟩
  have RG : decide (3600 < nodesT f) = false := decide_eq_false hg
  have NB : Hid (nodesT f ≤ 3600) := by rw [Hid]; omega
  clear hg
  by_cases h8 : (N : Int) > 8
  · have RN : decide ((N : Int) > 8) = true := decide_eq_true h8
    go_upto_region 3 with (fail)
    refine lin_begin (opsOf Try.f4 3) (by kernel_rfl) ?_
    refine lin_now 0 (.agg (fc).toArray) (some 18) (by kernel_rfl) (by kernel_rfl) (exec_load_mid 27 (.tmp 3) (by kernel_rfl) (q) 0 (by kernel_rfl) (fc) _ (B2.out).whole Try.underlying27 rfl (t5Size C5.out)) ?_
    refine lin_call 1 10 #[.agg fc.toArray] (some 19) _ (by kernel_rfl) (by kernel_rfl) (by kernel_rfl) ((by have h := great_walk f fc w2 (HF.out.below BE2.out) HFS.out; rw [RG] at h; exact h)) ?_
    rintro e w3 ⟨rfl, hb⟩
    refine ⟨_, rfl, ?_⟩
    have B3 := Lib.hid (B2.out.below hb B2.out.lt)
    have BE3 : Hid (Below w.heap.size w w3) := BE2.out.trans (hb.mono BE2.out.size)
    clear hb B2 BE2
    refine lin_now 2 (.bool false) (some 20) (by kernel_rfl) (by kernel_rfl) (by kernel_rfl) ?_
    refine lin_now 3 (.slice aa N ac) (some 21) (by kernel_rfl) (by kernel_rfl) (by kernel_rfl) ?_
    refine lin_now 4 (.int .i64 (N : Int)) (some 22) (by kernel_rfl) (by kernel_rfl) (by kernel_rfl) ?_
    refine lin_now 5 (.bool (decide ((N : Int) > 8))) (some 23) (by kernel_rfl) (by kernel_rfl) (by kernel_rfl) ?_
    rw [RN]
    refine lin_now 6 (.bool true) (some 24) (by kernel_rfl) (by kernel_rfl) (by kernel_rfl) ?_
    refine lin_done 7 (by kernel_rfl) ?_
    generalize hact : Act.put _ (some 24) _ = act
    simp only [Act.put, List.setIfInBounds_toArray, List.set_cons_succ, List.set_cons_zero] at hact
    subst hact
    go_wp2
    go_ret
    exact ⟨rfl, BE3.out⟩
  have RN : decide ((N : Int) > 8) = false := decide_eq_false h8
  have N8 : Hid (N ≤ 8) := by rw [Hid]; omega
  go_upto_region 3 with (fail)
  refine lin_begin (opsOf Try.f4 3) (by kernel_rfl) ?_
  refine lin_now 0 (.agg (fc).toArray) (some 18) (by kernel_rfl) (by kernel_rfl) (exec_load_mid 27 (.tmp 3) (by kernel_rfl) (q) 0 (by kernel_rfl) (fc) _ (B2.out).whole Try.underlying27 rfl (t5Size C5.out)) ?_
  refine lin_call 1 10 #[.agg fc.toArray] (some 19) _ (by kernel_rfl) (by kernel_rfl) (by kernel_rfl) ((by have h := great_walk f fc w2 (HF.out.below BE2.out) HFS.out; rw [RG] at h; exact h)) ?_
  rintro e w3 ⟨rfl, hb⟩
  refine ⟨_, rfl, ?_⟩
  have B3 := Lib.hid (B2.out.below hb B2.out.lt)
  have BE3 : Hid (Below w.heap.size w w3) := BE2.out.trans (hb.mono BE2.out.size)
  clear hb B2 BE2
  refine lin_now 2 (.bool false) (some 20) (by kernel_rfl) (by kernel_rfl) (by kernel_rfl) ?_
  refine lin_now 3 (.slice aa N ac) (some 21) (by kernel_rfl) (by kernel_rfl) (by kernel_rfl) ?_
  refine lin_now 4 (.int .i64 (N : Int)) (some 22) (by kernel_rfl) (by kernel_rfl) (by kernel_rfl) ?_
  refine lin_now 5 (.bool (decide ((N : Int) > 8))) (some 23) (by kernel_rfl) (by kernel_rfl) (by kernel_rfl) ?_
  rw [RN]
  refine lin_now 6 (.bool false) (some 24) (by kernel_rfl) (by kernel_rfl) (by kernel_rfl) ?_
  refine lin_done 7 (by kernel_rfl) ?_
  generalize hact : Act.put _ (some 24) _ = act
  simp only [Act.put, List.setIfInBounds_toArray, List.set_cons_succ, List.set_cons_zero] at hact
  subst hact
  clear RG RN h8
  go_upto_region 5 with (fail)
  refine lin_begin (opsOf Try.f4 5) (by kernel_rfl) ?_
  refine lin_now 0 (.int .i64 0) (some 7) (by kernel_rfl) (by kernel_rfl) (by kernel_rfl) ?_
  refine lin_done 1 (by kernel_rfl) ?_
  generalize hact : Act.put _ (some 7) _ = act
  simp only [Act.put, List.setIfInBounds_toArray, List.set_cons_succ, List.set_cons_zero] at hact
  subst hact
  go_wp2
  go_loopw [7] (fun iv wr => ∃ i : Nat, i ≤ N ∧ iv = .int .i64 (i : Int) ∧ Hid (∀ (j : Nat) (x : Tm), j < i → l[j]? = some x → nodesT x ≤ 400) ∧ Hid (Blk wr q 27 fc) ∧ Hid (Below w.heap.size w wr)) (fun iv _ => N - (intOf iv).toNat)
  case atStart => exact ⟨0, Nat.zero_le _, rfl, fun j x hj => absurd hj (Nat.not_lt_zero _), B3, BE3⟩
  case round =>
    obtain ⟨i, hi, rfl, AL, BQ, BE⟩ := hrel
    by_cases hlt : i < N
    · have r1 : (i : Int) < (N : Int) := by omega
      have H1r : TmsAt F wr l (.slice aa N ac) := HL.out.below BE.out
      obtain ⟨x, pb, po, cx, hx, hxm, haa, -, -, -, hrx, htx⟩ := H1r.get hAN.out hlt
      subst haa
      have SX := SmTs.mem SS.out hxm
      have HX := Lib.hid hrx
      have X5 := Lib.hid htx.len
      have HXI := Lib.hid hx
      have CALL := tnodes_walk x cx wr 400 F htx SX (by omega)
      clear hx hxm hrx htx H1r
      obtain ⟨m, hm⟩ : ∃ m : Int, Hid (((min (nodesT x) (400 + 1) : Nat) : Int) = m) := ⟨_, rfl⟩
      rw [hm.out] at CALL
      by_cases hgt : m > 400
      · have RM : decide (m > 400) = true := decide_eq_true hgt
        go_upto_region 8 with (fail)
        refine lin_begin (opsOf Try.f4 8) (by kernel_rfl) ?_
        refine lin_now 0 (.slice (some ⟨pb, po, none⟩) N ac) (some 31) (by kernel_rfl) (by kernel_rfl) (by kernel_rfl) ?_
        refine lin_now 1 (.int .i64 (i : Int)) (some 32) (by kernel_rfl) (by kernel_rfl) (by kernel_rfl) ?_
        refine lin_now 2 (.pointer (some ⟨pb, po + 5 * i, none⟩)) (some 33) (by kernel_rfl) (by kernel_rfl) (exec_indexAt 25 (.tmp 31) (.tmp 32) (by kernel_rfl) _ _ _ (by kernel_rfl) (by kernel_rfl) (run_at_tm pb po N ac i hlt _)) ?_
        refine lin_now 3 (.agg cx.toArray) (some 34) (by kernel_rfl) (by kernel_rfl) (exec_load_mid 27 (.tmp 33) (by kernel_rfl) pb (po + 5 * i) (by kernel_rfl) cx _ HX.out Try.underlying27 rfl (t5Size X5.out)) ?_
        refine lin_call 4 11 #[.agg cx.toArray, .int .i64 400] (some 35) _ (by kernel_rfl) (by kernel_rfl) (by kernel_rfl) (CALL) ?_
        rintro e w9 ⟨rfl, hb⟩
        refine ⟨_, rfl, ?_⟩
        have BN : Hid (Below w.heap.size w w9) := BE.out.trans (hb.mono BE.out.size)
        have BQN := Lib.hid (BQ.out.below hb BQ.out.lt)
        clear hb BQ BE CALL HX
        refine lin_now 5 (.bool (decide (m > 400))) (some 36) (by kernel_rfl) (by kernel_rfl) (by kernel_rfl) ?_
        rw [RM]
        refine lin_done 6 (by kernel_rfl) ?_
        generalize hact : Act.put _ (some 36) _ = act
        simp only [Act.put, List.setIfInBounds_toArray, List.set_cons_succ, List.set_cons_zero] at hact
        subst hact
        go_wp2
        go_ret
        exact ⟨rfl, BN.out⟩
      have RM : decide (m > 400) = false := decide_eq_false hgt
      have XL : nodesT x ≤ 400 := by have := hm.out; omega
      go_upto_region 8 with (fail)
      refine lin_begin (opsOf Try.f4 8) (by kernel_rfl) ?_
      refine lin_now 0 (.slice (some ⟨pb, po, none⟩) N ac) (some 31) (by kernel_rfl) (by kernel_rfl) (by kernel_rfl) ?_
      refine lin_now 1 (.int .i64 (i : Int)) (some 32) (by kernel_rfl) (by kernel_rfl) (by kernel_rfl) ?_
      refine lin_now 2 (.pointer (some ⟨pb, po + 5 * i, none⟩)) (some 33) (by kernel_rfl) (by kernel_rfl) (exec_indexAt 25 (.tmp 31) (.tmp 32) (by kernel_rfl) _ _ _ (by kernel_rfl) (by kernel_rfl) (run_at_tm pb po N ac i hlt _)) ?_
      refine lin_now 3 (.agg cx.toArray) (some 34) (by kernel_rfl) (by kernel_rfl) (exec_load_mid 27 (.tmp 33) (by kernel_rfl) pb (po + 5 * i) (by kernel_rfl) cx _ HX.out Try.underlying27 rfl (t5Size X5.out)) ?_
      refine lin_call 4 11 #[.agg cx.toArray, .int .i64 400] (some 35) _ (by kernel_rfl) (by kernel_rfl) (by kernel_rfl) (CALL) ?_
      rintro e w9 ⟨rfl, hb⟩
      refine ⟨_, rfl, ?_⟩
      have BN : Hid (Below w.heap.size w w9) := BE.out.trans (hb.mono BE.out.size)
      have BQN := Lib.hid (BQ.out.below hb BQ.out.lt)
      clear hb BQ BE CALL HX
      refine lin_now 5 (.bool (decide (m > 400))) (some 36) (by kernel_rfl) (by kernel_rfl) (by kernel_rfl) ?_
      rw [RM]
      refine lin_done 6 (by kernel_rfl) ?_
      generalize hact : Act.put _ (some 36) _ = act
      simp only [Act.put, List.setIfInBounds_toArray, List.set_cons_succ, List.set_cons_zero] at hact
      subst hact
      have AN : Hid (∀ (j : Nat) (y : Tm), j < i + 1 → l[j]? = some y → nodesT y ≤ 400) := fun j y hj hy => by
        by_cases e : j = i
        · subst e; rw [HXI.out] at hy; cases hy; exact XL
        · exact AL.out j y (by omega) hy
      clear XL HXI AL RM hgt hm
      have bl := SA.out
      go_wp2
      go_roundw
      case rel => exact ⟨i + 1, by omega, by go_num, AN, BQN, BN⟩
      case measure => simp [intOf]; omega
    have r1 : ¬ (i : Int) < (N : Int) := by omega
    have HN : Hid (nodesTs l ≤ 3200) := by
      have h1 := nodes_sum l (fun x hx => by
        obtain ⟨j, hj, rfl⟩ := List.getElem_of_mem hx
        exact AL.out j _ (by have := hAN.out; omega) (List.getElem?_eq_getElem hj))
      have h2 := hAN.out
      have h3 := N8.out
      rw [Hid]
      omega
    clear AL
    have NA : Hid (nodesT (appT f l) ≤ 1000000000000) := by have := HN.out; have := NB.out; have := N8.out; have := hAN.out; rw [Hid, nodes_app]; omega
    have NBD : Hid (nodesT (bindT k f l) ≤ 1000000000000) := by have := HN.out; have := NB.out; have := N8.out; have := hAN.out; rw [Hid, nodes_bind]; omega
    have LSA : Hid (l.length * 80 ≤ 140737488351232) := by rw [Hid, hAN.out]; exact SA.out
    go_upto_region 10 with (fail)
    refine lin_begin (opsOf Try.f4 10) (by kernel_rfl) ?_
    refine lin_now 0 (.agg (fc).toArray) (some 37) (by kernel_rfl) (by kernel_rfl) (exec_load_mid 27 (.tmp 3) (by kernel_rfl) (q) 0 (by kernel_rfl) (fc) _ (BQ.out).whole Try.underlying27 rfl (t5Size C5.out)) ?_
    refine lin_now 1 (.slice aa N ac) (some 38) (by kernel_rfl) (by kernel_rfl) (by kernel_rfl) ?_
    refine lin_call 2 12 #[.agg fc.toArray, .slice aa N ac] (some 39) _ (by kernel_rfl) (by kernel_rfl) (by kernel_rfl) (app_walk f l fc _ wr (HF.out.below BE.out) HFS.out (HL.out.below BE.out) SS.out LSA.out) ?_
    rintro e x1 ⟨hc, rfl, hh, hb⟩
    refine ⟨_, rfl, ?_⟩
    have BE : Hid (Below w.heap.size w x1) := BE.out.trans (hb.mono BE.out.size)
    have BQ := Lib.hid (BQ.out.below hb BQ.out.lt)
    have hcT := Lib.hid hh.fresh
    clear hh
    clear hb
    obtain ⟨b8, hb8⟩ : ∃ z, Hid (x1.heap.size = z) := ⟨_, rfl⟩
    refine lin_alloc 3 27 z5T (b8) (some 8) (by kernel_rfl) (by kernel_rfl) (by kernel_rfl) (by kernel_rfl) hb8 ?_
    intro x2a bx2a bex2a hsx2a
    refine lin_put 4 27 (.tmp 8) (.tmp 39) (b8) _ (z5T) (hc) (by kernel_rfl) (by kernel_rfl) (by kernel_rfl) (by kernel_rfl) (by kernel_rfl) bx2a (hcT.out.len.trans (rfl : z5T.length = 5).symm) (t5Size hcT.out.len) (by simpa using hcT.out.one) ?_
    intro x2 bx2 ux2
    have hbp : Below x1.heap.size x1 x2 := by rw [hb8.out]; exact ux2.below bex2a (Nat.le_refl _) (by have := bex2a.size; have := hb8.out; omega)
    have BE : Hid (Below w.heap.size w x2) := BE.out.trans (hbp.mono BE.out.size)
    have BQ := Lib.hid (BQ.out.below hbp BQ.out.lt)
    have hcT := Lib.hid (hcT.out.below hbp)
    have hcB : Hid (Blk x2 b8 27 hc) := bx2
    clear hbp bx2a bex2a hsx2a bx2 ux2 hb8
    refine lin_done 5 (by kernel_rfl) ?_
    generalize hact : Act.put _ none _ = act
    simp only [Act.put, List.setIfInBounds_toArray, List.set_cons_succ, List.set_cons_zero] at hact
    subst hact
    go_upto_region 11 with (fail)
    refine lin_begin (opsOf Try.f4 11) (by kernel_rfl) ?_
    refine lin_now 0 (.int .i64 k) (some 40) (by kernel_rfl) (by kernel_rfl) (by kernel_rfl) ?_
    refine lin_now 1 (.agg (fc).toArray) (some 41) (by kernel_rfl) (by kernel_rfl) (exec_load_mid 27 (.tmp 3) (by kernel_rfl) (q) 0 (by kernel_rfl) (fc) _ (BQ.out).whole Try.underlying27 rfl (t5Size C5.out)) ?_
    refine lin_now 2 (.slice aa N ac) (some 42) (by kernel_rfl) (by kernel_rfl) (by kernel_rfl) ?_
    refine lin_call 3 13 #[.int .i64 k, .agg fc.toArray, .slice aa N ac] (some 43) _ (by kernel_rfl) (by kernel_rfl) (by kernel_rfl) (bind_walk k f l fc _ x2 (HF.out.below BE.out) HFS.out (HL.out.below BE.out) SS.out LSA.out) ?_
    rintro e x3 ⟨bc, rfl, hh, hb⟩
    refine ⟨_, rfl, ?_⟩
    have BE : Hid (Below w.heap.size w x3) := BE.out.trans (hb.mono BE.out.size)
    have BQ := Lib.hid (BQ.out.below hb BQ.out.lt)
    have hcT := Lib.hid (hcT.out.below hb)
    have hcB := Lib.hid (hcB.out.below hb hcB.out.lt)
    have bcT := Lib.hid hh.fresh
    clear hh
    clear hb
    obtain ⟨b9, hb9⟩ : ∃ z, Hid (x3.heap.size = z) := ⟨_, rfl⟩
    refine lin_alloc 4 27 z5T (b9) (some 9) (by kernel_rfl) (by kernel_rfl) (by kernel_rfl) (by kernel_rfl) hb9 ?_
    intro x4a bx4a bex4a hsx4a
    refine lin_put 5 27 (.tmp 9) (.tmp 43) (b9) _ (z5T) (bc) (by kernel_rfl) (by kernel_rfl) (by kernel_rfl) (by kernel_rfl) (by kernel_rfl) bx4a (bcT.out.len.trans (rfl : z5T.length = 5).symm) (t5Size bcT.out.len) (by simpa using bcT.out.one) ?_
    intro x4 bx4 ux4
    have hbp : Below x3.heap.size x3 x4 := by rw [hb9.out]; exact ux4.below bex4a (Nat.le_refl _) (by have := bex4a.size; have := hb9.out; omega)
    have BE : Hid (Below w.heap.size w x4) := BE.out.trans (hbp.mono BE.out.size)
    have BQ := Lib.hid (BQ.out.below hbp BQ.out.lt)
    have hcT := Lib.hid (hcT.out.below hbp)
    have hcB := Lib.hid (hcB.out.below hbp hcB.out.lt)
    have bcT := Lib.hid (bcT.out.below hbp)
    have bcB : Hid (Blk x4 b9 27 bc) := bx4
    clear hbp bx4a bex4a hsx4a bx4 ux4 hb9
    refine lin_done 6 (by kernel_rfl) ?_
    generalize hact : Act.put _ none _ = act
    simp only [Act.put, List.setIfInBounds_toArray, List.set_cons_succ, List.set_cons_zero] at hact
    subst hact
    have hc5 := Lib.hid hcT.out.len
    have bc5 := Lib.hid bcT.out.len
    go_upto_region 12 with (fail)
    refine region_begin (opsOf Try.f4 12) (fun W' => Below x4.heap.size x4 W') (by kernel_rfl) (by kernel_rfl) 15 (by kernel_rfl) ?_
    intro Q' hQN hN
    have HS : Below x4.heap.size x4 x4.drew := (Below.refl _ _).drew
    refine reg_nowIf 0 (.agg (hc).toArray) (some 44) hQN HS (by kernel_rfl) (by kernel_rfl) (fun w' hw => exec_load_mid 27 (.tmp 8) (by kernel_rfl) (b8) 0 (by kernel_rfl) (hc) _ (hcB.out.below hw hcB.out.lt).whole Try.underlying27 rfl (t5Size hc5.out)) ?_
    refine reg_nowIf 1 (.agg (fc).toArray) (some 45) hQN HS (by kernel_rfl) (by kernel_rfl) (fun w' hw => exec_load_mid 27 (.tmp 3) (by kernel_rfl) (q) 0 (by kernel_rfl) (fc) _ (BQ.out.below hw BQ.out.lt).whole Try.underlying27 rfl (t5Size C5.out)) ?_
    refine reg_now 2 (.slice aa N ac) (some 46) hQN HS (by kernel_rfl) (by kernel_rfl) (fun w => by kernel_rfl) ?_
    refine reg_call 3 15 #[.agg fc.toArray, .slice aa N ac] (some 47) _ (by kernel_rfl) (by kernel_rfl) (by kernel_rfl) (rapp_walk f l fc _ x4.drew (HF.out.below (BE.out.trans (HS.mono BE.out.size))) HFS.out (HL.out.below (BE.out.trans (HS.mono BE.out.size))) SS.out LSA.out) ?_
    rintro e y1 ⟨rc, rfl, hh, hb⟩
    have HS : Below x4.heap.size x4 y1 := HS.trans (hb.mono HS.size)
    refine ⟨_, rfl, HS, ?_⟩
    have rcT := Lib.hid hh.fresh
    clear hh hb
    refine reg_call 4 14 #[.agg hc.toArray, .agg rc.toArray] (some 48) _ (by kernel_rfl) (by kernel_rfl) (by kernel_rfl) ((by have h := sameterm_walk (appT f l) (appT f l) hc rc y1 [] [] (hcT.out.below HS) rcT.out (sm_app l f HFS.out SS.out); rw [eqT_yes rfl] at h; exact h)) ?_
    rintro e y2 ⟨rfl, hb⟩
    have HS : Below x4.heap.size x4 y2 := HS.trans (hb.mono HS.size)
    refine ⟨_, rfl, HS, ?_⟩
    clear hb rcT
    refine reg_now 5 (.bool false) (some 49) hQN HS (by kernel_rfl) (by kernel_rfl) (fun w => by kernel_rfl) ?_
    refine reg_now 6 (.bool false) (some 50) hQN HS (by kernel_rfl) (by kernel_rfl) (fun w => by kernel_rfl) ?_
    refine reg_nowIf 7 (.agg (bc).toArray) (some 51) hQN HS (by kernel_rfl) (by kernel_rfl) (fun w' hw => exec_load_mid 27 (.tmp 9) (by kernel_rfl) (b9) 0 (by kernel_rfl) (bc) _ (bcB.out.below hw bcB.out.lt).whole Try.underlying27 rfl (t5Size bc5.out)) ?_
    refine reg_now 8 (.int .i64 k) (some 52) hQN HS (by kernel_rfl) (by kernel_rfl) (fun w => by kernel_rfl) ?_
    refine reg_nowIf 9 (.agg (fc).toArray) (some 53) hQN HS (by kernel_rfl) (by kernel_rfl) (fun w' hw => exec_load_mid 27 (.tmp 3) (by kernel_rfl) (q) 0 (by kernel_rfl) (fc) _ (BQ.out.below hw BQ.out.lt).whole Try.underlying27 rfl (t5Size C5.out)) ?_
    refine reg_now 10 (.slice aa N ac) (some 54) hQN HS (by kernel_rfl) (by kernel_rfl) (fun w => by kernel_rfl) ?_
    refine reg_call 11 16 #[.int .i64 k, .agg fc.toArray, .slice aa N ac] (some 55) _ (by kernel_rfl) (by kernel_rfl) (by kernel_rfl) (rbind_walk k f l fc _ y2 (HF.out.below (BE.out.trans (HS.mono BE.out.size))) HFS.out (HL.out.below (BE.out.trans (HS.mono BE.out.size))) SS.out LSA.out) ?_
    rintro e y3 ⟨rc, rfl, hh, hb⟩
    have HS : Below x4.heap.size x4 y3 := HS.trans (hb.mono HS.size)
    refine ⟨_, rfl, HS, ?_⟩
    have rcT := Lib.hid hh.fresh
    clear hh hb
    refine reg_call 12 14 #[.agg bc.toArray, .agg rc.toArray] (some 56) _ (by kernel_rfl) (by kernel_rfl) (by kernel_rfl) ((by have h := sameterm_walk (bindT k f l) (bindT k f l) bc rc y3 [] [] (bcT.out.below HS) rcT.out (sm_bind k l f HFS.out SS.out); rw [eqT_yes rfl] at h; exact h)) ?_
    rintro e y4 ⟨rfl, hb⟩
    have HS : Below x4.heap.size x4 y4 := HS.trans (hb.mono HS.size)
    refine ⟨_, rfl, HS, ?_⟩
    clear hb rcT
    refine reg_now 13 (.bool false) (some 57) hQN HS (by kernel_rfl) (by kernel_rfl) (fun w => by kernel_rfl) ?_
    refine reg_now 14 (.bool false) (some 58) hQN HS (by kernel_rfl) (by kernel_rfl) (fun w => by kernel_rfl) ?_
    refine reg_done (by kernel_rfl) (hN _ _ ?_)
    generalize hact : Act.put _ (some 58) _ = act
    simp only [Act.put, List.setIfInBounds_toArray, List.set_cons_succ, List.set_cons_zero] at hact
    subst hact
    have BE : Hid (Below w.heap.size w y4) := BE.out.trans (HS.mono BE.out.size)
    have BQ := Lib.hid (BQ.out.below HS BQ.out.lt)
    have hcT := Lib.hid (hcT.out.below HS)
    have hcB := Lib.hid (hcB.out.below HS hcB.out.lt)
    have bcT := Lib.hid (bcT.out.below HS)
    have bcB := Lib.hid (bcB.out.below HS bcB.out.lt)
    clear HS hN hQN Q'
    obtain ⟨R, hR⟩ : ∃ R, Hid ((spineT f).2.length = R) := ⟨_, rfl⟩
    have RL : Hid (R ≤ 3600) := by have := spine_len f; have := NB.out; have := hR.out; rw [Hid]; omega
    go_upto_region 14 with (fail)
    refine lin_begin (opsOf Try.f4 14) (by kernel_rfl) ?_
    refine lin_now 0 (.agg (hc).toArray) (some 60) (by kernel_rfl) (by kernel_rfl) (exec_load_mid 27 (.tmp 8) (by kernel_rfl) (b8) 0 (by kernel_rfl) (hc) _ (hcB.out).whole Try.underlying27 rfl (t5Size hc5.out)) ?_
    refine lin_call 1 17 #[.agg hc.toArray] (some 61) _ (by kernel_rfl) (by kernel_rfl) (by kernel_rfl) (spine_walk (appT f l) hc y4 hcT.out (sm_app l f HFS.out SS.out) NA.out) ?_
    rintro e z1 ⟨gc, gv, rfl, hg, hgv, hb⟩
    refine ⟨_, rfl, ?_⟩
    have BE : Hid (Below w.heap.size w z1) := BE.out.trans (hb.mono BE.out.size)
    have BQ := Lib.hid (BQ.out.below hb BQ.out.lt)
    have hcT := Lib.hid (hcT.out.below hb)
    have hcB := Lib.hid (hcB.out.below hb hcB.out.lt)
    have bcT := Lib.hid (bcT.out.below hb)
    have bcB := Lib.hid (bcB.out.below hb bcB.out.lt)
    rw [spine_app] at hg hgv
    have gcT := Lib.hid hg.fresh
    have gvT := Lib.hid hgv.fresh
    obtain ⟨ga, gk, rfl⟩ := hgv.slice
    rw [show ((spineT f).2 ++ l).length = R + N by rw [List.length_append, hR.out, hAN.out]] at gvT ⊢
    clear hg hgv
    clear hb
    refine lin_now 2 (.tuple #[.agg gc.toArray, .slice ga (R + N) gk]) (some 59) (by kernel_rfl) (by kernel_rfl) (by kernel_rfl) ?_
    refine lin_now 3 (.agg gc.toArray) (some 62) (by kernel_rfl) (by kernel_rfl) (by kernel_rfl) ?_
    refine lin_now 4 (.slice ga (R + N) gk) (some 63) (by kernel_rfl) (by kernel_rfl) (by kernel_rfl) ?_
    obtain ⟨b10, hb10⟩ : ∃ z, Hid (z1.heap.size = z) := ⟨_, rfl⟩
    refine lin_alloc 5 27 z5T (b10) (some 10) (by kernel_rfl) (by kernel_rfl) (by kernel_rfl) (by kernel_rfl) hb10 ?_
    intro z2a bz2a bez2a hsz2a
    refine lin_put 6 27 (.tmp 10) (.tmp 62) (b10) _ (z5T) (gc) (by kernel_rfl) (by kernel_rfl) (by kernel_rfl) (by kernel_rfl) (by kernel_rfl) bz2a (gcT.out.len.trans (rfl : z5T.length = 5).symm) (t5Size gcT.out.len) (by simpa using gcT.out.one) ?_
    intro z2 bz2 uz2
    have hbp : Below z1.heap.size z1 z2 := by rw [hb10.out]; exact uz2.below bez2a (Nat.le_refl _) (by have := bez2a.size; have := hb10.out; omega)
    have BE : Hid (Below w.heap.size w z2) := BE.out.trans (hbp.mono BE.out.size)
    have BQ := Lib.hid (BQ.out.below hbp BQ.out.lt)
    have hcT := Lib.hid (hcT.out.below hbp)
    have hcB := Lib.hid (hcB.out.below hbp hcB.out.lt)
    have bcT := Lib.hid (bcT.out.below hbp)
    have bcB := Lib.hid (bcB.out.below hbp bcB.out.lt)
    have gcT := Lib.hid (gcT.out.below hbp)
    have gvT := Lib.hid (gvT.out.below hbp)
    have gcB : Hid (Blk z2 b10 27 gc) := bz2
    clear hbp bz2a bez2a hsz2a bz2 uz2 hb10
    refine lin_now 7 (.slice ga (R + N) gk) (some 11) (by kernel_rfl) (by kernel_rfl) (by kernel_rfl) ?_
    refine lin_done 8 (by kernel_rfl) ?_
    generalize hact : Act.put _ (some 11) _ = act
    simp only [Act.put, List.setIfInBounds_toArray, List.set_cons_succ, List.set_cons_zero] at hact
    subst hact
    go_upto_region 15 with (fail)
    refine lin_begin (opsOf Try.f4 15) (by kernel_rfl) ?_
    refine lin_now 0 (.agg (fc).toArray) (some 65) (by kernel_rfl) (by kernel_rfl) (exec_load_mid 27 (.tmp 3) (by kernel_rfl) (q) 0 (by kernel_rfl) (fc) _ (BQ.out).whole Try.underlying27 rfl (t5Size C5.out)) ?_
    refine lin_call 1 17 #[.agg fc.toArray] (some 66) _ (by kernel_rfl) (by kernel_rfl) (by kernel_rfl) (spine_walk f fc z2 (HF.out.below BE.out) HFS.out (by have := NB.out; omega)) ?_
    rintro e z3 ⟨ic, iv, rfl, hg, hgv, hb⟩
    refine ⟨_, rfl, ?_⟩
    have BE : Hid (Below w.heap.size w z3) := BE.out.trans (hb.mono BE.out.size)
    have BQ := Lib.hid (BQ.out.below hb BQ.out.lt)
    have hcT := Lib.hid (hcT.out.below hb)
    have hcB := Lib.hid (hcB.out.below hb hcB.out.lt)
    have bcT := Lib.hid (bcT.out.below hb)
    have bcB := Lib.hid (bcB.out.below hb bcB.out.lt)
    have gcT := Lib.hid (gcT.out.below hb)
    have gvT := Lib.hid (gvT.out.below hb)
    have gcB := Lib.hid (gcB.out.below hb gcB.out.lt)
    have icT := Lib.hid hg.fresh
    obtain ⟨ia, ik, rfl⟩ := hgv.slice
    rw [hR.out]
    clear hg hgv
    clear hb
    refine lin_now 2 (.tuple #[.agg ic.toArray, .slice ia R ik]) (some 64) (by kernel_rfl) (by kernel_rfl) (by kernel_rfl) ?_
    refine lin_now 3 (.agg ic.toArray) (some 67) (by kernel_rfl) (by kernel_rfl) (by kernel_rfl) ?_
    refine lin_now 4 (.slice ia R ik) (some 68) (by kernel_rfl) (by kernel_rfl) (by kernel_rfl) ?_
    obtain ⟨b12, hb12⟩ : ∃ z, Hid (z3.heap.size = z) := ⟨_, rfl⟩
    refine lin_alloc 5 27 z5T (b12) (some 12) (by kernel_rfl) (by kernel_rfl) (by kernel_rfl) (by kernel_rfl) hb12 ?_
    intro z4a bz4a bez4a hsz4a
    refine lin_put 6 27 (.tmp 12) (.tmp 67) (b12) _ (z5T) (ic) (by kernel_rfl) (by kernel_rfl) (by kernel_rfl) (by kernel_rfl) (by kernel_rfl) bz4a (icT.out.len.trans (rfl : z5T.length = 5).symm) (t5Size icT.out.len) (by simpa using icT.out.one) ?_
    intro z4 bz4 uz4
    have hbp : Below z3.heap.size z3 z4 := by rw [hb12.out]; exact uz4.below bez4a (Nat.le_refl _) (by have := bez4a.size; have := hb12.out; omega)
    have BE : Hid (Below w.heap.size w z4) := BE.out.trans (hbp.mono BE.out.size)
    have BQ := Lib.hid (BQ.out.below hbp BQ.out.lt)
    have hcT := Lib.hid (hcT.out.below hbp)
    have hcB := Lib.hid (hcB.out.below hbp hcB.out.lt)
    have bcT := Lib.hid (bcT.out.below hbp)
    have bcB := Lib.hid (bcB.out.below hbp bcB.out.lt)
    have gcT := Lib.hid (gcT.out.below hbp)
    have gvT := Lib.hid (gvT.out.below hbp)
    have gcB := Lib.hid (gcB.out.below hbp gcB.out.lt)
    have icT := Lib.hid (icT.out.below hbp)
    have icB : Hid (Blk z4 b12 27 ic) := bz4
    clear hbp bz4a bez4a hsz4a bz4 uz4 hb12
    refine lin_now 7 (.slice ia R ik) (some 13) (by kernel_rfl) (by kernel_rfl) (by kernel_rfl) ?_
    refine lin_done 8 (by kernel_rfl) ?_
    generalize hact : Act.put _ (some 13) _ = act
    simp only [Act.put, List.setIfInBounds_toArray, List.set_cons_succ, List.set_cons_zero] at hact
    subst hact
    obtain ⟨T, hT⟩ : ∃ T, Hid ((stripT k f).1.length = T) := ⟨_, rfl⟩
    go_upto_region 16 with (fail)
    refine lin_begin (opsOf Try.f4 16) (by kernel_rfl) ?_
    refine lin_now 0 (.agg (bc).toArray) (some 70) (by kernel_rfl) (by kernel_rfl) (exec_load_mid 27 (.tmp 9) (by kernel_rfl) (b9) 0 (by kernel_rfl) (bc) _ (bcB.out).whole Try.underlying27 rfl (t5Size bc5.out)) ?_
    refine lin_now 1 (.int .i64 k) (some 71) (by kernel_rfl) (by kernel_rfl) (by kernel_rfl) ?_
    refine lin_call 2 18 #[.agg bc.toArray, .int .i64 k] (some 72) _ (by kernel_rfl) (by kernel_rfl) (by kernel_rfl) (strip_walk (bindT k f l) bc k z4 bcT.out (sm_bind k l f HFS.out SS.out) NBD.out) ?_
    rintro e z5 ⟨tv, dc, rfl, hgv, hg, hb⟩
    refine ⟨_, rfl, ?_⟩
    have BE : Hid (Below w.heap.size w z5) := BE.out.trans (hb.mono BE.out.size)
    have BQ := Lib.hid (BQ.out.below hb BQ.out.lt)
    have hcT := Lib.hid (hcT.out.below hb)
    have hcB := Lib.hid (hcB.out.below hb hcB.out.lt)
    have bcT := Lib.hid (bcT.out.below hb)
    have bcB := Lib.hid (bcB.out.below hb bcB.out.lt)
    have gcT := Lib.hid (gcT.out.below hb)
    have gvT := Lib.hid (gvT.out.below hb)
    have gcB := Lib.hid (gcB.out.below hb gcB.out.lt)
    have icT := Lib.hid (icT.out.below hb)
    have icB := Lib.hid (icB.out.below hb icB.out.lt)
    rw [strip_bind] at hg hgv
    have dcT := Lib.hid hg.fresh
    have tvT := Lib.hid hgv.fresh
    obtain ⟨ta, tk, rfl⟩ := hgv.slice
    rw [show (l ++ (stripT k f).1).length = N + T by rw [List.length_append, hT.out, hAN.out]] at tvT ⊢
    clear hg hgv
    clear hb
    refine lin_now 3 (.tuple #[.slice ta (N + T) tk, .agg dc.toArray]) (some 69) (by kernel_rfl) (by kernel_rfl) (by kernel_rfl) ?_
    refine lin_now 4 (.slice ta (N + T) tk) (some 73) (by kernel_rfl) (by kernel_rfl) (by kernel_rfl) ?_
    refine lin_now 5 (.agg dc.toArray) (some 74) (by kernel_rfl) (by kernel_rfl) (by kernel_rfl) ?_
    obtain ⟨b15, hb15⟩ : ∃ z, Hid (z5.heap.size = z) := ⟨_, rfl⟩
    refine lin_alloc 6 27 z5T (b15) (some 15) (by kernel_rfl) (by kernel_rfl) (by kernel_rfl) (by kernel_rfl) hb15 ?_
    intro z6a bz6a bez6a hsz6a
    refine lin_now 7 (.slice ta (N + T) tk) (some 14) (by kernel_rfl) (by kernel_rfl) (by kernel_rfl) ?_
    refine lin_put 8 27 (.tmp 15) (.tmp 74) (b15) _ (z5T) (dc) (by kernel_rfl) (by kernel_rfl) (by kernel_rfl) (by kernel_rfl) (by kernel_rfl) bz6a (dcT.out.len.trans (rfl : z5T.length = 5).symm) (t5Size dcT.out.len) (by simpa using dcT.out.one) ?_
    intro z6 bz6 uz6
    have hbp : Below z5.heap.size z5 z6 := by rw [hb15.out]; exact uz6.below bez6a (Nat.le_refl _) (by have := bez6a.size; have := hb15.out; omega)
    have BE : Hid (Below w.heap.size w z6) := BE.out.trans (hbp.mono BE.out.size)
    have BQ := Lib.hid (BQ.out.below hbp BQ.out.lt)
    have hcT := Lib.hid (hcT.out.below hbp)
    have hcB := Lib.hid (hcB.out.below hbp hcB.out.lt)
    have bcT := Lib.hid (bcT.out.below hbp)
    have bcB := Lib.hid (bcB.out.below hbp bcB.out.lt)
    have gcT := Lib.hid (gcT.out.below hbp)
    have gvT := Lib.hid (gvT.out.below hbp)
    have gcB := Lib.hid (gcB.out.below hbp gcB.out.lt)
    have icT := Lib.hid (icT.out.below hbp)
    have icB := Lib.hid (icB.out.below hbp icB.out.lt)
    have dcT := Lib.hid (dcT.out.below hbp)
    have tvT := Lib.hid (tvT.out.below hbp)
    have dcB : Hid (Blk z6 b15 27 dc) := bz6
    clear hbp bz6a bez6a hsz6a bz6 uz6 hb15
    refine lin_done 9 (by kernel_rfl) ?_
    generalize hact : Act.put _ none _ = act
    simp only [Act.put, List.setIfInBounds_toArray, List.set_cons_succ, List.set_cons_zero] at hact
    subst hact
    have gc5 := Lib.hid gcT.out.len
    have ic5 := Lib.hid icT.out.len
    have dc5 := Lib.hid dcT.out.len
    have SG : Hid (SmT (spineT f).1) := sm_spine f HFS.out
    go_upto_region 17 with (fail)
    refine lin_begin (opsOf Try.f4 17) (by kernel_rfl) ?_
    refine lin_now 0 (.agg (gc).toArray) (some 75) (by kernel_rfl) (by kernel_rfl) (exec_load_mid 27 (.tmp 10) (by kernel_rfl) (b10) 0 (by kernel_rfl) (gc) _ (gcB.out).whole Try.underlying27 rfl (t5Size gc5.out)) ?_
    refine lin_now 1 (.agg (ic).toArray) (some 76) (by kernel_rfl) (by kernel_rfl) (exec_load_mid 27 (.tmp 12) (by kernel_rfl) (b12) 0 (by kernel_rfl) (ic) _ (icB.out).whole Try.underlying27 rfl (t5Size ic5.out)) ?_
    refine lin_call 2 14 #[.agg gc.toArray, .agg ic.toArray] (some 77) _ (by kernel_rfl) (by kernel_rfl) (by kernel_rfl) ((by have h := sameterm_walk (spineT f).1 (spineT f).1 gc ic z6 [] [] gcT.out icT.out SG.out; rw [eqT_yes rfl] at h; exact h)) ?_
    rintro e z7 ⟨rfl, hb⟩
    refine ⟨_, rfl, ?_⟩
    have BE : Hid (Below w.heap.size w z7) := BE.out.trans (hb.mono BE.out.size)
    have BQ := Lib.hid (BQ.out.below hb BQ.out.lt)
    have hcT := Lib.hid (hcT.out.below hb)
    have hcB := Lib.hid (hcB.out.below hb hcB.out.lt)
    have bcT := Lib.hid (bcT.out.below hb)
    have bcB := Lib.hid (bcB.out.below hb bcB.out.lt)
    have gcT := Lib.hid (gcT.out.below hb)
    have gvT := Lib.hid (gvT.out.below hb)
    have gcB := Lib.hid (gcB.out.below hb gcB.out.lt)
    have icT := Lib.hid (icT.out.below hb)
    have icB := Lib.hid (icB.out.below hb icB.out.lt)
    have dcT := Lib.hid (dcT.out.below hb)
    have tvT := Lib.hid (tvT.out.below hb)
    have dcB := Lib.hid (dcB.out.below hb dcB.out.lt)
    clear hb
    refine lin_now 3 (.bool false) (some 78) (by kernel_rfl) (by kernel_rfl) (by kernel_rfl) ?_
    refine lin_now 4 (.bool false) (some 79) (by kernel_rfl) (by kernel_rfl) (by kernel_rfl) ?_
    refine lin_now 5 (.slice ga (R + N) gk) (some 80) (by kernel_rfl) (by kernel_rfl) (by kernel_rfl) ?_
    refine lin_now 6 (.int .i64 ((R + N : Nat) : Int)) (some 81) (by kernel_rfl) (by kernel_rfl) (by kernel_rfl) ?_
    refine lin_now 7 (.slice ia R ik) (some 82) (by kernel_rfl) (by kernel_rfl) (by kernel_rfl) ?_
    refine lin_now 8 (.int .i64 (R : Int)) (some 83) (by kernel_rfl) (by kernel_rfl) (by kernel_rfl) ?_
    refine lin_now 9 (.slice aa N ac) (some 84) (by kernel_rfl) (by kernel_rfl) (by kernel_rfl) ?_
    refine lin_now 10 (.int .i64 (N : Int)) (some 85) (by kernel_rfl) (by kernel_rfl) (by kernel_rfl) ?_
    refine lin_now 11 (.int .i64 (IntKind.i64.wrap ((R : Int) + (N : Int)))) (some 86) (by kernel_rfl) (by kernel_rfl) (by kernel_rfl) ?_
    rw [show IntKind.i64.wrap ((R : Int) + (N : Int)) = ((R + N : Nat) : Int) from (IntWalk.i64_in _ (by have := RL.out; have := N8.out; omega)).trans (by omega)]
    refine lin_now 12 (.bool (!decide (((R + N : Nat) : Int) = ((R + N : Nat) : Int)))) (some 87) (by kernel_rfl) (by kernel_rfl) (by kernel_rfl) ?_
    rw [show (!decide (((R + N : Nat) : Int) = ((R + N : Nat) : Int))) = false by rw [decide_eq_true rfl]; rfl]
    refine lin_now 13 (.bool false) (some 88) (by kernel_rfl) (by kernel_rfl) (by kernel_rfl) ?_
    refine lin_now 14 (.bool false) (some 89) (by kernel_rfl) (by kernel_rfl) (by kernel_rfl) ?_
    refine lin_now 15 (.slice ta (N + T) tk) (some 90) (by kernel_rfl) (by kernel_rfl) (by kernel_rfl) ?_
    refine lin_now 16 (.int .i64 ((N + T : Nat) : Int)) (some 91) (by kernel_rfl) (by kernel_rfl) (by kernel_rfl) ?_
    refine lin_now 17 (.slice aa N ac) (some 92) (by kernel_rfl) (by kernel_rfl) (by kernel_rfl) ?_
    refine lin_now 18 (.int .i64 (N : Int)) (some 93) (by kernel_rfl) (by kernel_rfl) (by kernel_rfl) ?_
    refine lin_now 19 (.bool (decide (((N + T : Nat) : Int) < (N : Int)))) (some 94) (by kernel_rfl) (by kernel_rfl) (by kernel_rfl) ?_
    rw [show decide (((N + T : Nat) : Int) < (N : Int)) = false from decide_eq_false (by omega)]
    refine lin_now 20 (.bool false) (some 95) (by kernel_rfl) (by kernel_rfl) (by kernel_rfl) ?_
    refine lin_done 21 (by kernel_rfl) ?_
    generalize hact : Act.put _ (some 95) _ = act
    simp only [Act.put, List.setIfInBounds_toArray, List.set_cons_succ, List.set_cons_zero] at hact
    subst hact
    have ASA : Hid (N * 80 ≤ 140737488351232) := SA.out
    obtain ⟨lf, af, hfc, -, -⟩ := HF.out.open
    by_cases hk : f.kind = k
    · skip
      go_upto_region 19 with (fail)
      refine lin_begin (opsOf Try.f4 19) (by kernel_rfl) ?_
      refine lin_now 0 (.slice ga (R + N) gk) (some 96) (by kernel_rfl) (by kernel_rfl) (by kernel_rfl) ?_
      refine lin_now 1 (.slice ia R ik) (some 97) (by kernel_rfl) (by kernel_rfl) (by kernel_rfl) ?_
      refine lin_now 2 (.int .i64 (R : Int)) (some 98) (by kernel_rfl) (by kernel_rfl) (by kernel_rfl) ?_
      obtain ⟨v1, hv1, hv1T⟩ := tms_low gvT.out z7
      rw [hR.out] at hv1
      refine lin_now 3 (v1) (some 99) (by kernel_rfl) (by kernel_rfl) (exec_of _ _ (by kernel_rfl) hv1) ?_
      refine lin_now 4 (.slice aa N ac) (some 100) (by kernel_rfl) (by kernel_rfl) (by kernel_rfl) ?_
      have v1T := Lib.hid hv1T
      clear hv1T hv1
      refine lin_call 5 19 #[v1, .slice aa N ac] (some 101) _ (by kernel_rfl) (by kernel_rfl) (by kernel_rfl) ((by have h := lsame_walk l l v1 _ z7 v1T.out (HL.out.below BE.out) SS.out LSA.out; rw [eqTs_yes rfl] at h; exact h)) ?_
      rintro e z8 ⟨rfl, hb⟩
      refine ⟨_, rfl, ?_⟩
      have BE : Hid (Below w.heap.size w z8) := BE.out.trans (hb.mono BE.out.size)
      have BQ := Lib.hid (BQ.out.below hb BQ.out.lt)
      have hcT := Lib.hid (hcT.out.below hb)
      have hcB := Lib.hid (hcB.out.below hb hcB.out.lt)
      have bcT := Lib.hid (bcT.out.below hb)
      have bcB := Lib.hid (bcB.out.below hb bcB.out.lt)
      have gcT := Lib.hid (gcT.out.below hb)
      have gvT := Lib.hid (gvT.out.below hb)
      have gcB := Lib.hid (gcB.out.below hb gcB.out.lt)
      have icT := Lib.hid (icT.out.below hb)
      have icB := Lib.hid (icB.out.below hb icB.out.lt)
      have dcT := Lib.hid (dcT.out.below hb)
      have tvT := Lib.hid (tvT.out.below hb)
      have dcB := Lib.hid (dcB.out.below hb dcB.out.lt)
      clear hb
      refine lin_now 6 (.bool true) (some 102) (by kernel_rfl) (by kernel_rfl) (by kernel_rfl) ?_
      refine lin_now 7 (.slice ta (N + T) tk) (some 103) (by kernel_rfl) (by kernel_rfl) (by kernel_rfl) ?_
      refine lin_now 8 (.slice aa N ac) (some 104) (by kernel_rfl) (by kernel_rfl) (by kernel_rfl) ?_
      refine lin_now 9 (.int .i64 (N : Int)) (some 105) (by kernel_rfl) (by kernel_rfl) (by kernel_rfl) ?_
      obtain ⟨v2, hv2, hv2T⟩ := tms_high tvT.out z8
      rw [hAN.out] at hv2
      refine lin_now 10 (v2) (some 106) (by kernel_rfl) (by kernel_rfl) (exec_of _ _ (by kernel_rfl) hv2) ?_
      refine lin_now 11 (.slice aa N ac) (some 107) (by kernel_rfl) (by kernel_rfl) (by kernel_rfl) ?_
      have v2T := Lib.hid hv2T
      clear hv2T hv2
      refine lin_call 12 19 #[v2, .slice aa N ac] (some 108) _ (by kernel_rfl) (by kernel_rfl) (by kernel_rfl) ((by have h := lsame_walk l l v2 _ z8 v2T.out (HL.out.below BE.out) SS.out LSA.out; rw [eqTs_yes rfl] at h; exact h)) ?_
      rintro e z9 ⟨rfl, hb⟩
      refine ⟨_, rfl, ?_⟩
      have BE : Hid (Below w.heap.size w z9) := BE.out.trans (hb.mono BE.out.size)
      have BQ := Lib.hid (BQ.out.below hb BQ.out.lt)
      have hcT := Lib.hid (hcT.out.below hb)
      have hcB := Lib.hid (hcB.out.below hb hcB.out.lt)
      have bcT := Lib.hid (bcT.out.below hb)
      have bcB := Lib.hid (bcB.out.below hb bcB.out.lt)
      have gcT := Lib.hid (gcT.out.below hb)
      have gvT := Lib.hid (gvT.out.below hb)
      have gcB := Lib.hid (gcB.out.below hb gcB.out.lt)
      have icT := Lib.hid (icT.out.below hb)
      have icB := Lib.hid (icB.out.below hb icB.out.lt)
      have dcT := Lib.hid (dcT.out.below hb)
      have tvT := Lib.hid (tvT.out.below hb)
      have dcB := Lib.hid (dcB.out.below hb dcB.out.lt)
      clear hb
      refine lin_now 13 (.bool true) (some 109) (by kernel_rfl) (by kernel_rfl) (by kernel_rfl) ?_
      refine lin_now 14 (.bool true) (some 110) (by kernel_rfl) (by kernel_rfl) (by kernel_rfl) ?_
      refine lin_now 15 (.pointer (some ⟨q, 0, none⟩)) (some 111) (by kernel_rfl) (by kernel_rfl) (by kernel_rfl) ?_
      refine lin_now 16 (.int .i64 f.kind) (some 112) (by kernel_rfl) (by kernel_rfl) (exec_load_cell 3 (.tmp 111) (by kernel_rfl) (q) 0 (by kernel_rfl) _ (BQ.out.cell (by rw [hfc]; rfl)) _ Try.underlying3 rfl) ?_
      refine lin_now 17 (.int .i64 k) (some 113) (by kernel_rfl) (by kernel_rfl) (by kernel_rfl) ?_
      refine lin_now 18 (.bool true) (some 114) (by kernel_rfl) (by kernel_rfl) (exec_eqli_yes hk (by kernel_rfl)) ?_
      refine lin_now 19 (.bool true) (some 115) (by kernel_rfl) (by kernel_rfl) (by kernel_rfl) ?_
      refine lin_pass 20 (some 116) (by kernel_rfl) (by kernel_rfl) ?_
      refine lin_pass 21 (some 117) (by kernel_rfl) (by kernel_rfl) ?_
      refine lin_pass 22 (some 118) (by kernel_rfl) (by kernel_rfl) ?_
      refine lin_now 23 (.bool true) (some 119) (by kernel_rfl) (by kernel_rfl) (by kernel_rfl) ?_
      refine lin_now 24 (.bool true) (some 120) (by kernel_rfl) (by kernel_rfl) (by kernel_rfl) ?_
      refine lin_now 25 (.bool true) (some 6) (by kernel_rfl) (by kernel_rfl) (by kernel_rfl) ?_
      refine lin_done 26 (by kernel_rfl) ?_
      generalize hact : Act.put _ (some 6) _ = act
      simp only [Act.put, List.setIfInBounds_toArray, List.set_cons_succ, List.set_cons_zero] at hact
      subst hact
      go_wp2
      go_ret
      exact ⟨rfl, BE.out⟩
    go_upto_region 19 with (fail)
    refine lin_begin (opsOf Try.f4 19) (by kernel_rfl) ?_
    refine lin_now 0 (.slice ga (R + N) gk) (some 96) (by kernel_rfl) (by kernel_rfl) (by kernel_rfl) ?_
    refine lin_now 1 (.slice ia R ik) (some 97) (by kernel_rfl) (by kernel_rfl) (by kernel_rfl) ?_
    refine lin_now 2 (.int .i64 (R : Int)) (some 98) (by kernel_rfl) (by kernel_rfl) (by kernel_rfl) ?_
    obtain ⟨v1, hv1, hv1T⟩ := tms_low gvT.out z7
    rw [hR.out] at hv1
    refine lin_now 3 (v1) (some 99) (by kernel_rfl) (by kernel_rfl) (exec_of _ _ (by kernel_rfl) hv1) ?_
    refine lin_now 4 (.slice aa N ac) (some 100) (by kernel_rfl) (by kernel_rfl) (by kernel_rfl) ?_
    have v1T := Lib.hid hv1T
    clear hv1T hv1
    refine lin_call 5 19 #[v1, .slice aa N ac] (some 101) _ (by kernel_rfl) (by kernel_rfl) (by kernel_rfl) ((by have h := lsame_walk l l v1 _ z7 v1T.out (HL.out.below BE.out) SS.out LSA.out; rw [eqTs_yes rfl] at h; exact h)) ?_
    rintro e z8 ⟨rfl, hb⟩
    refine ⟨_, rfl, ?_⟩
    have BE : Hid (Below w.heap.size w z8) := BE.out.trans (hb.mono BE.out.size)
    have BQ := Lib.hid (BQ.out.below hb BQ.out.lt)
    have hcT := Lib.hid (hcT.out.below hb)
    have hcB := Lib.hid (hcB.out.below hb hcB.out.lt)
    have bcT := Lib.hid (bcT.out.below hb)
    have bcB := Lib.hid (bcB.out.below hb bcB.out.lt)
    have gcT := Lib.hid (gcT.out.below hb)
    have gvT := Lib.hid (gvT.out.below hb)
    have gcB := Lib.hid (gcB.out.below hb gcB.out.lt)
    have icT := Lib.hid (icT.out.below hb)
    have icB := Lib.hid (icB.out.below hb icB.out.lt)
    have dcT := Lib.hid (dcT.out.below hb)
    have tvT := Lib.hid (tvT.out.below hb)
    have dcB := Lib.hid (dcB.out.below hb dcB.out.lt)
    clear hb
    refine lin_now 6 (.bool true) (some 102) (by kernel_rfl) (by kernel_rfl) (by kernel_rfl) ?_
    refine lin_now 7 (.slice ta (N + T) tk) (some 103) (by kernel_rfl) (by kernel_rfl) (by kernel_rfl) ?_
    refine lin_now 8 (.slice aa N ac) (some 104) (by kernel_rfl) (by kernel_rfl) (by kernel_rfl) ?_
    refine lin_now 9 (.int .i64 (N : Int)) (some 105) (by kernel_rfl) (by kernel_rfl) (by kernel_rfl) ?_
    obtain ⟨v2, hv2, hv2T⟩ := tms_high tvT.out z8
    rw [hAN.out] at hv2
    refine lin_now 10 (v2) (some 106) (by kernel_rfl) (by kernel_rfl) (exec_of _ _ (by kernel_rfl) hv2) ?_
    refine lin_now 11 (.slice aa N ac) (some 107) (by kernel_rfl) (by kernel_rfl) (by kernel_rfl) ?_
    have v2T := Lib.hid hv2T
    clear hv2T hv2
    refine lin_call 12 19 #[v2, .slice aa N ac] (some 108) _ (by kernel_rfl) (by kernel_rfl) (by kernel_rfl) ((by have h := lsame_walk l l v2 _ z8 v2T.out (HL.out.below BE.out) SS.out LSA.out; rw [eqTs_yes rfl] at h; exact h)) ?_
    rintro e z9 ⟨rfl, hb⟩
    refine ⟨_, rfl, ?_⟩
    have BE : Hid (Below w.heap.size w z9) := BE.out.trans (hb.mono BE.out.size)
    have BQ := Lib.hid (BQ.out.below hb BQ.out.lt)
    have hcT := Lib.hid (hcT.out.below hb)
    have hcB := Lib.hid (hcB.out.below hb hcB.out.lt)
    have bcT := Lib.hid (bcT.out.below hb)
    have bcB := Lib.hid (bcB.out.below hb bcB.out.lt)
    have gcT := Lib.hid (gcT.out.below hb)
    have gvT := Lib.hid (gvT.out.below hb)
    have gcB := Lib.hid (gcB.out.below hb gcB.out.lt)
    have icT := Lib.hid (icT.out.below hb)
    have icB := Lib.hid (icB.out.below hb icB.out.lt)
    have dcT := Lib.hid (dcT.out.below hb)
    have tvT := Lib.hid (tvT.out.below hb)
    have dcB := Lib.hid (dcB.out.below hb dcB.out.lt)
    clear hb
    refine lin_now 13 (.bool true) (some 109) (by kernel_rfl) (by kernel_rfl) (by kernel_rfl) ?_
    refine lin_now 14 (.bool true) (some 110) (by kernel_rfl) (by kernel_rfl) (by kernel_rfl) ?_
    refine lin_now 15 (.pointer (some ⟨q, 0, none⟩)) (some 111) (by kernel_rfl) (by kernel_rfl) (by kernel_rfl) ?_
    refine lin_now 16 (.int .i64 f.kind) (some 112) (by kernel_rfl) (by kernel_rfl) (exec_load_cell 3 (.tmp 111) (by kernel_rfl) (q) 0 (by kernel_rfl) _ (BQ.out.cell (by rw [hfc]; rfl)) _ Try.underlying3 rfl) ?_
    refine lin_now 17 (.int .i64 k) (some 113) (by kernel_rfl) (by kernel_rfl) (by kernel_rfl) ?_
    refine lin_now 18 (.bool false) (some 114) (by kernel_rfl) (by kernel_rfl) (exec_eqli hk (by kernel_rfl)) ?_
    refine lin_now 19 (.bool false) (some 115) (by kernel_rfl) (by kernel_rfl) (by kernel_rfl) ?_
    refine lin_now 20 (.agg (dc).toArray) (some 116) (by kernel_rfl) (by kernel_rfl) (exec_load_mid 27 (.tmp 15) (by kernel_rfl) (b15) 0 (by kernel_rfl) (dc) _ (dcB.out).whole Try.underlying27 rfl (t5Size dc5.out)) ?_
    refine lin_now 21 (.agg (fc).toArray) (some 117) (by kernel_rfl) (by kernel_rfl) (exec_load_mid 27 (.tmp 3) (by kernel_rfl) (q) 0 (by kernel_rfl) (fc) _ (BQ.out).whole Try.underlying27 rfl (t5Size C5.out)) ?_
    refine lin_call 22 14 #[.agg dc.toArray, .agg fc.toArray] (some 118) _ (by kernel_rfl) (by kernel_rfl) (by kernel_rfl) ((by have h := sameterm_walk f f dc fc z9 [] F (by have h := dcT.out; rw [strip_other hk] at h; exact h) (HF.out.below BE.out) HFS.out; rw [eqT_yes rfl] at h; exact h)) ?_
    rintro e z10 ⟨rfl, hb⟩
    refine ⟨_, rfl, ?_⟩
    have BE : Hid (Below w.heap.size w z10) := BE.out.trans (hb.mono BE.out.size)
    have BQ := Lib.hid (BQ.out.below hb BQ.out.lt)
    have hcT := Lib.hid (hcT.out.below hb)
    have hcB := Lib.hid (hcB.out.below hb hcB.out.lt)
    have bcT := Lib.hid (bcT.out.below hb)
    have bcB := Lib.hid (bcB.out.below hb bcB.out.lt)
    have gcT := Lib.hid (gcT.out.below hb)
    have gvT := Lib.hid (gvT.out.below hb)
    have gcB := Lib.hid (gcB.out.below hb gcB.out.lt)
    have icT := Lib.hid (icT.out.below hb)
    have icB := Lib.hid (icB.out.below hb icB.out.lt)
    have dcT := Lib.hid (dcT.out.below hb)
    have tvT := Lib.hid (tvT.out.below hb)
    have dcB := Lib.hid (dcB.out.below hb dcB.out.lt)
    clear hb
    refine lin_now 23 (.bool true) (some 119) (by kernel_rfl) (by kernel_rfl) (by kernel_rfl) ?_
    refine lin_now 24 (.bool true) (some 120) (by kernel_rfl) (by kernel_rfl) (by kernel_rfl) ?_
    refine lin_now 25 (.bool true) (some 6) (by kernel_rfl) (by kernel_rfl) (by kernel_rfl) ?_
    refine lin_done 26 (by kernel_rfl) ?_
    generalize hact : Act.put _ (some 6) _ = act
    simp only [Act.put, List.setIfInBounds_toArray, List.set_cons_succ, List.set_cons_zero] at hact
    subst hact
    go_wp2
    go_ret
    exact ⟨rfl, BE.out⟩
end Go.Proofs.Ytlheikhjgdhmmaa
