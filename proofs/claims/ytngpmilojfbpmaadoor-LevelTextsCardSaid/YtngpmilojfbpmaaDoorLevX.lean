/- LevelTexts answers true. -/
import Derived.Test.YtngpmilojfbpmaaDoorLevO
import Derived.Laws.IdiomStrings
namespace Go.Proofs.YtngpmilojfbpmaaDoor
open Go Go.RowKit
set_option maxRecDepth 100000

/-- A string's bytes. -/
def strInts (s : ByteArray) : List Int := s.data.toList.map fun b => (b.toNat : Int)
theorem strInts_length (s : ByteArray) : (strInts s).length = s.size := by simp [strInts]
theorem run_str_bytes (s : ByteArray) (w : World) : ∃ v w', (convert 9 22 (.string s)).run Tryd.prog w = .ok v w' ∧ BytesIn w' v (strInts s) ∧ NilOk v ∧ Below w.heap.size w w' ∧ w'.heap.size = w.heap.size + 1 ∧ ∃ c, v = .slice (some ⟨w.heap.size, 0, none⟩) (strInts s).length c := by
  refine ⟨_, _, run_bytes_of_string w 9 22 5 s Tryd.underlying9 Tryd.underlying22 Tryd.underlying5, ?_, trivial, ?_, by simp, ?_⟩
  · refine ⟨some ⟨w.heap.size, 0, none⟩, grownCap w s.size 0 5, by rw [strInts_length], ?_, fun _ => ⟨w.heap.size, 0, rfl, by simp, fun j v hv => ?_⟩⟩
    · rw [strInts_length]; exact grownCap_ge _ _ _ _
    · have hj : j < s.size := by have := (List.getElem?_eq_some_iff.1 hv).1; rwa [ints_length, strInts_length] at this
      have e : (w.drew.alloc (.cells (bytesRow s (grownCap w s.size 0 5)) 5 ((bytesRow s (grownCap w s.size 0 5)).size, (bytesRow s (grownCap w s.size 0 5)).size + 1))).cell? ⟨w.heap.size, 0 + j, none⟩ = (bytesRow s (grownCap w s.size 0 5))[0 + j]? := World.cell?_alloc_mark w.drew _ _ _ _
      rw [e, Nat.zero_add, bytesRow_at s _ j hj]
      rw [← hv, ints_getD (by rw [strInts_length]; exact hj)]
      have hjd : j < s.data.size := hj
      simp [strInts]
      rw [Array.getElem?_eq_getElem hjd]; rfl
  · exact (Below.refl _ _).drew.alloc (Nat.le_refl _) _
  · exact ⟨_, by rw [strInts_length]⟩

theorem str_beq (xs ys : List UInt8) : ((⟨xs.toArray⟩ : ByteArray).toList == (⟨ys.toArray⟩ : ByteArray).toList) = decide (xs = ys) := by
  rw [ByteArray.toList_eq, ByteArray.toList_eq]
  by_cases h : xs = ys
  · subst h; simp
  · rw [decide_eq_false h]
    simpa using h
theorem exec_streq {P : Program} {a : Act} {w : World} {op : Oper} (t t2 : TypeId) (x y : Operand) (ho : op.op = .binOp .eql t x y t2) (xs ys : List UInt8) (ex : a.eval x = strV xs) (ey : a.eval y = strV ys) (hg : ∀ w, (eqGuard .eql t x y (strV xs) (strV ys)).run P w = .ok () w) : (execOp a.eval op).run P w = .ok (.value (.bool (decide (xs = ys)))) w := by
  have h : (binOp .eql t (strV xs) (strV ys)).run P w = .ok (.bool (decide (xs = ys))) w := by
    unfold strV
    rw [binOp_string_eql, str_beq]
    rfl
  unfold execOp
  simp only [ho, ex, ey, Sem.run_bind, hg, Result.andThen_ok, h]
  rfl
theorem exec_strne {P : Program} {a : Act} {w : World} {op : Oper} (t t2 : TypeId) (x y : Operand) (ho : op.op = .binOp .neq t x y t2) (xs ys : List UInt8) (ex : a.eval x = strV xs) (ey : a.eval y = strV ys) (hg : ∀ w, (eqGuard .neq t x y (strV xs) (strV ys)).run P w = .ok () w) : (execOp a.eval op).run P w = .ok (.value (.bool (!decide (xs = ys)))) w := by
  have h : (binOp .neq t (strV xs) (strV ys)).run P w = .ok (.bool (!decide (xs = ys))) w := by
    unfold strV
    rw [binOp_string_neq, str_beq]
    rfl
  unfold execOp
  simp only [ho, ex, ey, Sem.run_bind, hg, Result.andThen_ok, h]
  rfl
theorem text_right {l : Lv} (hl : l.p.length = 4) : (!decide (textL l = [])) = rightL l := by
  cases h : rightL l with
  | true => rw [decide_eq_false (text_ne hl h)]; rfl
  | false => rw [decide_eq_true (by rw [textL, h]; rfl)]; rfl
theorem text_same {a b : Lv} (ha : a.p.length = 4) (hb : b.p.length = 4) (h : rightL a = true) : decide (textL a = textL b) = decide (a = b) := by
  by_cases hr : rightL b = true
  · by_cases e : a = b
    · rw [decide_eq_true e, decide_eq_true (by rw [e])]
    · rw [decide_eq_false e, decide_eq_false (fun ht => e (text_inj ha hb h hr ht))]
  · have e : ¬ a = b := fun e => hr (by rw [← e]; exact h)
    have hb0 : rightL b = false := by simpa using hr
    rw [decide_eq_false e, decide_eq_false (fun ht => text_ne ha h (by rw [ht, textL, hb0]; rfl))]
theorem text_len {l : Lv} (hl : l.p.length = 4) : (textL l).length ≤ 265 := by
  cases h : rightL l with
  | false => rw [textL, h]; simp
  | true =>
    rw [textL, if_pos h]
    have h1 := join_le (partsL l) (parts_len hl h)
    have h2 : (partsL l).length ≤ 5 := partsUp_len l (topL l) 4
    omega
theorem strInts_len (s : List UInt8) : (strInts ⟨s.toArray⟩).length = s.length := by simp [strInts]
set_option maxHeartbeats 8000000 in
theorem texts_main (a b : Lv) (ha : a.p.length = 4) (hb : b.p.length = 4) (w : World) (hT : TabW w) : Calls Tryd.prog 7 #[.agg (ints .i64 a.zs).toArray, .agg (ints .i64 b.zs).toArray] w fun e w' => e = .returned (.bool true) ∧ Below w.heap.size w w' := by
  obtain ⟨q, hq⟩ : ∃ q, Hid (w.heap.size = q) := ⟨_, rfl⟩
  have HA := Lib.hid ha
  have HB := Lib.hid hb
  have HT := Lib.hid hT
  rw [hq.out]
  clear ha hb hT
  go_enter Tryd.func7, Tryd.ntmps7
  go_upto_region 0 with (fail)
  refine lin_begin (opsOf Tryd.f7 0) (by kernel_rfl) ?_
  refine lin_box 0 46 (.tmp 0) (ints .i64 a.zs) (q) (some 2) (by kernel_rfl) (by kernel_rfl) (by kernel_rfl) (by kernel_rfl) hq ?_
  intro w1 b1 be1 hs1
  refine lin_box 1 46 (.tmp 1) (ints .i64 b.zs) (q + 1) (some 3) (by kernel_rfl) (by kernel_rfl) (by kernel_rfl) (by kernel_rfl) hs1 ?_
  intro w2 b2 be2 hs2
  refine lin_now 2 (.bool false) (some 4) (by kernel_rfl) (by kernel_rfl) (by kernel_rfl) ?_
  refine lin_done 3 (by kernel_rfl) ?_
  have be02 : Below q w w2 := be1.trans (be2.mono (Nat.le_succ _))
  have S2 : Hid (LvS q w [(q, a), (q + 1, b)] (.slice none 0 0) [] w2) := ⟨fun x hx => by
    simp only [List.mem_cons, List.not_mem_nil, or_false] at hx
    rcases hx with rfl | rfl
    · exact b1.below be2 (Nat.lt_succ_self _)
    · exact b2, ⟨none, 0, rfl, Nat.le_refl _, fun h => by simp at h⟩, be02, by rw [hs2.out]; omega⟩
  have T2 : Hid (TabW w2) := HT.out.below (by rw [hq.out]; exact be02)
  clear b1 be1 hs1 b2 be2 hs2 be02
  generalize hact : Act.put _ (some 4) _ = act
  simp only [Act.put, List.setIfInBounds_toArray, List.set_cons_succ, List.set_cons_zero] at hact
  subst hact
  go_wp2_with fail
  refine (alive7_walk _ T2.out).mono ?_
  rintro e w3 ⟨rfl, hb3⟩
  have S3 := Lib.hid (S2.out.next hb3)
  have T3 := Lib.hid (T2.out.below hb3)
  clear hb3 S2 T2
  go_upto_region 3 with (fail)
  refine lin_begin (opsOf Tryd.f7 3) (by kernel_rfl) ?_
  refine lin_load 0 46 (.tmp 2) (q) _ (ints .i64 a.zs) (some 9) (by kernel_rfl) (by kernel_rfl) (by kernel_rfl) (by kernel_rfl) (S3.out.l (q, a) (by simp)) _ Tryd.underlying46 rfl (lvSize HA.out) ?_
  refine lin_call 1 22 #[.agg (ints .i64 (a).zs).toArray] (some 10) _ (by kernel_rfl) (by kernel_rfl) (by kernel_rfl) (string_walk a HA.out _ T3.out) ?_
  rintro e w4 ⟨rfl, hb4⟩
  have S4 := Lib.hid (S3.out.next hb4)
  have T4 := Lib.hid (T3.out.below hb4)
  clear hb4 S3 T3
  refine ⟨_, rfl, ?_⟩
  obtain ⟨s, hs⟩ : ∃ s, Hid (textL a = s) := ⟨_, rfl⟩
  rw [hs.out]
  refine lin_now 2 (strV s) (some 5) (by kernel_rfl) (by kernel_rfl) (by kernel_rfl) ?_
  refine lin_done 3 (by kernel_rfl) ?_
  generalize hact : Act.put _ (some 5) _ = act
  simp only [Act.put, List.setIfInBounds_toArray, List.set_cons_succ, List.set_cons_zero] at hact
  subst hact
  go_upto_region 4 with (fail)
  refine lin_begin (opsOf Tryd.f7 4) (by kernel_rfl) ?_
  refine lin_load 0 46 (.tmp 3) (q + 1) _ (ints .i64 b.zs) (some 11) (by kernel_rfl) (by kernel_rfl) (by kernel_rfl) (by kernel_rfl) (S4.out.l (q + 1, b) (by simp)) _ Tryd.underlying46 rfl (lvSize HB.out) ?_
  refine lin_call 1 22 #[.agg (ints .i64 (b).zs).toArray] (some 12) _ (by kernel_rfl) (by kernel_rfl) (by kernel_rfl) (string_walk b HB.out _ T4.out) ?_
  rintro e w5 ⟨rfl, hb5⟩
  have S5 := Lib.hid (S4.out.next hb5)
  clear hb5 S4 T4
  refine ⟨_, rfl, ?_⟩
  obtain ⟨u, hu⟩ : ∃ s, Hid (textL b = s) := ⟨_, rfl⟩
  rw [hu.out]
  refine lin_now 2 (strV u) (some 6) (by kernel_rfl) (by kernel_rfl) (by kernel_rfl) ?_
  refine lin_done 3 (by kernel_rfl) ?_
  generalize hact : Act.put _ (some 6) _ = act
  simp only [Act.put, List.setIfInBounds_toArray, List.set_cons_succ, List.set_cons_zero] at hact
  subst hact
  have RA : Hid ((!decide (s = [])) = rightL a) := by rw [Hid, ← hs.out]; exact text_right HA.out
  have RB : Hid ((!decide (u = [])) = rightL b) := by rw [Hid, ← hu.out]; exact text_right HB.out
  obtain ⟨ra, hra⟩ : ∃ x, Hid (rightL a = x) := ⟨_, rfl⟩
  obtain ⟨rb, hrb⟩ : ∃ x, Hid (rightL b = x) := ⟨_, rfl⟩
  go_upto_region 5 with (fail)
  refine lin_begin (opsOf Tryd.f7 5) (by kernel_rfl) ?_
  refine lin_now 0 (strV s) (some 13) (by kernel_rfl) (by kernel_rfl) (by kernel_rfl) ?_
  refine lin_now 1 (.bool (!decide (s = []))) (some 14) (by kernel_rfl) (by kernel_rfl) (exec_strne 9 9 (.tmp 13) (.const (strV [])) (by kernel_rfl) (s) ([]) (by kernel_rfl) (by kernel_rfl) (fun w => by kernel_rfl)) ?_
  rw [RA.out, hra.out]
  refine lin_load 2 46 (.tmp 2) (q) _ (ints .i64 a.zs) (some 15) (by kernel_rfl) (by kernel_rfl) (by kernel_rfl) (by kernel_rfl) (S5.out.l (q, a) (by simp)) _ Tryd.underlying46 rfl (lvSize HA.out) ?_
  refine lin_call 3 19 #[.agg (ints .i64 (a).zs).toArray] (some 16) _ (by kernel_rfl) (by kernel_rfl) (by kernel_rfl) (right_walk a HA.out _) ?_
  rintro e w6 ⟨rfl, hb6⟩
  rw [hra.out]
  have S6 := Lib.hid (S5.out.next hb6)
  clear hb6 S5
  refine ⟨_, rfl, ?_⟩
  refine lin_now 4 (.bool (!(ra == ra))) (some 17) (by kernel_rfl) (by kernel_rfl) (exec_neqb 4 4 (.tmp 14) (.tmp 16) (by kernel_rfl) Tryd.underlying4 ra ra (by kernel_rfl) (by kernel_rfl) (fun w => by kernel_rfl)) ?_
  rw [show (!(ra == ra)) = false by cases ra <;> rfl]
  refine lin_now 5 (.bool false) (some 18) (by kernel_rfl) (by kernel_rfl) (by kernel_rfl) ?_
  refine lin_now 6 (strV u) (some 19) (by kernel_rfl) (by kernel_rfl) (by kernel_rfl) ?_
  refine lin_now 7 (.bool (!decide (u = []))) (some 20) (by kernel_rfl) (by kernel_rfl) (exec_strne 9 9 (.tmp 19) (.const (strV [])) (by kernel_rfl) (u) ([]) (by kernel_rfl) (by kernel_rfl) (fun w => by kernel_rfl)) ?_
  rw [RB.out, hrb.out]
  refine lin_load 8 46 (.tmp 3) (q + 1) _ (ints .i64 b.zs) (some 21) (by kernel_rfl) (by kernel_rfl) (by kernel_rfl) (by kernel_rfl) (S6.out.l (q + 1, b) (by simp)) _ Tryd.underlying46 rfl (lvSize HB.out) ?_
  refine lin_call 9 19 #[.agg (ints .i64 (b).zs).toArray] (some 22) _ (by kernel_rfl) (by kernel_rfl) (by kernel_rfl) (right_walk b HB.out _) ?_
  rintro e w7 ⟨rfl, hb7⟩
  rw [hrb.out]
  have S7 := Lib.hid (S6.out.next hb7)
  clear hb7 S6
  refine ⟨_, rfl, ?_⟩
  refine lin_now 10 (.bool (!(rb == rb))) (some 23) (by kernel_rfl) (by kernel_rfl) (exec_neqb 4 4 (.tmp 20) (.tmp 22) (by kernel_rfl) Tryd.underlying4 rb rb (by kernel_rfl) (by kernel_rfl) (fun w => by kernel_rfl)) ?_
  rw [show (!(rb == rb)) = false by cases rb <;> rfl]
  refine lin_now 11 (.bool false) (some 24) (by kernel_rfl) (by kernel_rfl) (by kernel_rfl) ?_
  refine lin_done 12 (by kernel_rfl) ?_
  generalize hact : Act.put _ (some 24) _ = act
  simp only [Act.put, List.setIfInBounds_toArray, List.set_cons_succ, List.set_cons_zero] at hact
  subst hact
  go_upto_region 7 with (fail)
  refine lin_begin (opsOf Tryd.f7 7) (by kernel_rfl) ?_
  refine lin_now 0 (strV s) (some 25) (by kernel_rfl) (by kernel_rfl) (by kernel_rfl) ?_
  refine lin_now 1 (.bool (decide (s = []))) (some 26) (by kernel_rfl) (by kernel_rfl) (exec_streq 9 9 (.tmp 25) (.const (strV [])) (by kernel_rfl) (s) ([]) (by kernel_rfl) (by kernel_rfl) (fun w => by kernel_rfl)) ?_
  refine lin_now 2 (.bool (decide (s = []))) (some 27) (by kernel_rfl) (by kernel_rfl) (by kernel_rfl) ?_
  by_cases hse : s = []
  · rw [decide_eq_true hse]
    refine lin_pass 3 (some 28) (by kernel_rfl) (by kernel_rfl) ?_
    refine lin_pass 4 (some 29) (by kernel_rfl) (by kernel_rfl) ?_
    refine lin_pass 5 (some 30) (by kernel_rfl) (by kernel_rfl) ?_
    refine lin_pass 6 (some 31) (by kernel_rfl) (by kernel_rfl) ?_
    refine lin_pass 7 (some 32) (by kernel_rfl) (by kernel_rfl) ?_
    refine lin_pass 8 (some 33) (by kernel_rfl) (by kernel_rfl) ?_
    refine lin_pass 9 (some 34) (by kernel_rfl) (by kernel_rfl) ?_
    refine lin_pass 10 (some 35) (by kernel_rfl) (by kernel_rfl) ?_
    refine lin_pass 11 (some 36) (by kernel_rfl) (by kernel_rfl) ?_
    refine lin_pass 12 (some 37) (by kernel_rfl) (by kernel_rfl) ?_
    refine lin_pass 13 (some 38) (by kernel_rfl) (by kernel_rfl) ?_
    refine lin_pass 14 (some 39) (by kernel_rfl) (by kernel_rfl) ?_
    refine lin_pass 15 (some 40) (by kernel_rfl) (by kernel_rfl) ?_
    refine lin_pass 16 (some 41) (by kernel_rfl) (by kernel_rfl) ?_
    refine lin_pass 17 (some 42) (by kernel_rfl) (by kernel_rfl) ?_
    refine lin_pass 18 (some 43) (by kernel_rfl) (by kernel_rfl) ?_
    refine lin_now 19 (.bool true) (some 44) (by kernel_rfl) (by kernel_rfl) (by kernel_rfl) ?_
    refine lin_now 20 (.bool true) (some 4) (by kernel_rfl) (by kernel_rfl) (by kernel_rfl) ?_
    refine lin_done 21 (by kernel_rfl) ?_
    generalize hact : Act.put _ (some 4) _ = act
    simp only [Act.put, List.setIfInBounds_toArray, List.set_cons_succ, List.set_cons_zero] at hact
    subst hact
    go_wp2
    go_ret
    exact ⟨rfl, S7.out.b⟩
  · have RT : Hid (rightL a = true) := by rw [Hid, ← RA.out, decide_eq_false hse]; rfl
    have SA : Hid (decide (s = u) = decide (a = b)) := by rw [Hid, ← hs.out, ← hu.out]; exact text_same HA.out HB.out RT.out
    have SL : Hid (s.length ≤ 265) := by rw [Hid, ← hs.out]; exact text_len HA.out
    rw [decide_eq_false hse]
    refine lin_now 3 (strV s) (some 28) (by kernel_rfl) (by kernel_rfl) (by kernel_rfl) ?_
    refine lin_now 4 (strV u) (some 29) (by kernel_rfl) (by kernel_rfl) (by kernel_rfl) ?_
    refine lin_now 5 (.bool (decide (s = u))) (some 30) (by kernel_rfl) (by kernel_rfl) (exec_streq 9 9 (.tmp 28) (.tmp 29) (by kernel_rfl) (s) (u) (by kernel_rfl) (by kernel_rfl) (fun w => by kernel_rfl)) ?_
    rw [SA.out]
    refine lin_load 6 46 (.tmp 2) (q) _ (ints .i64 a.zs) (some 31) (by kernel_rfl) (by kernel_rfl) (by kernel_rfl) (by kernel_rfl) (S7.out.l (q, a) (by simp)) _ Tryd.underlying46 rfl (lvSize HA.out) ?_
    refine lin_load 7 46 (.tmp 3) (q + 1) _ (ints .i64 b.zs) (some 32) (by kernel_rfl) (by kernel_rfl) (by kernel_rfl) (by kernel_rfl) (S7.out.l (q + 1, b) (by simp)) _ Tryd.underlying46 rfl (lvSize HB.out) ?_
    refine lin_now 8 (.bool (decide (a = b))) (some 33) (by kernel_rfl) (by kernel_rfl) (exec_eqlv (.tmp 31) (.tmp 32) 46 (by kernel_rfl) HA.out HB.out (by kernel_rfl) (by kernel_rfl)) ?_
    obtain ⟨eb, heb⟩ : ∃ x, Hid (decide (a = b) = x) := ⟨_, rfl⟩
    rw [heb.out]
    refine lin_now 9 (.bool (eb == eb)) (some 34) (by kernel_rfl) (by kernel_rfl) (exec_eqlb 4 4 (.tmp 30) (.tmp 33) (by kernel_rfl) Tryd.underlying4 eb eb (by kernel_rfl) (by kernel_rfl) (fun w => by kernel_rfl)) ?_
    rw [show (eb == eb) = true by cases eb <;> rfl]
    refine lin_now 10 (.bool true) (some 35) (by kernel_rfl) (by kernel_rfl) (by kernel_rfl) ?_
    refine lin_now 11 (strV s) (some 36) (by kernel_rfl) (by kernel_rfl) (by kernel_rfl) ?_
    obtain ⟨cv, w8, hcv, hcb, hcn, hb8, -, cc, ecv⟩ := run_str_bytes ⟨s.toArray⟩ w7
    rw [strInts_len] at ecv
    have LN := strInts_len s
    subst ecv
    obtain ⟨nn, hnn⟩ : ∃ n, Hid (s.length = n) := ⟨_, rfl⟩
    rw [hnn.out] at hcv hcb hcn LN
    refine lin_value 12 (.slice (some ⟨w7.heap.size, 0, none⟩) nn cc) (some 37) w8 (by kernel_rfl) (by kernel_rfl) (exec_of (convert 9 22 (strV s)) _ (by kernel_rfl) hcv) ?_
    have S8 := Lib.hid (S7.out.next hb8)
    clear hcv hb8 S7
    generalize w7.heap.size = gb at hcb hcn ⊢
    refine lin_call 13 23 #[.slice (some ⟨gb, 0, none⟩) nn cc] (some 38) _ (by kernel_rfl) (by kernel_rfl) (by kernel_rfl) (copyb_walk _ (strInts ⟨s.toArray⟩) _ hcb hcn (by rw [LN]; have := SL.out; have := hnn.out; omega)) ?_
    rintro e w9 ⟨v9, rfl, ho9, hb9⟩
    have S9 := Lib.hid (S8.out.next hb9)
    obtain ⟨a9, c9, e9, -⟩ := owns_bytes ho9
    rw [LN] at e9
    subst e9
    clear ho9 hb9 S8 hcb hcn LN
    refine ⟨_, rfl, ?_⟩
    refine lin_now 14 (.int .i64 (nn : Int)) (some 39) (by kernel_rfl) (by kernel_rfl) (by kernel_rfl) ?_
    refine lin_now 15 (strV s) (some 40) (by kernel_rfl) (by kernel_rfl) (by kernel_rfl) ?_
    refine lin_now 16 (.int .i64 (s.length : Int)) (some 41) (by kernel_rfl) (by kernel_rfl) (by kernel_rfl) ?_
    rw [hnn.out]
    refine lin_now 17 (.bool ((nn : Int) == (nn : Int))) (some 42) (by kernel_rfl) (by kernel_rfl) (by kernel_rfl) ?_
    rw [show ((nn : Int) == (nn : Int)) = true by simp]
    refine lin_now 18 (.bool true) (some 43) (by kernel_rfl) (by kernel_rfl) (by kernel_rfl) ?_
    refine lin_now 19 (.bool true) (some 44) (by kernel_rfl) (by kernel_rfl) (by kernel_rfl) ?_
    refine lin_now 20 (.bool true) (some 4) (by kernel_rfl) (by kernel_rfl) (by kernel_rfl) ?_
    refine lin_done 21 (by kernel_rfl) ?_
    generalize hact : Act.put _ (some 4) _ = act
    simp only [Act.put, List.setIfInBounds_toArray, List.set_cons_succ, List.set_cons_zero] at hact
    subst hact
    go_wp2
    go_ret
    exact ⟨rfl, S9.out.b⟩
end Go.Proofs.YtngpmilojfbpmaaDoor
