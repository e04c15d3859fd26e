/- The law TermMakes. -/
import Derived.Test.YtndbpmkglddjjaaTrmL
namespace Go.Proofs.Ytndbpmkglddjjaa
open Go Go.RowKit
set_option maxRecDepth 100000

theorem tms_low {F : List Nat} {w : World} {ts1 ts2 : List Tm} {v : Value} (h : TmsAt F w (ts1 ++ ts2) v) (w' : World) : ∃ v', (Instr.sliceAt 23 v (some (.int .i64 (ts1.length : Int))) none none).run Try.prog w' = .ok v' w' ∧ TmsAt F w ts2 v' := by
  obtain ⟨a, c, rfl⟩ := h.slice
  have hz : (sizeOf (Try.prog.elem 23)).run Try.prog w' = .ok 5 w' := by kernel_rfl
  rw [run_sliceAt_slice w' 23 _ _ _ _ elemTms, run_slice_l w' 23 _ _ c elemTms .i64 (ts1.length : Int) (by omega) (by simp; omega), hz]
  simp only [Result.andThen_ok, sliced, Int.toNat_natCast]
  refine ⟨_, rfl, ?_⟩
  cases ts2 with
  | nil =>
    rw [List.append_nil, Nat.sub_self]
    exact TmsAt.nil _ _ _ _
  | cons t ts =>
    obtain ⟨x, pb, po, cs, -, -, rfl, hF, hb, hc, -, -⟩ := h.get rfl (i := ts1.length) (by simp)
    have hlen : (ts1 ++ t :: ts).length - ts1.length = (t :: ts).length := by simp
    rw [hlen, if_neg (by simp at hc; omega)]
    simp only [Option.map_some, Addr.add_mid, Nat.mul_comm ts1.length 5]
    refine TmsAt.of (by simp at hc ⊢; omega) hF hb fun i y hy => ?_
    have hi := (List.getElem?_eq_some_iff.1 hy).1
    obtain ⟨x, pb2, po2, cs, hx, -, e, -, -, -, hr, ht⟩ := h.get rfl (i := ts1.length + i) (by simp at hi ⊢; omega)
    cases e
    rw [List.getElem?_append_right (by omega), Nat.add_sub_cancel_left, hy] at hx
    cases hx
    exact ⟨cs, by rw [show po + 5 * ts1.length + 5 * i = po + 5 * (ts1.length + i) by omega]; exact hr, ht⟩
theorem tms_high {F : List Nat} {w : World} {ts1 ts2 : List Tm} {v : Value} (h : TmsAt F w (ts1 ++ ts2) v) (w' : World) : ∃ v', (Instr.sliceAt 23 v none (some (.int .i64 (ts1.length : Int))) none).run Try.prog w' = .ok v' w' ∧ TmsAt F w ts1 v' := by
  obtain ⟨a, c, rfl⟩ := h.slice
  have hz : (sizeOf (Try.prog.elem 23)).run Try.prog w' = .ok 5 w' := by kernel_rfl
  have hle : ts1.length ≤ c := by
    by_cases h0 : 0 < (ts1 ++ ts2).length
    · obtain ⟨x, pb, po, cs, -, -, -, -, -, hc, -, -⟩ := h.get rfl (i := 0) h0
      simp at hc
      omega
    · rw [Nat.not_lt, Nat.le_zero, List.length_append] at h0
      omega
  rw [run_sliceAt_slice w' 23 _ _ _ _ elemTms, run_slice_h w' 23 _ _ c elemTms .i64 (ts1.length : Int) (by omega) (by omega), hz]
  simp only [Result.andThen_ok, sliced, Int.toNat_natCast, Nat.sub_zero, Nat.zero_mul]
  refine ⟨_, rfl, ?_⟩
  cases ts1 with
  | nil => exact TmsAt.nil _ _ _ _
  | cons t ts =>
    obtain ⟨x, pb, po, cs, -, -, rfl, hF, hb, hc, -, -⟩ := h.get rfl (i := 0) (by simp)
    simp only [Option.map_some, Addr.add_mid, Nat.add_zero, ite_self]
    refine TmsAt.of hle hF hb fun i y hy => ?_
    have hi := (List.getElem?_eq_some_iff.1 hy).1
    obtain ⟨x, pb2, po2, cs, hx, -, e, -, -, -, hr, ht⟩ := h.get rfl (i := i) (by simp at hi ⊢; omega)
    cases e
    rw [List.getElem?_append_left hi, hy] at hx
    cases hx
    exact ⟨cs, hr, ht⟩
theorem spine_len (t : Tm) : (spineT t).2.length ≤ nodesT t := by
  refine Tm.byParts (C := fun t => (spineT t).2.length ≤ nodesT t) (fun k n s ls a ih => ?_) t
  match a, ih with
  | [], _ => simp [spineT]
  | [x], _ => simp [spineT]
  | [f, x], ih =>
    by_cases hk : k = 5
    · subst hk
      have := ih f (by simp)
      rw [spine_node]
      simp [nodesT, nodesTs]
      omega
    · unfold spineT
      split
      · rename_i h
        simp at h
        omega
      · simp
  | _ :: _ :: _ :: _, _ => simp [spineT]
theorem sm_app : ∀ (l : List Tm) (f : Tm), SmT f → SmTs l → SmT (appT f l)
  | [], _, h, _ => h
  | x :: l, f, h, hs => by
    rw [SmTs] at hs
    exact sm_app l _ (sm_two 5 h hs.1) hs.2
theorem sm_bind (k : Int) : ∀ (l : List Tm) (f : Tm), SmT f → SmTs l → SmT (bindT k f l)
  | [], _, h, _ => h
  | x :: l, f, h, hs => by
    rw [SmTs] at hs
    exact sm_two k hs.1 (sm_bind k l f h hs.2)
theorem nodes_app : ∀ (l : List Tm) (f : Tm), nodesT (appT f l) = nodesT f + l.length + nodesTs l
  | [], f => by simp [appT, nodesTs]
  | x :: l, f => by
    rw [appT, nodes_app l]
    simp [nodesT, nodesTs]
    omega
theorem nodes_bind (k : Int) : ∀ (l : List Tm) (f : Tm), nodesT (bindT k f l) = nodesT f + l.length + nodesTs l
  | [], f => by simp [bindT, nodesTs]
  | x :: l, f => by
    rw [bindT, nodesT, nodesTs, nodesTs, nodes_bind k l f]
    simp [nodesTs]
    omega
theorem nodes_sum : ∀ (l : List Tm), (∀ x ∈ l, nodesT x ≤ 400) → nodesTs l ≤ 400 * l.length
  | [], _ => by simp [nodesTs]
  | x :: l, h => by
    have h1 := h x List.mem_cons_self
    have h2 := nodes_sum l (fun y hy => h y (List.mem_cons_of_mem _ hy))
    simp [nodesTs]
    omega
theorem TmAt.fresh {m : Nat} {w : World} {t : Tm} {cs : List Value} (h : TmAt (List.range m) w t cs) : TmAt [] w t cs := TmAt.sub (fun k hk => by cases hk) _ _ h
theorem TmsAt.fresh {m : Nat} {w : World} {ts : List Tm} {v : Value} (h : TmsAt (List.range m) w ts v) : TmsAt [] w ts v := TmsAt.sub (fun k hk => by cases hk) _ _ h

theorem sm_spine (t : Tm) : SmT t → SmT (spineT t).1 := by
  refine Tm.byParts (C := fun t => SmT t → SmT (spineT t).1) (fun k n s ls a ih h => ?_) t
  match a, ih, h with
  | [], _, h => simpa [spineT] using h
  | [x], _, h => simpa [spineT] using h
  | [f, x], ih, h =>
    by_cases hk : k = 5
    · subst hk
      rw [spine_node]
      exact ih f (by simp) (h.args (by simp [Tm.args]))
    · unfold spineT
      split
      · rename_i h2
        simp at h2
        omega
      · exact h
  | _ :: _ :: _ :: _, _, h => simpa [spineT] using h
end Go.Proofs.Ytndbpmkglddjjaa
