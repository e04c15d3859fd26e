/- Package level: Leq, Inst. -/
import Derived.Test.YtlheikhjgdhmmaaLevB
namespace Go.Proofs.Ytlheikhjgdhmmaa
open Go Go.RowKit
set_option maxRecDepth 100000

section
variable {P : Program} {ops : Array Oper} {Q : Exit → Act → World → Prop} {S : World → Prop} {fuel : Nat} {listed : Array Bool} {a : Act} {w : World}
/-- A slice is built. -/
theorem lin_row (i : Nat) (t : TypeId) (cs : List Value) (q n : Nat) (d : Option Tmp) (hi : (ops[i]?.isSome && Region.wanted (opAt ops i) (yielded ops a.tmps)) = true) (hd : (opAt ops i).dst = d) (hq : Hid (w.heap.size = q))
    (hrun : (execOp a.eval (opAt ops i)).run P w = .ok (.value (.slice (some ⟨w.heap.size, 0, none⟩) n n)) (w.alloc (.cells cs.toArray t)))
    (h : ∀ w', Blk w' q t cs → Below q w w' → Hid (w'.heap.size = q + 1) → wpFrom P ops Q (i + 1) (a.put d (.slice (some ⟨q, 0, none⟩) n n)) w') : wpFrom P ops Q i a w := by
  obtain rfl := hq.out
  exact lin_value i _ d _ hi hd hrun (h _ (Blk.new w t cs) ((Below.refl _ _).alloc (Nat.le_refl _) _) (by unfold Hid; simp))
theorem reg_row (i : Nat) (t : TypeId) (cs : List Value) (q n : Nat) (d : Option Tmp) (hi : (ops[i]?.isSome && (Region.ready .any ops listed == [i]) && Region.wanted (opAt ops i) (yielded ops a.tmps)) = true) (hd : (opAt ops i).dst = d) (hq : Hid (w.heap.size = q))
    (hrun : (execOp a.eval (opAt ops i)).run P w = .ok (.value (.slice (some ⟨w.heap.size, 0, none⟩) n n)) (w.alloc (.cells cs.toArray t)))
    (h : ∀ w', Blk w' q t cs → Below q w w' → Hid (w'.heap.size = q + 1) → S w' ∧ wpAnyH P .any ops Q S fuel (listed.setIfInBounds i true) (a.put d (.slice (some ⟨q, 0, none⟩) n n)) w') : wpAnyH P .any ops Q S (fuel + 1) listed a w := by
  obtain rfl := hq.out
  obtain ⟨h1, h2⟩ := h _ (Blk.new w t cs) ((Below.refl _ _).alloc (Nat.le_refl _) _) (by unfold Hid; simp)
  exact reg_value i _ d _ hi hd hrun h1 h2
end
theorem run_build_lvs2l (a0 a1 a2 a3 a4 b0 b1 b2 b3 b4 : Int) (w : World) : (Instr.buildSlice 24 2 #[(0, .agg (ints .i64 [a0, a1, a2, a3, a4]).toArray), (1, .agg (ints .i64 [b0, b1, b2, b3, b4]).toArray)]).run Try.prog w = .ok (.slice (some ⟨w.heap.size, 0, none⟩) 2 2) (w.alloc (.cells (ints .i64 [a0, a1, a2, a3, a4, b0, b1, b2, b3, b4]).toArray 48)) := by kernel_rfl
theorem run_build_lvs1l (a0 a1 a2 a3 a4 : Int) (w : World) : (Instr.buildSlice 24 1 #[(0, .agg (ints .i64 [a0, a1, a2, a3, a4]).toArray)]).run Try.prog w = .ok (.slice (some ⟨w.heap.size, 0, none⟩) 1 1) (w.alloc (.cells (ints .i64 [a0, a1, a2, a3, a4]).toArray 48)) := by kernel_rfl
theorem run_build_lvs2 {a b : Lv} (ha : a.p.length = 4) (hb : b.p.length = 4) (w : World) : (Instr.buildSlice 24 2 #[(0, .agg (ints .i64 a.zs).toArray), (1, .agg (ints .i64 b.zs).toArray)]).run Try.prog w = .ok (.slice (some ⟨w.heap.size, 0, none⟩) 2 2) (w.alloc (.cells (ints .i64 (a.zs ++ b.zs)).toArray 48)) :=
  match a, ha, b, hb with
  | ⟨a0, [a1, a2, a3, a4]⟩, _, ⟨b0, [b1, b2, b3, b4]⟩, _ => run_build_lvs2l a0 a1 a2 a3 a4 b0 b1 b2 b3 b4 w
theorem run_build_lvs1 {a : Lv} (ha : a.p.length = 4) (w : World) : (Instr.buildSlice 24 1 #[(0, .agg (ints .i64 a.zs).toArray)]).run Try.prog w = .ok (.slice (some ⟨w.heap.size, 0, none⟩) 1 1) (w.alloc (.cells (ints .i64 a.zs).toArray 48)) :=
  match a, ha with
  | ⟨a0, [a1, a2, a3, a4]⟩, _ => run_build_lvs1l a0 a1 a2 a3 a4 w
theorem two_in {w : World} {g : Nat} {a b : Lv} (ha : a.p.length = 4) (hb : b.p.length = 4) (h : Blk w g 48 (ints .i64 (a.zs ++ b.zs))) : LvsIn w (.slice (some ⟨g, 0, none⟩) 2 2) [a, b] := by
  refine ⟨_, 2, rfl, Nat.le_refl _, by simp, fun l hl => ?_, fun _ => ⟨g, 0, rfl, h.lt, fun i l hi j u hu => ?_⟩⟩
  · simp at hl
    rcases hl with rfl | rfl
    · exact ha
    · exact hb
  · refine h.cell (j := 0 + 5 * i + j) ?_
    have la : a.zs.length = 5 := by simp [Lv.zs, ha]
    have hj := (List.getElem?_eq_some_iff.1 hu).1
    rw [ints_length] at hj
    simp only [ints, List.map_append] at hu ⊢
    match i, hi with
    | 0, hi =>
      obtain rfl : a = l := by simpa using hi
      rw [List.getElem?_append_left (by rw [List.length_map]; omega)]
      simpa using hu
    | 1, hi =>
      obtain rfl : b = l := by simpa using hi
      rw [List.getElem?_append_right (by rw [List.length_map]; omega), List.length_map, la]
      rw [show 0 + 5 * 1 + j - 5 = j by omega]
      exact hu
theorem one_in {w : World} {g : Nat} {a : Lv} (ha : a.p.length = 4) (h : Blk w g 48 (ints .i64 a.zs)) : LvsIn w (.slice (some ⟨g, 0, none⟩) 1 1) [a] := by
  refine ⟨_, 1, rfl, Nat.le_refl _, by simp, fun l hl => ?_, fun _ => ⟨g, 0, rfl, h.lt, fun i l hi j u hu => ?_⟩⟩
  · simp at hl
    subst hl
    exact ha
  · match i, hi with
    | 0, hi =>
      obtain rfl : a = l := by simpa using hi
      refine h.cell (j := 0 + 5 * 0 + j) ?_
      simpa using hu
theorem none_in (w : World) : LvsIn w (.slice none 0 0) [] := ⟨none, 0, rfl, Nat.le_refl _, by decide, fun l hl => by simp at hl, fun h => by simp at h⟩
theorem LvsIn.get {w : World} {a : Option Addr} {n c : Nat} {ls : List Lv} (h : LvsIn w (.slice a n c) ls) (hn : ls.length = n) {i : Nat} (hi : i < n) : ∃ l pb po, ls[i]? = some l ∧ l ∈ ls ∧ l.p.length = 4 ∧ a = some ⟨pb, po, none⟩ ∧ pb < w.heap.size ∧ w.rangeAt pb (po + 5 * i) (ints .i64 l.zs) := by
  obtain ⟨a2, c2, e, -, -, h4, hp⟩ := h
  obtain ⟨rfl, -, rfl⟩ := Value.slice.inj e
  obtain ⟨pb, po, ea, hb, hr⟩ := hp (by omega)
  have hg : ls[i]? = some (ls[i]'(by omega)) := List.getElem?_eq_getElem (by omega)
  exact ⟨_, pb, po, hg, List.getElem_mem _, h4 _ (List.getElem_mem _), ea, hb, hr i _ hg⟩
theorem run_slice4 (q W : Nat) (h : W ≤ 4) (w : World) : (Instr.sliceAt 46 (.pointer (some ⟨q, 1, none⟩)) none (some (.int .i64 (W : Int))) none).run Try.prog w = .ok (.slice (some ⟨q, 1, none⟩) W 4) w := by
  have hz : (sizeOf (Try.prog.elem 46)).run Try.prog w = .ok 1 w := by kernel_rfl
  have hA : Try.prog.arrayLen 46 = 4 := by kernel_rfl
  have ht : Try.prog.underlying 46 = some (.array (Try.prog.arrayLen 46) (Try.prog.elem 46)) := by kernel_rfl
  rw [run_sliceAt_array_h w 46 _ ht .i64 (W : Int) (by omega) (by rw [hA]; omega), hz, Result.andThen_ok, hA]
  rfl
theorem plus_cell {w : World} {b : Nat} {t : TypeId} {l : Lv} (h : Blk w b t (ints .i64 l.zs)) (hl : l.p.length = 4) {k : Nat} (hk : k < 4) : w.cell? ⟨b, 1 + k, none⟩ = some (.int .i64 (l.p.getD k 0)) := by
  refine h.plus k _ ?_
  rw [ints_getD (by omega)]
theorem instUp_right {l : Lv} {bs : List Lv} (hr : rightL l = true) (hb : ∀ x ∈ bs, x.p.length = 4) (hbr : bs.all rightL = true) : ∀ k r, k ≤ bs.length → instUp l bs k = some r → r.p.length = 4 ∧ rightL r = true
  | 0, r, _, h => by
    obtain rfl := Option.some.inj h
    have k := right_b hr
    exact ⟨rfl, right_num k.1 k.2⟩
  | k + 1, r, hk, h => by
    rw [instUp] at h
    split at h
    · cases h
    · next r0 h0 =>
      obtain ⟨i1, i2⟩ := instUp_right hr hb hbr k r0 (by omega) h0
      split at h
      · obtain rfl := Option.some.inj h
        exact ⟨i1, i2⟩
      · split at h
        · next hu =>
          obtain rfl := Option.some.inj h
          have hg : bs.getD k zeroL = bs[k]'(by omega) := by simp [List.getD_eq_getElem?_getD, show k < bs.length by omega]
          have hm : bs.getD k zeroL ∈ bs := by rw [hg]; exact List.getElem_mem _
          generalize bs.getD k zeroL = x at hm hu ⊢
          simp only [upOk, Bool.and_eq_true, decide_eq_true_eq] at hu
          obtain ⟨⟨u1, u2, u3⟩, u4⟩ := hu
          have ur : rightL (upRaw x (l.p.getD k 0)) = true := by rw [up_right (hb x hm) u1 u2 u3]; exact decide_eq_true u4
          exact ⟨max2_len i1 (upRaw_len (hb x hm)), max2_right i1 (upRaw_len (hb x hm)) i2 ur⟩
        · cases h
def instV (l : Lv) (bs : List Lv) : Value := .tuple #[.agg (ints .i64 (match instL l bs with | some r => r.zs | none => z5)).toArray, .bool (instL l bs).isSome]
theorem instV_no {l : Lv} {bs : List Lv} (h : instL l bs = none) : instV l bs = .tuple #[.agg (ints .i64 z5).toArray, .bool false] := by rw [instV, h]; rfl
theorem instV_yes {l : Lv} {bs : List Lv} {r : Lv} (h : instL l bs = some r) : instV l bs = .tuple #[.agg (ints .i64 r.zs).toArray, .bool true] := by rw [instV, h]; rfl
theorem instL_no {l : Lv} {bs : List Lv} (h : ((rightL l && decide (widthL l ≤ bs.length)) && bs.all rightL) = false) : instL l bs = none := by rw [instL, if_neg (by rw [h]; decide)]
theorem instL_up {l : Lv} {bs : List Lv} (h : ((rightL l && decide (widthL l ≤ bs.length)) && bs.all rightL) = true) : instL l bs = instUp l bs (widthL l) := by rw [instL, if_pos h]
theorem instUp_none {l : Lv} {bs : List Lv} {k : Nat} (h : instUp l bs k = none) : ∀ n, k ≤ n → instUp l bs n = none
  | 0, hn => by obtain rfl : k = 0 := by omega
                exact h
  | n + 1, hn => by
    by_cases e : k = n + 1
    · subst e; exact h
    · rw [instUp, instUp_none h n (by omega)]
end Go.Proofs.Ytlheikhjgdhmmaa
