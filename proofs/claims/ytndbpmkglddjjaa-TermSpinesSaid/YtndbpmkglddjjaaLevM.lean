/- Levels as plain pairs of a base and four numbers: what layer 7's functions compute, and what the statements say of it. -/
import Derived.Test.YtndbpmkglddjjaaGenF
namespace Go.Proofs.Ytndbpmkglddjjaa
open Go Go.RowKit
set_option maxRecDepth 100000

/-- A level: its base, what is added to each parameter (-1: it does not occur). -/
structure Lv where
  b : Int
  p : List Int
deriving DecidableEq
def Lv.zs (l : Lv) : List Int := l.b :: l.p
/-- Four numbers, all of the kind int. -/
def Lv.Ok (l : Lv) : Prop := l.p.length = 4 ∧ ∀ x ∈ l.zs, -9223372036854775808 ≤ x ∧ x ≤ 9223372036854775807
def rightL (l : Lv) : Bool := (decide (0 ≤ l.b) && decide (l.b ≤ 100)) && l.p.all fun x => decide (-1 ≤ x) && decide (x ≤ l.b)
theorem right_b {l : Lv} (h : rightL l = true) : 0 ≤ l.b ∧ l.b ≤ 100 := by
  simp only [rightL, Bool.and_eq_true, decide_eq_true_eq] at h
  exact h.1
theorem right_p {l : Lv} (h : rightL l = true) {x : Int} (hx : x ∈ l.p) : -1 ≤ x ∧ x ≤ l.b := by
  simp only [rightL, Bool.and_eq_true, List.all_eq_true, decide_eq_true_eq] at h
  exact h.2 x hx
theorem right_at {l : Lv} (h : rightL l = true) {i : Nat} (hi : i < l.p.length) : -1 ≤ l.p.getD i 0 ∧ l.p.getD i 0 ≤ l.b := by
  rw [List.getD_eq_getElem?_getD, List.getElem?_eq_getElem hi]
  exact right_p h (List.getElem_mem hi)
theorem right_mk {l : Lv} (h0 : 0 ≤ l.b) (h1 : l.b ≤ 100) (h : ∀ x ∈ l.p, -1 ≤ x ∧ x ≤ l.b) : rightL l = true := by
  simp only [rightL, Bool.and_eq_true, List.all_eq_true, decide_eq_true_eq]
  exact ⟨⟨h0, h1⟩, h⟩
def numL (n : Int) : Lv := ⟨n, [-1, -1, -1, -1]⟩
theorem right_num {n : Int} (h0 : 0 ≤ n) (h1 : n ≤ 100) : rightL (numL n) = true := by
  refine right_mk h0 h1 fun x hx => ?_
  simp [numL] at hx ⊢
  omega
theorem wrong_num : rightL (numL (-1)) = false := by decide
/-- A parameter's value, as it counts. -/
def clampL (v : Int) : Int := min (max v 0) 1048576
def valUp (l : Lv) (vals : List Int) : Nat → Int
  | 0 => l.b
  | k + 1 => if l.p.getD k 0 = -1 then valUp l vals k else max (valUp l vals k) (clampL (vals.getD k 0) + l.p.getD k 0)
def valueL (l : Lv) (vals : List Int) : Int := if rightL l then valUp l vals 4 else 0
theorem valUp_ge (l : Lv) (vals : List Int) : ∀ k, l.b ≤ valUp l vals k
  | 0 => Int.le_refl _
  | k + 1 => by
    have h := valUp_ge l vals k
    rw [valUp]
    split
    · exact h
    · omega
theorem valUp_part (l : Lv) (vals : List Int) : ∀ k i, i < k → l.p.getD i 0 ≠ -1 → clampL (vals.getD i 0) + l.p.getD i 0 ≤ valUp l vals k
  | 0, i, h, _ => absurd h (by omega)
  | k + 1, i, h, hp => by
    rw [valUp]
    by_cases e : i = k
    · subst e
      rw [if_neg hp]
      omega
    · have := valUp_part l vals k i (by omega) hp
      split
      · exact this
      · omega
theorem valUp_le (l : Lv) (vals : List Int) (m : Int) (hb : l.b ≤ m) : ∀ k, (∀ i, i < k → l.p.getD i 0 ≠ -1 → clampL (vals.getD i 0) + l.p.getD i 0 ≤ m) → valUp l vals k ≤ m
  | 0, _ => hb
  | k + 1, h => by
    have h1 := valUp_le l vals m hb k (fun i hi => h i (by omega))
    rw [valUp]
    split
    · exact h1
    · have := h k (by omega) (by assumption)
      omega
theorem clamp_0 (v : Int) : 0 ≤ clampL v := by unfold clampL; omega
theorem clamp_1 (v : Int) : clampL v ≤ 1048576 := by unfold clampL; omega
theorem clamp_in {v : Int} (h0 : 0 ≤ v) (h1 : v ≤ 1048576) : clampL v = v := by unfold clampL; omega
/-- The greatest of two. -/
def max2 (a b : Lv) : Lv := ⟨max a.b b.b, List.zipWith max a.p b.p⟩
def maxRow : List Lv → Lv → Lv
  | [], g => g
  | l :: ls, g => maxRow ls (max2 g l)
def maxL (ls : List Lv) : Lv := if ls.all rightL then maxRow ls (numL 0) else numL (-1)
theorem zip_at {us bs : List Int} (h : us.length = bs.length) (i : Nat) (hi : i < us.length) : (List.zipWith max us bs).getD i 0 = max (us.getD i 0) (bs.getD i 0) := by
  have hb : i < bs.length := by omega
  have hz : i < (List.zipWith max us bs).length := by rw [List.length_zipWith]; omega
  rw [List.getD_eq_getElem?_getD, List.getD_eq_getElem?_getD, List.getD_eq_getElem?_getD, List.getElem?_eq_getElem hz, List.getElem?_eq_getElem hi, List.getElem?_eq_getElem hb]
  simp
theorem eq_at {us bs : List Int} (h : us.length = bs.length) (hx : ∀ i, i < us.length → us.getD i 0 = bs.getD i 0) : us = bs := by
  refine List.ext_getElem h fun i h1 h2 => ?_
  have := hx i h1
  simpa [List.getD_eq_getElem?_getD, h1, h2] using this
theorem mem_at {us : List Int} {x : Int} (h : x ∈ us) : ∃ i, i < us.length ∧ us.getD i 0 = x := by
  obtain ⟨i, hi, e⟩ := List.getElem_of_mem h
  exact ⟨i, hi, by simp [List.getD_eq_getElem?_getD, hi, e]⟩
theorem Lv.ext2 {a b : Lv} (ha : a.p.length = 4) (hb : b.p.length = 4) (h1 : a.b = b.b) (h2 : ∀ i, i < 4 → a.p.getD i 0 = b.p.getD i 0) : a = b := by
  obtain ⟨ab, ap⟩ := a
  obtain ⟨bb, bp⟩ := b
  simp only at ha hb h1 h2
  subst h1
  rw [eq_at (ha.trans hb.symm) (fun i hi => h2 i (by omega))]
theorem max2_len {a b : Lv} (ha : a.p.length = 4) (hb : b.p.length = 4) : (max2 a b).p.length = 4 := by simp [max2, ha, hb]
theorem max2_at {a b : Lv} (ha : a.p.length = 4) (hb : b.p.length = 4) {i : Nat} (hi : i < 4) : (max2 a b).p.getD i 0 = max (a.p.getD i 0) (b.p.getD i 0) := zip_at (ha.trans hb.symm) i (by omega)
theorem right_all {l : Lv} (hl : l.p.length = 4) (h0 : 0 ≤ l.b) (h1 : l.b ≤ 100) (h : ∀ i, i < 4 → -1 ≤ l.p.getD i 0 ∧ l.p.getD i 0 ≤ l.b) : rightL l = true := by
  refine right_mk h0 h1 fun x hx => ?_
  obtain ⟨i, hi, rfl⟩ := mem_at hx
  exact h i (by omega)
theorem max2_right {a b : Lv} (ha : a.p.length = 4) (hb : b.p.length = 4) (h1 : rightL a = true) (h2 : rightL b = true) : rightL (max2 a b) = true := by
  have k1 := right_b h1
  have k2 := right_b h2
  refine right_all (max2_len ha hb) (by simp only [max2]; omega) (by simp only [max2]; omega) fun i hi => ?_
  have := right_at h1 (i := i) (by omega)
  have := right_at h2 (i := i) (by omega)
  rw [max2_at ha hb hi]
  simp only [max2]
  omega
/-- At most: both are right, and no number of the one is above the other's. -/
def leqL (a b : Lv) : Bool := rightL b && decide (maxL [a, b] = b)
theorem num_at (n : Int) {i : Nat} (hi : i < 4) : (numL n).p.getD i 0 = -1 := by
  match i, hi with
  | 0, _ => rfl
  | 1, _ => rfl
  | 2, _ => rfl
  | 3, _ => rfl
theorem max2_num {a : Lv} (ha : a.p.length = 4) (h : rightL a = true) : max2 (numL 0) a = a := by
  have k := right_b h
  refine Lv.ext2 (max2_len rfl ha) ha (by simp only [max2, numL]; omega) fun i hi => ?_
  have := right_at h (i := i) (by omega)
  rw [max2_at rfl ha hi, num_at 0 hi]
  omega
theorem maxL_two {a b : Lv} (ha : a.p.length = 4) (h1 : rightL a = true) (h2 : rightL b = true) : maxL [a, b] = max2 a b := by
  simp [maxL, h1, h2, maxRow, max2_num ha h1]
theorem maxL_wrong {ls : List Lv} (h : ls.all rightL = false) : maxL ls = numL (-1) := by
  rw [maxL, if_neg (by rw [h]; decide)]
theorem leqL_iff {a b : Lv} (ha : a.p.length = 4) (hb : b.p.length = 4) : leqL a b = true ↔ rightL a = true ∧ rightL b = true ∧ a.b ≤ b.b ∧ ∀ i, i < 4 → a.p.getD i 0 ≤ b.p.getD i 0 := by
  constructor
  · intro h
    simp only [leqL, Bool.and_eq_true, decide_eq_true_eq] at h
    obtain ⟨h2, h⟩ := h
    by_cases h1 : rightL a = true
    · rw [maxL_two ha h1 h2] at h
      refine ⟨h1, h2, ?_, fun i hi => ?_⟩
      · have := congrArg Lv.b h
        simp only [max2] at this
        omega
      · have := congrArg (fun l => l.p.getD i 0) h
        simp only [max2_at ha hb hi] at this
        omega
    · have h3 : maxL [a, b] = numL (-1) := maxL_wrong (by simp [h1])
      rw [h3] at h
      rw [← h, wrong_num] at h2
      cases h2
  · rintro ⟨h1, h2, h3, h4⟩
    simp only [leqL, Bool.and_eq_true, decide_eq_true_eq]
    refine ⟨h2, ?_⟩
    rw [maxL_two ha h1 h2]
    refine Lv.ext2 (max2_len ha hb) hb (by simp only [max2]; omega) fun i hi => ?_
    rw [max2_at ha hb hi]
    have := h4 i hi
    omega
/-- The first statement, once every call is known. -/
theorem order_value {a b : Lv} (ha : a.p.length = 4) (hb : b.p.length = 4) (h : leqL a b = true) (vals : List Int) : valueL a vals ≤ valueL b vals := by
  obtain ⟨h1, h2, h3, h4⟩ := (leqL_iff ha hb).1 h
  rw [valueL, if_pos h1, valueL, if_pos h2]
  refine valUp_le a vals _ (Int.le_trans h3 (valUp_ge b vals 4)) 4 fun i hi hp => ?_
  have k1 := right_at h1 (i := i) (by omega)
  have k2 := h4 i hi
  have k3 := valUp_part b vals 4 i hi (by omega)
  omega
theorem leqL_refl {a : Lv} (ha : a.p.length = 4) : leqL a a = rightL a := by
  rw [Bool.eq_iff_iff, leqL_iff ha ha]
  exact ⟨fun h => h.1, fun h => ⟨h, h, Int.le_refl _, fun _ _ => Int.le_refl _⟩⟩
theorem leqL_anti {a b : Lv} (ha : a.p.length = 4) (hb : b.p.length = 4) (h : leqL a b = true) : leqL b a = decide (a = b) := by
  rw [Bool.eq_iff_iff, leqL_iff hb ha, decide_eq_true_eq]
  obtain ⟨h1, h2, h3, h4⟩ := (leqL_iff ha hb).1 h
  constructor
  · rintro ⟨-, -, h5, h6⟩
    exact Lv.ext2 ha hb (by omega) fun i hi => Int.le_antisymm (h4 i hi) (h6 i hi)
  · rintro rfl
    exact ⟨h1, h1, Int.le_refl _, fun _ _ => Int.le_refl _⟩
theorem leqL_trans {a b c : Lv} (ha : a.p.length = 4) (hb : b.p.length = 4) (hc : c.p.length = 4) (h : leqL a b = true) (h' : leqL b c = true) : leqL a c = true := by
  obtain ⟨h1, h2, h3, h4⟩ := (leqL_iff ha hb).1 h
  obtain ⟨k1, k2, k3, k4⟩ := (leqL_iff hb hc).1 h'
  exact (leqL_iff ha hc).2 ⟨h1, k2, by omega, fun i hi => Int.le_trans (h4 i hi) (k4 i hi)⟩
theorem max2_comm {a b : Lv} (ha : a.p.length = 4) (hb : b.p.length = 4) : max2 a b = max2 b a := by
  refine Lv.ext2 (max2_len ha hb) (max2_len hb ha) (by simp only [max2]; omega) fun i hi => ?_
  rw [max2_at ha hb hi, max2_at hb ha hi]
  omega
theorem max2_left {a b : Lv} (ha : a.p.length = 4) (hb : b.p.length = 4) (h1 : rightL a = true) (h2 : rightL b = true) : leqL a (max2 a b) = true := by
  refine (leqL_iff ha (max2_len ha hb)).2 ⟨h1, max2_right ha hb h1 h2, by simp only [max2]; omega, fun i hi => ?_⟩
  rw [max2_at ha hb hi]
  omega
theorem max2_least {a b c : Lv} (ha : a.p.length = 4) (hb : b.p.length = 4) (hc : c.p.length = 4) (h : leqL a c = true) (h' : leqL b c = true) : leqL (max2 a b) c = true := by
  obtain ⟨h1, h2, h3, h4⟩ := (leqL_iff ha hc).1 h
  obtain ⟨k1, k2, k3, k4⟩ := (leqL_iff hb hc).1 h'
  refine (leqL_iff (max2_len ha hb) hc).2 ⟨max2_right ha hb h1 k1, h2, by simp only [max2]; omega, fun i hi => ?_⟩
  have := h4 i hi
  have := k4 i hi
  rw [max2_at ha hb hi]
  omega
theorem max2_value {a b : Lv} (ha : a.p.length = 4) (hb : b.p.length = 4) (h1 : rightL a = true) (h2 : rightL b = true) (vals : List Int) : valueL (max2 a b) vals = max (valueL a vals) (valueL b vals) := by
  have l1 := order_value ha (max2_len ha hb) (max2_left ha hb h1 h2) vals
  have l2 := order_value hb (max2_len hb ha) (max2_left hb ha h2 h1) vals
  rw [max2_comm hb ha] at l2
  have l3 : valueL (max2 a b) vals ≤ max (valueL a vals) (valueL b vals) := by
    rw [valueL, if_pos (max2_right ha hb h1 h2), valueL, if_pos h1, valueL, if_pos h2]
    have g1 := valUp_ge a vals 4
    have g2 := valUp_ge b vals 4
    refine valUp_le _ vals _ (by simp only [max2]; omega) 4 fun i hi hp => ?_
    have k1 := right_at h1 (i := i) (by omega)
    have k2 := right_at h2 (i := i) (by omega)
    have q1 := valUp_part a vals 4 i hi
    have q2 := valUp_part b vals 4 i hi
    rw [max2_at ha hb hi] at hp ⊢
    by_cases e : b.p.getD i 0 ≤ a.p.getD i 0
    · have := q1 (by omega)
      omega
    · have := q2 (by omega)
      omega
  omega
/-- So much more. -/
def upP (n : Int) (x : Int) : Int := if x = -1 then -1 else x + n
def upRaw (l : Lv) (n : Int) : Lv := ⟨l.b + n, l.p.map (upP n)⟩
def upOk (l : Lv) (n : Int) : Bool := (rightL l && (decide (0 ≤ n) && decide (n ≤ 100))) && decide (l.b + n ≤ 100)
def zeroL : Lv := ⟨0, [0, 0, 0, 0]⟩
theorem upRaw_at {l : Lv} {n : Int} (hl : l.p.length = 4) {i : Nat} (hi : i < 4) : (upRaw l n).p.getD i 0 = upP n (l.p.getD i 0) := by
  have h : i < l.p.length := by omega
  simp [upRaw, List.getD_eq_getElem?_getD, h]
theorem upRaw_len {l : Lv} {n : Int} (hl : l.p.length = 4) : (upRaw l n).p.length = 4 := by simp [upRaw, hl]
theorem up_right {l : Lv} {n : Int} (hl : l.p.length = 4) (h : rightL l = true) (h0 : 0 ≤ n) (h1 : n ≤ 100) : rightL (upRaw l n) = decide (l.b + n ≤ 100) := by
  have k := right_b h
  by_cases e : l.b + n ≤ 100
  · rw [decide_eq_true e]
    refine right_all (upRaw_len hl) (by simp only [upRaw]; omega) (by simp only [upRaw]; omega) fun i hi => ?_
    have := right_at h (i := i) (by omega)
    rw [upRaw_at hl hi]
    simp only [upRaw, upP]
    split <;> omega
  · rw [decide_eq_false e, Bool.eq_false_iff]
    intro hc
    have := (right_b hc).2
    simp only [upRaw] at this
    omega
theorem up_value {l : Lv} {n : Int} (hl : l.p.length = 4) (h : rightL l = true) (h0 : 0 ≤ n) (h1 : l.b + n ≤ 100) (vals : List Int) : valueL (upRaw l n) vals = valueL l vals + n := by
  have k := right_b h
  have hr : rightL (upRaw l n) = true := by rw [up_right hl h h0 (by omega)]; exact decide_eq_true h1
  rw [valueL, if_pos hr, valueL, if_pos h]
  have key : ∀ k, k ≤ 4 → valUp (upRaw l n) vals k = valUp l vals k + n := by
    intro k
    induction k with
    | zero => exact fun _ => rfl
    | succ k ih =>
      intro hk
      have := right_at h (i := k) (by omega)
      rw [valUp, valUp, upRaw_at hl (by omega), ih (by omega), upP]
      by_cases e : l.p.getD k 0 = -1
      · rw [if_pos e, if_pos rfl, if_pos e]
      · rw [if_neg e, if_neg (by omega), if_neg e]
        omega
  exact key 4 (Nat.le_refl _)
/-- One more than the greatest place. -/
def widthUp (l : Lv) : Nat → Nat
  | 0 => 0
  | k + 1 => if l.p.getD k 0 = -1 then widthUp l k else k + 1
def widthL (l : Lv) : Nat := widthUp l 4
theorem widthUp_le (l : Lv) : ∀ k, widthUp l k ≤ k
  | 0 => Nat.le_refl _
  | k + 1 => by
    have := widthUp_le l k
    rw [widthUp]
    split <;> omega
theorem widthUp_no (l : Lv) : ∀ k i, widthUp l k ≤ i → i < k → l.p.getD i 0 = -1
  | 0, i, _, h => absurd h (by omega)
  | k + 1, i, h1, h2 => by
    rw [widthUp] at h1
    split at h1
    · by_cases e : i = k
      · subst e; assumption
      · exact widthUp_no l k i h1 (by omega)
    · omega
/-- A level with others in place of its parameters, up to parameter k: none where one part is none. -/
def instUp (l : Lv) (by_ : List Lv) : Nat → Option Lv
  | 0 => some (numL l.b)
  | k + 1 => match instUp l by_ k with
    | none => none
    | some r => if l.p.getD k 0 = -1 then some r else if upOk (by_.getD k zeroL) (l.p.getD k 0) then some (max2 r (upRaw (by_.getD k zeroL) (l.p.getD k 0))) else none
def instL (l : Lv) (by_ : List Lv) : Option Lv :=
  if (rightL l && decide (widthL l ≤ by_.length)) && by_.all rightL then instUp l by_ (widthL l) else none
/-- What has been put together so far: right, and its value the one by theirs. -/
theorem inst_value {l : Lv} {bs : List Lv} {vals inner : List Int} (hl : l.p.length = 4) (hr : rightL l = true) (hb : ∀ x ∈ bs, x.p.length = 4) (hbr : ∀ x ∈ bs, rightL x = true) (hin : inner = bs.map (valueL · vals)) (h20 : ∀ x ∈ inner, x ≤ 1048576) :
    ∀ k r, k ≤ 4 → k ≤ bs.length → instUp l bs k = some r → r.p.length = 4 ∧ rightL r = true ∧ valueL r vals = valUp l inner k
  | 0, r, _, _, h => by
    obtain rfl := Option.some.inj h
    have k := right_b hr
    refine ⟨rfl, right_num k.1 k.2, ?_⟩
    rw [valueL, if_pos (right_num k.1 k.2)]
    rfl
  | k + 1, r, h4, hk, h => by
    rw [instUp] at h
    split at h
    · cases h
    · next r0 h0 =>
      obtain ⟨i1, i2, i3⟩ := inst_value hl hr hb hbr hin h20 k r0 (by omega) (by omega) h0
      rw [valUp]
      split at h
      · next hp =>
        obtain rfl := Option.some.inj h
        rw [if_pos hp]
        exact ⟨i1, i2, i3⟩
      · next hp =>
        split at h
        · next hu =>
          obtain rfl := Option.some.inj h
          rw [if_neg hp]
          have hg : bs.getD k zeroL = bs[k]'(by omega) := by simp [List.getD_eq_getElem?_getD, show k < bs.length by omega]
          have hm : bs.getD k zeroL ∈ bs := by rw [hg]; exact List.getElem_mem _
          generalize hx : bs.getD k zeroL = x at hm hu ⊢
          have hv : inner.getD k 0 = valueL x vals := by
            subst hin
            rw [← hx, hg, List.getD_eq_getElem?_getD, List.getElem?_map, List.getElem?_eq_getElem (by omega)]
            rfl
          simp only [upOk, Bool.and_eq_true, decide_eq_true_eq] at hu
          obtain ⟨⟨u1, u2, u3⟩, u4⟩ := hu
          have xr := right_b u1
          have ur : rightL (upRaw x (l.p.getD k 0)) = true := by rw [up_right (hb x hm) u1 u2 u3]; exact decide_eq_true u4
          refine ⟨max2_len i1 (upRaw_len (hb x hm)), max2_right i1 (upRaw_len (hb x hm)) i2 ur, ?_⟩
          rw [max2_value i1 (upRaw_len (hb x hm)) i2 ur, i3, up_value (hb x hm) u1 u2 u4, hv]
          have g0 : 0 ≤ valueL x vals := by
            rw [valueL, if_pos u1]
            have := valUp_ge x vals 4
            omega
          have g1 : valueL x vals ≤ 1048576 := by
            refine h20 _ ?_
            subst hin
            exact List.mem_map.2 ⟨x, hm, rfl⟩
          rw [clamp_in g0 g1]
        · cases h
theorem valUp_width (l : Lv) (vals : List Int) : ∀ k n, k ≤ n → (∀ i, k ≤ i → i < n → l.p.getD i 0 = -1) → valUp l vals n = valUp l vals k
  | k, n, h, hp => by
    obtain ⟨d, rfl⟩ := Nat.exists_eq_add_of_le h
    induction d with
    | zero => rfl
    | succ d ih =>
      show valUp l vals ((k + d) + 1) = _
      rw [valUp, if_pos (hp (k + d) (by omega) (by omega))]
      exact ih (by omega) (fun i h1 h2 => hp i h1 (by omega))
theorem inst_said {l : Lv} {bs : List Lv} {vals : List Int} {r : Lv} (hl : l.p.length = 4) (hb : ∀ x ∈ bs, x.p.length = 4) (h : instL l bs = some r) (h20 : ∀ x ∈ bs.map (valueL · vals), x ≤ 1048576) :
    rightL r = true ∧ valueL r vals = valueL l (bs.map (valueL · vals)) := by
  rw [instL] at h
  split at h
  · next hc =>
    simp only [Bool.and_eq_true, List.all_eq_true, decide_eq_true_eq] at hc
    obtain ⟨⟨h1, h2⟩, h3⟩ := hc
    have hw := widthUp_le l 4
    obtain ⟨k1, k2, k3⟩ := inst_value hl h1 hb h3 rfl h20 (widthL l) r hw h2 h
    refine ⟨k2, ?_⟩
    rw [k3, valueL, if_pos h1]
    exact (valUp_width l _ (widthL l) 4 hw (fun i a b => widthUp_no l 4 i a b)).symm
  · cases h
end Go.Proofs.Ytndbpmkglddjjaa
