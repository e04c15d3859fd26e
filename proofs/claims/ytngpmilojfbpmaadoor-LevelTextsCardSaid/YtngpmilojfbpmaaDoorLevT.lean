/- A level's text: its parts, joined; right levels of one text are one. -/
import Derived.Test.YtngpmilojfbpmaaDoorLevM
import Derived.Lib.Join
import Derived.Lib.ItoaNum
import Derived.Lib.ItoaMem
namespace Go.Proofs.YtngpmilojfbpmaaDoor
open Go Go.RowKit
set_option maxRecDepth 100000

/-- What the digits of a number tell: the number. -/
def undec (l : List UInt8) : Nat := l.foldl (fun n c => n * 10 + (c.toNat - 48)) 0
theorem dig_back : ∀ k : Fin 10, (UInt8.ofNat (48 + k.val)).toNat - 48 = k.val := by decide
theorem dig_in : ∀ k : Fin 10, 48 ≤ (UInt8.ofNat (48 + k.val)).toNat ∧ (UInt8.ofNat (48 + k.val)).toNat ≤ 57 := by decide
theorem undec_dec (u : Nat) : undec (Lib.decDigits u) = u := by
  induction u using Nat.strongRecOn with
  | ind u ih =>
    rw [Lib.decDigits]
    split
    · next h =>
      have := dig_back ⟨u, h⟩
      simpa [undec] using this
    · next h =>
      have h1 := ih (u / 10) (by omega)
      have h2 := dig_back ⟨u % 10, by omega⟩
      unfold undec at h1 ⊢
      rw [List.foldl_append, h1]
      simp only [List.foldl_cons, List.foldl_nil]
      simp only at h2
      rw [h2]
      omega
theorem dec_digits (u : Nat) : ∀ c ∈ Lib.decDigits u, 48 ≤ c.toNat ∧ c.toNat ≤ 57 := by
  induction u using Nat.strongRecOn with
  | ind u ih =>
    intro c hc
    rw [Lib.decDigits] at hc
    split at hc
    · next h =>
      obtain rfl : c = UInt8.ofNat (48 + u) := by simpa using hc
      exact dig_in ⟨u, h⟩
    · next h =>
      rcases List.mem_append.1 hc with h1 | h1
      · exact ih (u / 10) (by omega) c h1
      · obtain rfl : c = UInt8.ofNat (48 + u % 10) := by simpa using h1
        exact dig_in ⟨u % 10, by omega⟩
theorem dec_ne (u : Nat) : Lib.decDigits u ≠ [] := by
  intro h
  have := Lib.decDigits_length u
  rw [h] at this
  have h2 : 0 < Lib.nDigits u := by
    rw [Lib.nDigits]
    split <;> omega
  simp at this
  omega
theorem itoa_dec {n : Int} (h : 0 ≤ n) : Lib.itoa n = Lib.decDigits n.toNat := by
  unfold Lib.itoa
  rw [if_neg (by omega)]
theorem itoa_inj {m n : Int} (hm : 0 ≤ m) (hn : 0 ≤ n) (h : Lib.itoa m = Lib.itoa n) : m = n := by
  rw [itoa_dec hm, itoa_dec hn] at h
  have := congrArg undec h
  rw [undec_dec, undec_dec] at this
  omega
theorem itoa_digits {n : Int} (h : 0 ≤ n) : ∀ c ∈ Lib.itoa n, 48 ≤ c.toNat ∧ c.toNat ≤ 57 := by
  rw [itoa_dec h]
  exact dec_digits _
theorem itoa_ne {n : Int} (h : 0 ≤ n) : Lib.itoa n ≠ [] := by
  rw [itoa_dec h]
  exact dec_ne _
/-- A parameter's text. -/
def partT (i : Nat) (p : Int) : List UInt8 := if p = 0 then 117 :: Lib.itoa i else (117 :: Lib.itoa i) ++ (43 :: Lib.itoa p)
theorem split_at {x y x' y' : List UInt8} {c : UInt8} (hx : ∀ a ∈ x, a ≠ c) (hx' : ∀ a ∈ x', a ≠ c) (h : x ++ c :: y = x' ++ c :: y') : x = x' ∧ y = y' := by
  induction x generalizing x' with
  | nil =>
    cases x' with
    | nil => exact ⟨rfl, by simpa using h⟩
    | cons b r =>
      have := (List.cons.inj h).1
      exact absurd this.symm (hx' b (by simp))
  | cons a r ih =>
    cases x' with
    | nil =>
      have := (List.cons.inj h).1
      exact absurd this (hx a (by simp))
    | cons b s =>
      obtain ⟨rfl, h2⟩ := List.cons.inj h
      obtain ⟨rfl, h3⟩ := ih (fun z hz => hx z (by simp [hz])) (fun z hz => hx' z (by simp [hz])) h2
      exact ⟨rfl, h3⟩
theorem dig_ne {x : List UInt8} {c : UInt8} (hx : ∀ a ∈ x, 48 ≤ a.toNat ∧ a.toNat ≤ 57) (hc : c.toNat < 48) : ∀ a ∈ x, a ≠ c := fun a ha e => by
  have := (hx a ha).1
  rw [e] at this
  omega
theorem partT_inj {i j : Nat} {p q : Int} (hp : 0 ≤ p) (hq : 0 ≤ q) (h : partT i p = partT j q) : i = j ∧ p = q := by
  have di := itoa_digits (n := (i : Int)) (by omega)
  have dj := itoa_digits (n := (j : Int)) (by omega)
  have ni := dig_ne di (c := 43) (by decide)
  have nj := dig_ne dj (c := 43) (by decide)
  unfold partT at h
  split at h <;> split at h
  · have := itoa_inj (by omega) (by omega) (List.cons.inj h).2
    omega
  · have h2 := (List.cons.inj h).2
    exact absurd rfl (ni 43 (by rw [h2]; simp))
  · have h2 := (List.cons.inj h).2
    exact absurd rfl (nj 43 (by rw [← h2]; simp))
  · have h2 := (List.cons.inj h).2
    obtain ⟨h3, h4⟩ := split_at ni nj h2
    have := itoa_inj (by omega) (by omega) h3
    have := itoa_inj hp hq h4
    omega
theorem partT_32 {i : Nat} {p : Int} (hp : 0 ≤ p) : ∀ a ∈ partT i p, a ≠ 32 := by
  have di := dig_ne (itoa_digits (n := (i : Int)) (by omega)) (c := 32) (by decide)
  have dp := dig_ne (itoa_digits hp) (c := 32) (by decide)
  intro a ha
  have key : a = 117 ∨ a = 43 ∨ a ∈ Lib.itoa (i : Int) ∨ a ∈ Lib.itoa p := by
    unfold partT at ha
    split at ha
    · rcases List.mem_cons.1 ha with h | h
      · exact .inl h
      · exact .inr (.inr (.inl h))
    · rcases List.mem_append.1 ha with h | h
      · rcases List.mem_cons.1 h with h | h
        · exact .inl h
        · exact .inr (.inr (.inl h))
      · rcases List.mem_cons.1 h with h | h
        · exact .inr (.inl h)
        · exact .inr (.inr (.inr h))
  rcases key with rfl | rfl | h | h
  · decide
  · decide
  · exact di a h
  · exact dp a h
theorem partT_ne (i : Nat) (p : Int) : partT i p ≠ [] := by
  unfold partT
  split <;> simp
/-- The greatest of what is added. -/
def topL (l : Lv) : Int := l.p.foldl max (l.p.getD 0 0)
/-- The parts of a level's text: the base's, then those of the first k parameters. -/
def partsUp (l : Lv) (top : Int) : Nat → List (List UInt8)
  | 0 => if top < l.b then [Lib.itoa l.b] else []
  | k + 1 => if l.p.getD k 0 = -1 then partsUp l top k else partsUp l top k ++ [partT k (l.p.getD k 0)]
def partsL (l : Lv) : List (List UInt8) := partsUp l (topL l) 4
def textL (l : Lv) : List UInt8 := if rightL l then Lib.join (partsL l) [32, 124, 32] else []
theorem fold_ge : ∀ (xs : List Int) (m : Int), m ≤ xs.foldl max m
  | [], _ => Int.le_refl _
  | x :: xs, m => by
    have := fold_ge xs (max m x)
    rw [List.foldl_cons]
    omega
theorem fold_mem_le : ∀ (xs : List Int) (m x : Int), x ∈ xs → x ≤ xs.foldl max m
  | y :: xs, m, x, h => by
    rw [List.foldl_cons]
    rcases List.mem_cons.1 h with rfl | h
    · have := fold_ge xs (max m x)
      omega
    · exact fold_mem_le xs _ x h
theorem fold_le : ∀ (xs : List Int) (m n : Int), m ≤ n → (∀ x ∈ xs, x ≤ n) → xs.foldl max m ≤ n
  | [], _, _, h, _ => h
  | y :: xs, m, n, h, hx => by
    rw [List.foldl_cons]
    exact fold_le xs _ n (by have := hx y (by simp); omega) (fun x h => hx x (by simp [h]))
theorem fold_is : ∀ (xs : List Int) (m : Int), xs.foldl max m = m ∨ xs.foldl max m ∈ xs
  | [], _ => .inl rfl
  | y :: xs, m => by
    rw [List.foldl_cons]
    rcases fold_is xs (max m y) with h | h
    · by_cases e : m ≤ y
      · right
        rw [h, Int.max_eq_right e]
        simp
      · left
        rw [h]
        omega
    · exact .inr (List.mem_cons_of_mem _ h)
theorem top_at {l : Lv} (hl : l.p.length = 4) {i : Nat} (hi : i < 4) : l.p.getD i 0 ≤ topL l := by
  refine fold_mem_le _ _ _ ?_
  rw [List.getD_eq_getElem?_getD, List.getElem?_eq_getElem (by omega)]
  exact List.getElem_mem _
theorem top_mem {l : Lv} (hl : l.p.length = 4) : ∃ i, i < 4 ∧ l.p.getD i 0 = topL l := by
  rcases fold_is l.p (l.p.getD 0 0) with h | h
  · exact ⟨0, by omega, h.symm⟩
  · obtain ⟨i, hi, e⟩ := mem_at h
    exact ⟨i, by omega, e⟩
theorem part_mem (l : Lv) (top : Int) (hr : ∀ i, i < 4 → -1 ≤ l.p.getD i 0) (hb : 0 ≤ l.b) : ∀ k, k ≤ 4 → ∀ x, x ∈ partsUp l top k ↔ (top < l.b ∧ x = Lib.itoa l.b) ∨ ∃ i, i < k ∧ l.p.getD i 0 ≠ -1 ∧ x = partT i (l.p.getD i 0)
  | 0, _, x => by
    rw [partsUp]
    constructor
    · intro h
      split at h
      · exact .inl ⟨by assumption, by simpa using h⟩
      · simp at h
    · rintro (⟨h1, rfl⟩ | ⟨i, hi, _⟩)
      · rw [if_pos h1]; simp
      · omega
  | k + 1, h4, x => by
    have ih := part_mem l top hr hb k (by omega) x
    rw [partsUp]
    split
    · next hp =>
      rw [ih]
      constructor
      · rintro (h | ⟨i, hi, h⟩)
        · exact .inl h
        · exact .inr ⟨i, by omega, h⟩
      · rintro (h | ⟨i, hi, h1, h2⟩)
        · exact .inl h
        · exact .inr ⟨i, Nat.lt_of_le_of_ne (by omega) (fun e => h1 (by rw [e]; exact hp)), h1, h2⟩
    · next hp =>
      rw [List.mem_append, ih]
      constructor
      · rintro ((h | ⟨i, hi, h⟩) | h)
        · exact .inl h
        · exact .inr ⟨i, by omega, h⟩
        · exact .inr ⟨k, by omega, hp, by simpa using h⟩
      · rintro (h | ⟨i, hi, h1, h2⟩)
        · exact .inl (.inl h)
        · by_cases e : i = k
          · subst e
            exact .inr (by simp [h2])
          · exact .inl (.inr ⟨i, by omega, h1, h2⟩)
/-- Rows of parts without a blank, joined, tell the parts. -/
theorem joins_inj : ∀ (xs ys : List (List UInt8)), (∀ x ∈ xs, ∀ a ∈ x, a ≠ 32) → (∀ y ∈ ys, ∀ a ∈ y, a ≠ 32) → Lib.joinTail [32, 124, 32] xs = Lib.joinTail [32, 124, 32] ys → xs = ys
  | [], [], _, _, _ => rfl
  | [], y :: ys, _, _, h => by simp [Lib.joinTail] at h
  | x :: xs, [], _, _, h => by simp [Lib.joinTail] at h
  | x :: xs, y :: ys, hx, hy, h => by
    have h1 : [32, 124, 32] ++ x ++ Lib.joinTail [32, 124, 32] xs = [32, 124, 32] ++ y ++ Lib.joinTail [32, 124, 32] ys := by
      simpa [Lib.joinTail] using h
    have h2 : x ++ Lib.joinTail [32, 124, 32] xs = y ++ Lib.joinTail [32, 124, 32] ys := by simpa using h1
    have k : ∀ zs : List (List UInt8), Lib.joinTail [32, 124, 32] zs = [] ∨ ∃ r, Lib.joinTail [32, 124, 32] zs = 32 :: r := fun zs => by
      cases zs with
      | nil => exact .inl rfl
      | cons z zs => exact .inr ⟨_, rfl⟩
    have nx := hx x (by simp)
    have ny := hy y (by simp)
    have key : x = y ∧ Lib.joinTail [32, 124, 32] xs = Lib.joinTail [32, 124, 32] ys := by
      rcases k xs with e1 | ⟨r, e1⟩ <;> rcases k ys with e2 | ⟨s, e2⟩ <;> rw [e1, e2] at h2 ⊢
      · exact ⟨by simpa using h2, rfl⟩
      · exact absurd rfl (nx 32 (by rw [List.append_nil] at h2; rw [h2]; simp))
      · exact absurd rfl (ny 32 (by rw [List.append_nil] at h2; rw [← h2]; simp))
      · obtain ⟨rfl, rfl⟩ := split_at nx ny h2
        exact ⟨rfl, rfl⟩
    rw [key.1, joins_inj xs ys (fun z hz => hx z (by simp [hz])) (fun z hz => hy z (by simp [hz])) key.2]
theorem join_inj {xs ys : List (List UInt8)} (hx : ∀ x ∈ xs, ∀ a ∈ x, a ≠ 32) (hy : ∀ y ∈ ys, ∀ a ∈ y, a ≠ 32) (nx : xs ≠ []) (ny : ys ≠ []) (h : Lib.join xs [32, 124, 32] = Lib.join ys [32, 124, 32]) : xs = ys := by
  cases xs with
  | nil => exact absurd rfl nx
  | cons x xs =>
    cases ys with
    | nil => exact absurd rfl ny
    | cons y ys =>
      rw [Lib.join_cons, Lib.join_cons] at h
      refine joins_inj (x :: xs) (y :: ys) hx hy ?_
      have k : ∀ (z : List UInt8) zs, Lib.joinTail [32, 124, 32] (z :: zs) = [32, 124, 32] ++ (z ++ Lib.joinTail [32, 124, 32] zs) := fun z zs => by simp [Lib.joinTail]
      rw [k, k, h]
theorem parts_32 {l : Lv} (hl : l.p.length = 4) (h : rightL l = true) : ∀ x ∈ partsL l, ∀ a ∈ x, a ≠ 32 := by
  intro x hx
  have hb := right_b h
  rcases (part_mem l _ (fun i hi => (right_at h (by omega)).1) hb.1 4 (Nat.le_refl _) x).1 hx with ⟨_, rfl⟩ | ⟨i, hi, hp, rfl⟩
  · exact dig_ne (itoa_digits hb.1) (by decide)
  · exact partT_32 (by have := (right_at h (i := i) (by omega)).1; omega)
theorem parts_some {l : Lv} (hl : l.p.length = 4) (h : rightL l = true) : partsL l ≠ [] := by
  have hb := right_b h
  have hm := part_mem l (topL l) (fun i hi => (right_at h (by omega)).1) hb.1 4 (Nat.le_refl _)
  intro hc
  by_cases ht : topL l < l.b
  · have := (hm (Lib.itoa l.b)).2 (.inl ⟨ht, rfl⟩)
    rw [show partsUp l (topL l) 4 = [] from hc] at this
    simp at this
  · obtain ⟨i, hi, e⟩ := top_mem hl
    have := (hm (partT i (l.p.getD i 0))).2 (.inr ⟨i, hi, by omega, rfl⟩)
    rw [show partsUp l (topL l) 4 = [] from hc] at this
    simp at this
theorem join_ne {xs : List (List UInt8)} (h : ∃ x ∈ xs, x ≠ []) : Lib.join xs [32, 124, 32] ≠ [] := by
  obtain ⟨x, hx, hne⟩ := h
  cases xs with
  | nil => simp at hx
  | cons y ys =>
    rw [Lib.join_cons]
    intro hc
    rcases List.mem_cons.1 hx with rfl | hx
    · exact hne (List.append_eq_nil_iff.1 hc).1
    · have h2 := (List.append_eq_nil_iff.1 hc).2
      cases ys with
      | nil => simp at hx
      | cons z zs => simp [Lib.joinTail] at h2
theorem text_ne {l : Lv} (hl : l.p.length = 4) (h : rightL l = true) : textL l ≠ [] := by
  rw [textL, if_pos h]
  have hs := parts_some hl h
  have hb := right_b h
  obtain ⟨x, hx⟩ := List.exists_mem_of_ne_nil _ hs
  refine join_ne ⟨x, hx, ?_⟩
  rcases (part_mem l _ (fun i hi => (right_at h (by omega)).1) hb.1 4 (Nat.le_refl _) x).1 hx with ⟨_, rfl⟩ | ⟨i, hi, hp, rfl⟩
  · exact itoa_ne hb.1
  · exact partT_ne _ _
/-- Right levels of one text are one. -/
theorem text_inj {a b : Lv} (ha : a.p.length = 4) (hb : b.p.length = 4) (h1 : rightL a = true) (h2 : rightL b = true) (h : textL a = textL b) : a = b := by
  rw [textL, if_pos h1, textL, if_pos h2] at h
  have hp := join_inj (parts_32 ha h1) (parts_32 hb h2) (parts_some ha h1) (parts_some hb h2) h
  have kb := right_b h1
  have kb2 := right_b h2
  have ma := part_mem a (topL a) (fun i hi => (right_at h1 (by omega)).1) kb.1 4 (Nat.le_refl _)
  have mb := part_mem b (topL b) (fun i hi => (right_at h2 (by omega)).1) kb2.1 4 (Nat.le_refl _)
  have hm : ∀ x, x ∈ partsUp a (topL a) 4 ↔ x ∈ partsUp b (topL b) 4 := fun x => by
    rw [show partsUp a (topL a) 4 = partsUp b (topL b) 4 from hp]
  have dig : ∀ {n : Int} {i : Nat} {p : Int}, 0 ≤ n → Lib.itoa n ≠ partT i p := fun {n i p} hn e => by
    have := itoa_digits hn
    have k : (117 : UInt8) ∈ partT i p := by unfold partT; split <;> simp
    rw [← e] at k
    have := (this _ k).2
    exact absurd this (by decide)
  have at1 : ∀ i, i < 4 → a.p.getD i 0 ≠ -1 → b.p.getD i 0 = a.p.getD i 0 := fun i hi hne => by
    rcases (mb _).1 ((hm _).1 ((ma _).2 (.inr ⟨i, hi, hne, rfl⟩))) with ⟨_, e⟩ | ⟨j, hj, hnj, e⟩
    · exact absurd e.symm (dig kb2.1)
    · have k1 := right_at h1 (i := i) (by omega)
      have k2 := right_at h2 (i := j) (by omega)
      obtain ⟨rfl, e2⟩ := partT_inj (by omega) (by omega) e
      exact e2.symm
  have at2 : ∀ i, i < 4 → b.p.getD i 0 ≠ -1 → a.p.getD i 0 = b.p.getD i 0 := fun i hi hne => by
    rcases (ma _).1 ((hm _).2 ((mb _).2 (.inr ⟨i, hi, hne, rfl⟩))) with ⟨_, e⟩ | ⟨j, hj, hnj, e⟩
    · exact absurd e.symm (dig kb.1)
    · have k1 := right_at h2 (i := i) (by omega)
      have k2 := right_at h1 (i := j) (by omega)
      obtain ⟨rfl, e2⟩ := partT_inj (by omega) (by omega) e
      exact e2.symm
  have hat : ∀ i, i < 4 → a.p.getD i 0 = b.p.getD i 0 := fun i hi => by
    by_cases e : a.p.getD i 0 = -1
    · by_cases e2 : b.p.getD i 0 = -1
      · rw [e, e2]
      · exact at2 i hi e2
    · exact (at1 i hi e).symm
  have hpp : a.p = b.p := eq_at (ha.trans hb.symm) (fun i hi => hat i (by omega))
  have htop : topL a = topL b := by rw [topL, topL, hpp]
  refine Lv.ext2 ha hb ?_ hat
  by_cases ht : topL a < a.b
  · rcases (mb _).1 ((hm _).1 ((ma _).2 (.inl ⟨ht, rfl⟩))) with ⟨_, e⟩ | ⟨j, hj, hnj, e⟩
    · exact itoa_inj kb.1 kb2.1 e
    · exact absurd e (dig kb.1)
  · by_cases ht2 : topL b < b.b
    · rcases (ma _).1 ((hm _).2 ((mb _).2 (.inl ⟨ht2, rfl⟩))) with ⟨_, e⟩ | ⟨j, hj, hnj, e⟩
      · exact (itoa_inj kb2.1 kb.1 e).symm
      · exact absurd e (dig kb2.1)
    · obtain ⟨i, hi, e⟩ := top_mem ha
      have k1 := right_at h1 (i := i) (by omega)
      obtain ⟨j, hj, e2⟩ := top_mem hb
      have k2 := right_at h2 (i := j) (by omega)
      omega
end Go.Proofs.YtngpmilojfbpmaaDoor
