/- Digests in rising order, each once: plain. -/
import Derived.Test.YtoeilaedpibboaaDoorTagCmp
import Derived.Sort.Statements
namespace Go.Proofs.YtoeilaedpibboaaDoor
open Go.RowKit
set_option maxRecDepth 100000

theorem cmpD_swap : ∀ x y : List Int, cmpD y x = - cmpD x y
  | [], [] => rfl
  | [], _ :: _ => rfl
  | _ :: _, [] => rfl
  | a :: al, b :: bl => by
    have ih := cmpD_swap al bl
    unfold cmpD
    by_cases h1 : a < b
    · rw [if_pos h1, if_neg (by omega), if_pos h1]; rfl
    · by_cases h2 : b < a
      · rw [if_pos h2, if_neg h1, if_pos h2]
      · rw [if_neg h2, if_neg h1, if_neg h1, if_neg h2, ih]
theorem cmpD_range : ∀ x y : List Int, cmpD x y = -1 ∨ cmpD x y = 0 ∨ cmpD x y = 1
  | [], [] => .inr (.inl rfl)
  | [], _ :: _ => .inl rfl
  | _ :: _, [] => .inr (.inr rfl)
  | a :: al, b :: bl => by
    unfold cmpD
    by_cases h1 : a < b
    · rw [if_pos h1]; exact .inl rfl
    · by_cases h2 : b < a
      · rw [if_neg h1, if_pos h2]; exact .inr (.inr rfl)
      · rw [if_neg h1, if_neg h2]; exact cmpD_range al bl
theorem cmpD_eq : ∀ x y : List Int, cmpD x y = 0 ↔ x = y
  | [], [] => by simp [cmpD]
  | [], _ :: _ => by simp [cmpD]
  | _ :: _, [] => by simp [cmpD]
  | a :: al, b :: bl => by
    have ih := cmpD_eq al bl
    unfold cmpD
    by_cases h1 : a < b
    · rw [if_pos h1]
      constructor
      · intro h; exact absurd h (by decide)
      · intro h; have := (List.cons.inj h).1; omega
    · by_cases h2 : b < a
      · rw [if_neg h1, if_pos h2]
        constructor
        · intro h; exact absurd h (by decide)
        · intro h; have := (List.cons.inj h).1; omega
      · rw [if_neg h1, if_neg h2, ih]
        have e : a = b := by omega
        subst e
        simp
theorem cmpD_self (x : List Int) : cmpD x x = 0 := (cmpD_eq x x).2 rfl
theorem cmpD_trans : ∀ x y z : List Int, cmpD x y < 0 → cmpD y z < 0 → cmpD x z < 0
  | [], [], _, h, _ => by simp [cmpD] at h
  | _ :: _, [], _, h, _ => by simp [cmpD] at h
  | _, _ :: _, [], _, h => by simp [cmpD] at h
  | [], _ :: _, _ :: _, _, _ => by simp [cmpD]
  | a :: al, b :: bl, c :: cl, h1, h2 => by
    unfold cmpD at h1 h2 ⊢
    by_cases ab : a < b
    · by_cases bc : b < c
      · rw [if_pos (by omega)]; decide
      · rw [if_neg bc] at h2
        by_cases cb : c < b
        · rw [if_pos cb] at h2; exact absurd h2 (by decide)
        · rw [if_pos (by omega)]; decide
    · rw [if_neg ab] at h1
      by_cases ba : b < a
      · rw [if_pos ba] at h1; exact absurd h1 (by decide)
      · rw [if_neg ba] at h1
        by_cases bc : b < c
        · rw [if_pos (by omega)]; decide
        · rw [if_neg bc] at h2
          by_cases cb : c < b
          · rw [if_pos cb] at h2; exact absurd h2 (by decide)
          · rw [if_neg cb] at h2
            rw [if_neg (by omega), if_neg (by omega)]
            exact cmpD_trans al bl cl h1 h2
theorem cmpD_le_lt {x y z : List Int} (h1 : cmpD x y ≤ 0) (h2 : cmpD y z < 0) : cmpD x z < 0 := by
  by_cases h : cmpD x y = 0
  · rw [(cmpD_eq x y).1 h]; exact h2
  · exact cmpD_trans x y z (by omega) h2
theorem cmpD_lt_le {x y z : List Int} (h1 : cmpD x y < 0) (h2 : cmpD y z ≤ 0) : cmpD x z < 0 := by
  by_cases h : cmpD y z = 0
  · rw [← (cmpD_eq y z).1 h]; exact h1
  · exact cmpD_trans x y z h1 (by omega)
/-- In rising order, each once. -/
def Rising (l : List (List Int)) : Prop := l.Pairwise fun a b => cmpD a b < 0
def NonDec (l : List (List Int)) : Prop := l.Pairwise fun a b => cmpD a b ≤ 0
def insS (x : List Int) : List (List Int) → List (List Int)
  | [] => [x]
  | y :: l => if cmpD x y < 0 then x :: y :: l else if cmpD x y = 0 then y :: l else y :: insS x l
/-- The digests of a row in rising order, each once. -/
def sortS (ds : List (List Int)) : List (List Int) := ds.foldr insS []
theorem insS_mem (x z : List Int) : ∀ l, z ∈ insS x l ↔ z = x ∨ z ∈ l
  | [] => by simp [insS]
  | y :: l => by
    have ih := insS_mem x z l
    unfold insS
    by_cases h1 : cmpD x y < 0
    · rw [if_pos h1]; simp
    · rw [if_neg h1]
      by_cases h2 : cmpD x y = 0
      · rw [if_pos h2, (cmpD_eq x y).1 h2]; simp
      · rw [if_neg h2, List.mem_cons, ih, List.mem_cons]
        constructor
        · rintro (h | h | h); exact .inr (.inl h); exact .inl h; exact .inr (.inr h)
        · rintro (h | h | h); exact .inr (.inl h); exact .inl h; exact .inr (.inr h)
theorem insS_rising (x : List Int) : ∀ l, Rising l → Rising (insS x l)
  | [], _ => List.pairwise_singleton _ _
  | y :: l, h => by
    have hy := (List.pairwise_cons.1 h).1
    have hl := (List.pairwise_cons.1 h).2
    unfold insS
    by_cases h1 : cmpD x y < 0
    · rw [if_pos h1]
      refine List.pairwise_cons.2 ⟨fun z hz => ?_, h⟩
      rcases List.mem_cons.1 hz with rfl | hz
      · exact h1
      · exact cmpD_trans x y z h1 (hy z hz)
    · rw [if_neg h1]
      by_cases h2 : cmpD x y = 0
      · rw [if_pos h2]; exact h
      · rw [if_neg h2]
        refine List.pairwise_cons.2 ⟨fun z hz => ?_, insS_rising x l hl⟩
        rcases (insS_mem x z l).1 hz with rfl | hz
        · have := cmpD_swap z y; omega
        · exact hy z hz
theorem sortS_mem (z : List Int) : ∀ ds, z ∈ sortS ds ↔ z ∈ ds
  | [] => by simp [sortS]
  | x :: ds => by
    have ih := sortS_mem z ds
    unfold sortS at *
    rw [List.foldr_cons, insS_mem, ih, List.mem_cons]
theorem sortS_rising : ∀ ds, Rising (sortS ds)
  | [] => List.Pairwise.nil
  | x :: ds => insS_rising x _ (sortS_rising ds)
theorem rising_unique : ∀ a b : List (List Int), Rising a → Rising b → (∀ z, z ∈ a ↔ z ∈ b) → a = b
  | [], [], _, _, _ => rfl
  | [], y :: b, _, _, h => absurd ((h y).2 (by simp)) (by simp)
  | x :: a, [], _, _, h => absurd ((h x).1 (by simp)) (by simp)
  | x :: a, y :: b, ha, hb, h => by
    have hx := (List.pairwise_cons.1 ha).1
    have hy := (List.pairwise_cons.1 hb).1
    have e : x = y := by
      rcases List.mem_cons.1 ((h x).1 (by simp)) with e | hxb
      · exact e
      · rcases List.mem_cons.1 ((h y).2 (by simp)) with e | hya
        · exact e.symm
        · have h1 := hx y hya
          have h2 := hy x hxb
          have h3 := cmpD_swap x y
          omega
    subst e
    have ht : ∀ z, z ∈ a ↔ z ∈ b := fun z => by
      constructor
      · intro hz
        rcases List.mem_cons.1 ((h z).1 (by simp [hz])) with e | hz'
        · have := hx z hz
          rw [e, cmpD_self] at this
          exact absurd this (by decide)
        · exact hz'
      · intro hz
        rcases List.mem_cons.1 ((h z).2 (by simp [hz])) with e | hz'
        · have := hy z hz
          rw [e, cmpD_self] at this
          exact absurd this (by decide)
        · exact hz'
    rw [rising_unique a b (List.pairwise_cons.1 ha).2 (List.pairwise_cons.1 hb).2 ht]
theorem sortS_of {l ds : List (List Int)} (h : Rising l) (hm : ∀ z, z ∈ l ↔ z ∈ ds) : l = sortS ds :=
  rising_unique _ _ h (sortS_rising ds) fun z => (hm z).trans (sortS_mem z ds).symm
/-- A set hangs on which digests there are alone. -/
theorem sortS_set {a b : List (List Int)} (h : ∀ z, z ∈ a ↔ z ∈ b) : sortS a = sortS b :=
  sortS_of (sortS_rising a) fun z => (sortS_mem z a).trans (h z)
theorem rising_len : ∀ (l ds : List (List Int)), Rising l → (∀ z, z ∈ l → z ∈ ds) → l.length ≤ ds.length
  | [], _, _, _ => Nat.zero_le _
  | x :: l, ds, h, hm => by
    have hx := (List.pairwise_cons.1 h).1
    have h1 : x ∈ ds := hm x (by simp)
    have h2 := rising_len l (ds.erase x) (List.pairwise_cons.1 h).2 fun z hz => by
      refine (List.mem_erase_of_ne (fun e => ?_)).2 (hm z (by simp [hz]))
      have := hx z hz
      rw [e, cmpD_self] at this
      exact absurd this (by decide)
    rw [List.length_erase_of_mem h1] at h2
    have h3 : 0 < ds.length := List.length_pos_of_mem h1
    rw [List.length_cons]
    omega
theorem sortS_len (ds : List (List Int)) : (sortS ds).length ≤ ds.length := rising_len _ _ (sortS_rising ds) fun z hz => (sortS_mem z ds).1 hz
theorem sortS_ne {ds : List (List Int)} (h : ds ≠ []) : sortS ds ≠ [] := fun e => by
  obtain ⟨x, l, rfl⟩ : ∃ x l, ds = x :: l := by cases ds with | nil => exact absurd rfl h | cons x l => exact ⟨x, l, rfl⟩
  have := (sortS_mem x (x :: l)).2 (by simp)
  rw [e] at this
  cases this
/-- Neighbours that are one come together. -/
def cptG (p : List Int) : List (List Int) → List (List Int)
  | [] => []
  | x :: l => if x = p then cptG p l else x :: cptG x l
def cpt : List (List Int) → List (List Int)
  | [] => []
  | x :: l => x :: cptG x l
theorem cptG_snoc (x : List Int) : ∀ (l : List (List Int)) (p : List Int), cptG p (l ++ [x]) = if x = (p :: l).getLast (by simp) then cptG p l else cptG p l ++ [x]
  | [], p => by
    show cptG p [x] = _
    unfold cptG
    by_cases h : x = p
    · rw [if_pos h, if_pos (by simpa using h)]; rfl
    · rw [if_neg h, if_neg (by simpa using h)]; rfl
  | y :: l, p => by
    rw [List.cons_append, cptG, cptG]
    by_cases h : y = p
    · subst h
      rw [if_pos rfl, if_pos rfl, cptG_snoc x l y]
      rw [show (y :: y :: l).getLast (by simp) = (y :: l).getLast (by simp) from List.getLast_cons (by simp)]
    · rw [if_neg h, if_neg h, cptG_snoc x l y]
      rw [show (p :: y :: l).getLast (by simp) = (y :: l).getLast (by simp) from List.getLast_cons (by simp)]
      split <;> rfl
theorem cpt_snoc {l : List (List Int)} (hl : l ≠ []) (x : List Int) : cpt (l ++ [x]) = if x = l.getLast hl then cpt l else cpt l ++ [x] := by
  cases l with
  | nil => exact absurd rfl hl
  | cons p l =>
    show p :: cptG p (l ++ [x]) = _
    rw [cptG_snoc]
    split <;> rfl
theorem cptG_rising : ∀ (l : List (List Int)) (p : List Int), NonDec (p :: l) → Rising (p :: cptG p l) ∧ ∀ z, z ∈ p :: cptG p l ↔ z ∈ p :: l
  | [], p, _ => ⟨List.pairwise_singleton _ _, fun _ => Iff.rfl⟩
  | x :: l, p, h => by
    have hp := (List.pairwise_cons.1 h).1
    have hl := (List.pairwise_cons.1 h).2
    unfold cptG
    by_cases e : x = p
    · subst e
      rw [if_pos rfl]
      obtain ⟨h1, h2⟩ := cptG_rising l x hl
      exact ⟨h1, fun z => (h2 z).trans (by simp)⟩
    · rw [if_neg e]
      obtain ⟨h1, h2⟩ := cptG_rising l x hl
      have hpx : cmpD p x < 0 := by
        have := hp x (by simp)
        have h3 : cmpD p x ≠ 0 := fun h0 => e ((cmpD_eq p x).1 h0).symm
        omega
      refine ⟨List.pairwise_cons.2 ⟨fun z hz => ?_, h1⟩, fun z => ?_⟩
      · rcases List.mem_cons.1 hz with rfl | hz
        · exact hpx
        · exact cmpD_trans p x z hpx ((List.pairwise_cons.1 h1).1 z hz)
      · rw [List.mem_cons, h2 z]; simp
theorem cpt_sorted {l : List (List Int)} (h : NonDec l) : cpt l = sortS l := by
  cases l with
  | nil => rfl
  | cons p l =>
    obtain ⟨h1, h2⟩ := cptG_rising l p h
    exact sortS_of h1 h2
theorem cptG_len : ∀ (l : List (List Int)) (p : List Int), (cptG p l).length ≤ l.length
  | [], _ => Nat.le_refl _
  | x :: l, p => by
    have h1 := cptG_len l p
    have h2 := cptG_len l x
    unfold cptG
    split
    · rw [List.length_cons]; omega
    · rw [List.length_cons, List.length_cons]; omega
theorem cpt_len (l : List (List Int)) : (cpt l).length ≤ l.length := by
  cases l with
  | nil => exact Nat.le_refl _
  | cons p l => have := cptG_len l p; show (cptG p l).length + 1 ≤ l.length + 1; omega
end Go.Proofs.YtoeilaedpibboaaDoor
