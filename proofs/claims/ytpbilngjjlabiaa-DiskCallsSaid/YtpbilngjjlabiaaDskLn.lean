/- Behind a crash the bytes that are read are those that last: plain lemmas on lists, for every size. -/
import Derived.Test.YtpbilngjjlabiaaDskLm
namespace Go.Proofs.Ytpbilngjjlabiaa
open Go Go.RowKit

theorem putB_getD' {l b : List Int} {n p sz : Nat} (hl : l.length = 64 * sz) (hn : n < sz) (hb : b.length = 64) : (putB l n b).getD p 0 = if p / 64 = n then b.getD (p % 64) 0 else l.getD p 0 := by
  unfold putB
  simp only [List.getD_eq_getElem?_getD]
  by_cases h : p / 64 = n
  · rw [if_pos h, List.getElem?_append_right (by rw [List.length_take]; omega), List.getElem?_append_left (by rw [List.length_take]; omega), List.length_take, show p - min (64 * n) l.length = p % 64 by omega]
  · rw [if_neg h]
    by_cases h2 : p < 64 * n
    · rw [List.getElem?_append_left (by rw [List.length_take]; omega), List.getElem?_take, if_pos h2]
    · rw [List.getElem?_append_right (by rw [List.length_take]; omega), List.getElem?_append_right (by rw [List.length_take]; omega), List.getElem?_drop, List.length_take, show 64 * n + 64 + (p - min (64 * n) l.length - b.length) = p by omega]
theorem apply_else' {S : List Int} {P : List Wr} {sz : Nat} (hS : S.length = 64 * sz) (hP : okW sz P) {p : Nat} : ∀ k, k ≤ P.length → (∀ i, i < k → (wrAt P i).1 ≠ p / 64) → (applyK S P k).getD p 0 = S.getD p 0
  | 0, _, _ => rfl
  | k + 1, hk, hn => by
    have hw := wrAt_ok hP (k := k) (by omega)
    rw [applyK, putB_getD' (applyK_length hS hP k (by omega)) hw.1 hw.2, if_neg (fun e => hn k (by omega) e.symm)]
    exact apply_else' hS hP k (by omega) (fun i hi => hn i (by omega))
theorem crash_else' {S : List Int} {P : List Wr} {picks : List Int} {sz : Nat} (hS : S.length = 64 * sz) (hP : okW sz P) (hp : isBytes picks) {p : Nat} : ∀ k, k ≤ P.length → (∀ i, i < k → (wrAt P i).1 ≠ p / 64) → (crashK S P picks k).getD p 0 = S.getD p 0
  | 0, _, _ => rfl
  | k + 1, hk, hn => by
    have hw := wrAt_ok hP (k := k) (by omega)
    have hl := crashK_length (picks := picks) hS hP hp k (by omega)
    rw [crashK, putB_getD' hl hw.1 (crash1_length (getB_length hl hw.1) hw.2 _ (pickL_range hp k).1), if_neg (fun e => hn k (by omega) e.symm)]
    exact crash_else' hS hP hp k (by omega) (fun i hi => hn i (by omega))
theorem seen_or' {A D : List Int} {P : List Wr} {sz : Nat} (hA : A.length = 64 * sz) (hD : D.length = 64 * sz) (hP : okW sz P) {p : Nat} : ∀ k, k ≤ P.length → (seenK A D P k).getD p 0 = D.getD p 0 ∨ ((seenK A D P k).getD p 0 = A.getD p 0 ∧ ∀ i, i < k → (wrAt P i).1 ≠ p / 64)
  | 0, _ => .inr ⟨rfl, fun i hi => absurd hi (by omega)⟩
  | k + 1, hk => by
    have hw := wrAt_ok hP (k := k) (by omega)
    have ih := seen_or' (p := p) hA hD hP k (by omega)
    rw [seenK, putB_getD' (seenK_length hA hD hP k (by omega)) hw.1 (getB_length hD hw.1)]
    by_cases h : p / 64 = (wrAt P k).1
    · rw [if_pos h, ← h, getB_getD]; exact .inl rfl
    · rw [if_neg h]
      rcases ih with e | ⟨e, hn⟩
      · exact .inl e
      · exact .inr ⟨e, fun i hi => by
          by_cases hik : i = k
          · subst hik; exact fun e => h e.symm
          · exact hn i (by omega)⟩
theorem ext_getD {a b : List Int} (hl : a.length = b.length) (h : ∀ p, a.getD p 0 = b.getD p 0) : a = b := by
  refine List.ext_getElem hl fun i h1 h2 => ?_
  have h3 := h i
  rw [List.getD_eq_getElem?_getD, List.getD_eq_getElem?_getD, List.getElem?_eq_getElem h1, List.getElem?_eq_getElem h2] at h3
  exact h3
theorem seen_crash {S : List Int} {P : List Wr} {picks : List Int} {sz : Nat} (hS : S.length = 64 * sz) (hP : okW sz P) (hp : isBytes picks) : seenK (applyK S P P.length) (crashK S P picks P.length) P P.length = crashK S P picks P.length := by
  have hA := applyK_length hS hP P.length (Nat.le_refl _)
  have hD := crashK_length (picks := picks) hS hP hp P.length (Nat.le_refl _)
  refine ext_getD (by rw [seenK_length hA hD hP _ (Nat.le_refl _), hD]) fun p => ?_
  rcases seen_or' (p := p) hA hD hP P.length (Nat.le_refl _) with e | ⟨e, hn⟩
  · exact e
  · rw [e, apply_else' hS hP P.length (Nat.le_refl _) hn, crash_else' hS hP hp P.length (Nat.le_refl _) hn]
end Go.Proofs.Ytpbilngjjlabiaa
