/- What a crash leaves of each byte: plain lemmas on lists; nothing about the program. -/
import Derived.Test.YtpbilngjjlabiaaDskCo
namespace Go.Proofs.Ytpbilngjjlabiaa
open Go Go.RowKit

theorem putB_getD {l b : List Int} {n p : Nat} (hl : l.length = 64 * 8) (hn : n < 8) (hb : b.length = 64) (_hp : p < 512) : (putB l n b).getD p 0 = if p / 64 = n then b.getD (p % 64) 0 else l.getD p 0 := by
  unfold putB
  simp only [List.getD_eq_getElem?_getD]
  by_cases h : p / 64 = n
  · rw [if_pos h, List.getElem?_append_right (by rw [List.length_take]; omega), List.getElem?_append_left (by rw [List.length_take]; omega), List.length_take, show p - min (64 * n) l.length = p % 64 by omega]
  · rw [if_neg h]
    by_cases h2 : p < 64 * n
    · rw [List.getElem?_append_left (by rw [List.length_take]; omega), List.getElem?_take, if_pos h2]
    · rw [List.getElem?_append_right (by rw [List.length_take]; omega), List.getElem?_append_right (by rw [List.length_take]; omega), List.getElem?_drop, List.length_take, show 64 * n + 64 + (p - min (64 * n) l.length - b.length) = p by omega]
theorem getB_getD {l : List Int} {p : Nat} : (getB l (p / 64)).getD (p % 64) 0 = l.getD p 0 := by
  unfold getB
  simp only [List.getD_eq_getElem?_getD]
  rw [List.getElem?_take, if_pos (Nat.mod_lt _ (by decide)), List.getElem?_drop, show 64 * (p / 64) + p % 64 = p by omega]
theorem crash1_getD {bf af : List Int} (hb : bf.length = 64) (ha : af.length = 64) (z : Int) (k : Nat) : (crash1 bf af z).getD k 0 = bf.getD k 0 ∨ (crash1 bf af z).getD k 0 = af.getD k 0 := by
  have h0 := Int.emod_nonneg z (show (64 : Int) ≠ 0 by decide)
  have h1 := Int.emod_lt_of_pos z (show (0 : Int) < 64 by decide)
  unfold crash1
  split
  · exact .inr rfl
  · split
    · simp only [List.getD_eq_getElem?_getD]
      by_cases h : k < (z % 64).toNat
      · right
        rw [List.getElem?_append_left (by rw [List.length_take]; omega), List.getElem?_take, if_pos h]
      · left
        rw [List.getElem?_append_right (by rw [List.length_take]; omega), List.getElem?_drop, List.length_take, show (z % 64).toNat + (k - min (z % 64).toNat af.length) = k by omega]
    · split
      · simp only [List.getD_eq_getElem?_getD]
        by_cases h : k < 64 - (z % 64).toNat
        · left
          rw [List.getElem?_append_left (by rw [List.length_take]; omega), List.getElem?_take, if_pos h]
        · right
          rw [List.getElem?_append_right (by rw [List.length_take]; omega), List.getElem?_drop, List.length_take, show 64 - (z % 64).toNat + (k - min (64 - (z % 64).toNat) bf.length) = k by omega]
      · exact .inl rfl
/-- A byte is as it was, or one that a write wrote there. -/
def Good (S : List Int) (P : List Wr) (p : Nat) (x : Int) : Prop := x = S.getD p 0 ∨ ∃ i, i < P.length ∧ (wrAt P i).1 = p / 64 ∧ (wrAt P i).2.getD (p % 64) 0 = x
theorem good_crash {S : List Int} {P : List Wr} {picks : List Int} (hS : S.length = 64 * 8) (hP : okW 8 P) (hp : isBytes picks) : ∀ k, k ≤ P.length → ∀ p, p < 512 → Good S P p ((crashK S P picks k).getD p 0)
  | 0, _, p, _ => .inl rfl
  | k + 1, hk, p, hpl => by
    have ih := good_crash hS hP hp k (by omega) p hpl
    have hl := crashK_length (picks := picks) hS hP hp k (by omega)
    have hw := wrAt_ok hP (k := k) (by omega)
    have hg := getB_length hl hw.1
    rw [crashK, putB_getD hl hw.1 (crash1_length hg hw.2 _ (pickL_range hp k).1) hpl]
    by_cases h : p / 64 = (wrAt P k).1
    · rw [if_pos h]
      rcases crash1_getD hg hw.2 (pickL picks k) (p % 64) with e | e
      · rw [e, ← h, getB_getD]; exact ih
      · rw [e]; exact .inr ⟨k, by omega, h.symm, rfl⟩
    · rw [if_neg h]; exact ih
theorem apply_else {S : List Int} {P : List Wr} (hS : S.length = 64 * 8) (hP : okW 8 P) {p : Nat} (hpl : p < 512) : ∀ k, k ≤ P.length → (∀ i, i < k → (wrAt P i).1 ≠ p / 64) → (applyK S P k).getD p 0 = S.getD p 0
  | 0, _, _ => rfl
  | k + 1, hk, hn => by
    have hw := wrAt_ok hP (k := k) (by omega)
    rw [applyK, putB_getD (applyK_length hS hP k (by omega)) hw.1 hw.2 hpl, if_neg (fun e => hn k (by omega) e.symm)]
    exact apply_else hS hP hpl k (by omega) (fun i hi => hn i (by omega))
theorem seen_or {A D : List Int} {P : List Wr} (hA : A.length = 64 * 8) (hD : D.length = 64 * 8) (hP : okW 8 P) {p : Nat} (hpl : p < 512) : ∀ k, k ≤ P.length → (seenK A D P k).getD p 0 = D.getD p 0 ∨ ((seenK A D P k).getD p 0 = A.getD p 0 ∧ ∀ i, i < k → (wrAt P i).1 ≠ p / 64)
  | 0, _ => .inr ⟨rfl, fun i hi => absurd hi (by omega)⟩
  | k + 1, hk => by
    have hw := wrAt_ok hP (k := k) (by omega)
    have ih := seen_or hA hD hP hpl k (by omega)
    rw [seenK, putB_getD (seenK_length hA hD hP k (by omega)) hw.1 (getB_length hD hw.1) hpl]
    by_cases h : p / 64 = (wrAt P k).1
    · rw [if_pos h, ← h, getB_getD]; exact .inl rfl
    · rw [if_neg h]
      rcases ih with e | ⟨e, hn⟩
      · exact .inl e
      · exact .inr ⟨e, fun i hi => by
          by_cases hik : i = k
          · subst hik; exact fun e => h e.symm
          · exact hn i (by omega)⟩
theorem good_last {S : List Int} {P : List Wr} {picks : List Int} (hS : S.length = 64 * 8) (hP : okW 8 P) (hp : isBytes picks) (p : Nat) (hpl : p < 512) :
    Good S P p ((seenK (applyK S P P.length) (crashK S P picks P.length) P P.length).getD p 0) := by
  rcases seen_or (applyK_length hS hP P.length (Nat.le_refl _)) (crashK_length (picks := picks) hS hP hp P.length (Nat.le_refl _)) hP hpl P.length (Nat.le_refl _) with e | ⟨e, hn⟩
  · rw [e]; exact good_crash hS hP hp P.length (Nat.le_refl _) p hpl
  · rw [e, apply_else hS hP hpl P.length (Nat.le_refl _) hn]; exact .inl rfl
theorem applyK_snoc (S : List Int) (P : List Wr) (x : Wr) : ∀ k, k ≤ P.length → applyK S (P ++ [x]) k = applyK S P k
  | 0, _ => rfl
  | k + 1, h => by
    have e : wrAt (P ++ [x]) k = wrAt P k := by
      unfold wrAt
      rw [List.getD_eq_getElem?_getD, List.getD_eq_getElem?_getD, List.getElem?_append_left (by omega)]
    rw [applyK, applyK, applyK_snoc S P x k (by omega), e]
theorem applyK_last (S : List Int) (P : List Wr) (x : Wr) : applyK S (P ++ [x]) (P.length + 1) = putB (applyK S P P.length) x.1 x.2 := by
  have e : wrAt (P ++ [x]) P.length = x := by
    unfold wrAt
    rw [List.getD_eq_getElem?_getD, List.getElem?_append_right (Nat.le_refl _), Nat.sub_self]
    rfl
  rw [applyK, applyK_snoc S P x P.length (Nat.le_refl _), e]
def allW (S : List Int) (cs : List Cl) (k : Nat) : List Int := applyK S (wrs cs k) (wrs cs k).length
theorem allW_next (S : List Int) (cs : List Cl) (k : Nat) (c : Cl) (h : cs[k]? = some c) : allW S cs (k + 1) = putB (allW S cs k) (sec c) c.block := by
  unfold allW
  rw [wrs_next cs k c h, List.length_append]
  exact applyK_last S (wrs cs k) (sec c, c.block)
/-- Is a byte as it was, or one that one of the first i calls wrote there? -/
def fnK (cs : List Cl) (p : Nat) (x y : Int) : Nat → Bool
  | 0 => decide (x = y)
  | i + 1 => fnK cs p x y i || (decide (sec (cs.getD i ⟨0, 0, [], []⟩) = p / 64) && decide ((cs.getD i ⟨0, 0, [], []⟩).block.getD (p % 64) 0 = x))
theorem fnK_mono (cs : List Cl) (p : Nat) (x y : Int) {i j : Nat} (h : i ≤ j) (hi : fnK cs p x y i = true) : fnK cs p x y j = true := by
  induction j with
  | zero => rw [show i = 0 by omega] at hi; exact hi
  | succ j ih =>
    by_cases e : i = j + 1
    · subst e; exact hi
    · rw [fnK, ih (by omega)]; rfl
theorem wrs_at (cs : List Cl) {i : Nat} (h : i < cs.length) : wrAt (wrs cs cs.length) i = (sec (cs.getD i ⟨0, 0, [], []⟩), (cs.getD i ⟨0, 0, [], []⟩).block) := by
  unfold wrAt wrs
  rw [List.getD_eq_getElem?_getD, List.getD_eq_getElem?_getD, List.take_length, List.getElem?_map, List.getElem?_eq_getElem h]
  rfl
theorem fnK_good {cs : List Cl} {S : List Int} {p : Nat} {x : Int} (h : Good S (wrs cs cs.length) p x) : fnK cs p x (S.getD p 0) cs.length = true := by
  rcases h with h | ⟨i, hi, h1, h2⟩
  · exact fnK_mono cs p x _ (Nat.zero_le _) (decide_eq_true h)
  · have hi' : i < cs.length := by rw [wrs_length cs cs.length (Nat.le_refl _)] at hi; exact hi
    rw [wrs_at cs hi'] at h1 h2
    refine fnK_mono cs p x _ (show i + 1 ≤ cs.length by omega) ?_
    rw [fnK, decide_eq_true h1, decide_eq_true h2]
    simp
theorem wrs_ok (cs : List Cl) (k : Nat) (h : ∀ c ∈ cs, c.block.length = 64) : okW 8 (wrs cs k) := fun x hx => by
  obtain ⟨c, hc, rfl⟩ := List.mem_map.1 hx
  exact ⟨sec_lt c, h c (List.mem_of_mem_take hc)⟩
end Go.Proofs.Ytpbilngjjlabiaa
