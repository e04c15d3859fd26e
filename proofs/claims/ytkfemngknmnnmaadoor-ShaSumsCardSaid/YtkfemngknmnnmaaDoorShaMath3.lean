/- What a digest is, byte by byte: plain lemmas; nothing about the program. -/
import Derived.Test.YtkfemngknmnnmaaDoorShaMath2
namespace Go.Proofs.YtkfemngknmnnmaaDoor
open Go
namespace Sha
theorem putWord_get (ds : List Int) (k : Nat) (x : Int) (hk : 4 * k + 3 < ds.length) (i : Nat) :
    (putWord ds k x)[i]? = if i / 4 = k then some (x / 2 ^ (24 - 8 * (i % 4)) % 256) else ds[i]? := by
  unfold putWord
  simp only [List.getElem?_set, List.length_set]
  by_cases h : i / 4 = k
  · rw [if_pos h]
    rcases (by omega : i % 4 = 0 ∨ i % 4 = 1 ∨ i % 4 = 2 ∨ i % 4 = 3) with r | r | r | r
    · have e : i = 4 * k := by omega
      subst e
      rw [r, if_neg (by omega), if_neg (by omega), if_neg (by omega), if_pos rfl, if_pos (by omega)]
      simp
    · have e : i = 4 * k + 1 := by omega
      subst e
      rw [r, if_neg (by omega), if_neg (by omega), if_pos rfl, if_pos (by omega)]
      simp
    · have e : i = 4 * k + 2 := by omega
      subst e
      rw [r, if_neg (by omega), if_pos rfl, if_pos (by omega)]
      simp
    · have e : i = 4 * k + 3 := by omega
      subst e
      rw [r, if_pos rfl, if_pos (by omega)]
      simp
  · rw [if_neg h, if_neg (by omega), if_neg (by omega), if_neg (by omega), if_neg (by omega)]
theorem digestTo_get (l : List Int) (k i : Nat) (hk : k ≤ 8) (hi : i < 4 * k) : (digestTo l k)[i]? = some (l[i / 4]?.getD 0 / 2 ^ (24 - 8 * (i % 4)) % 256) := by
  induction k with
  | zero => omega
  | succ k ih =>
    rw [digestTo, putWord_get _ _ _ (by rw [digestTo_length]; omega)]
    by_cases h : i / 4 = k
    · rw [if_pos h, h]
    · rw [if_neg h]; exact ih (by omega) (by omega)
theorem digest_get (l : List Int) (i : Nat) (hi : i < 32) : (digest l)[i]? = some (l[i / 4]?.getD 0 / 2 ^ (24 - 8 * (i % 4)) % 256) := digestTo_get l 8 i (by omega) (by omega)
theorem i64_and3 (i : Nat) (hi : i < 32) : bits BinOp.and IntKind.i64 (i : Int) 3 = ((i % 4 : Nat) : Int) := by
  have h : ∀ m : Fin 32, bits BinOp.and IntKind.i64 ((m.val : Nat) : Int) 3 = ((m.val % 4 : Nat) : Int) := by decide
  exact h ⟨i, hi⟩
end Sha
end Go.Proofs.YtkfemngknmnnmaaDoor
