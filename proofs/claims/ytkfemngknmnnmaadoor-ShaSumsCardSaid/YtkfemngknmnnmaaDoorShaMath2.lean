/- What the padding is, place by place: plain lemmas; nothing about the program. -/
import Derived.Test.YtkfemngknmnnmaaDoorShaMath
namespace Go.Proofs.YtkfemngknmnnmaaDoor
open Go
namespace Sha
theorem padSize_mod (n : Nat) : (n + padSize n) % 64 = 0 := by unfold padSize; split <;> omega
/-- The padding's bytes while its length is filled in. -/
theorem padTo_get (n k i : Nat) (hk : k ≤ 8) (hi : i < padSize n) : (padTo n k)[i]? = some (if i = 0 then 128 else if padSize n - k ≤ i then (n : Int) * 8 / 2 ^ (8 * (padSize n - 1 - i)) % 256 else 0) := by
  have hb := padSize_bounds n
  induction k with
  | zero =>
    rw [padTo, List.getElem?_set]
    by_cases h0 : 0 = i
    · subst h0; simp; omega
    · rw [if_neg h0, List.getElem?_replicate, if_pos hi, if_neg (by omega), if_neg (by omega)]
  | succ k ih =>
    rw [padTo, List.getElem?_set, padTo_length]
    by_cases h0 : padSize n - 1 - k = i
    · rw [if_pos h0, if_pos (by omega), if_neg (by omega), if_pos (by omega), show padSize n - 1 - i = k by omega]
    · rw [if_neg h0, ih (by omega)]
      by_cases h1 : i = 0
      · rw [if_pos h1, if_pos h1]
      · rw [if_neg h1, if_neg h1]
        by_cases h2 : padSize n - k ≤ i
        · rw [if_pos h2, if_pos (by omega)]
        · rw [if_neg h2, if_neg (by omega)]
theorem pad_get (n i : Nat) (hi : i < padSize n) : (pad n)[i]? = some (if i = 0 then 128 else if padSize n - 8 ≤ i then (n : Int) * 8 / 2 ^ (8 * (padSize n - 1 - i)) % 256 else 0) := padTo_get n 8 i (by omega) hi
theorem pad_zero (n : Nat) : (pad n)[0]? = some 128 := by
  have hb := padSize_bounds n
  rw [pad_get n 0 (by omega)]; rfl
/-- What ShaPads has gathered of the length when it comes to a place. -/
def gathered (n z k : Nat) : Int := (n : Int) * 8 / 2 ^ (8 * (z - max k (z - 8)))
theorem gathered_early (n z k : Nat) (hn : n ≤ 1125899906842624) (hz : 9 ≤ z) (hk : k ≤ z - 8) : gathered n z k = 0 := by
  unfold gathered
  rw [show z - max k (z - 8) = 8 by omega]
  apply Int.ediv_eq_zero_of_lt (by omega)
  have : (2 : Int) ^ (8 * 8) = 18446744073709551616 := by decide
  omega
theorem gathered_last (n z : Nat) : gathered n z z = (n : Int) * 8 := by
  unfold gathered
  rw [show z - max z (z - 8) = 0 by omega]; simp
theorem gathered_bound (n z k : Nat) (hn : n ≤ 1125899906842624) : 0 ≤ gathered n z k ∧ gathered n z k ≤ 9007199254740992 := by
  unfold gathered
  have h1 : (0 : Int) < 2 ^ (8 * (z - max k (z - 8))) := Int.pow_pos (by decide)
  refine ⟨Int.ediv_nonneg (by omega) (by omega), ?_⟩
  have := Int.ediv_le_self (2 ^ (8 * (z - max k (z - 8)))) (show (0 : Int) ≤ (n : Int) * 8 by omega)
  omega
theorem gathered_step (n z k : Nat) (h1 : z - 8 ≤ k) (h2 : k < z) : gathered n z k * 256 + (n : Int) * 8 / 2 ^ (8 * (z - 1 - k)) % 256 = gathered n z (k + 1) := by
  unfold gathered
  rw [show z - max k (z - 8) = z - 1 - k + 1 by omega, show z - max (k + 1) (z - 8) = z - 1 - k by omega, show 8 * (z - 1 - k + 1) = 8 * (z - 1 - k) + 8 by omega, Int.pow_add, ← Int.ediv_ediv_of_nonneg (Int.le_of_lt (Int.pow_pos (by decide)))]
  have : (2 : Int) ^ 8 = 256 := by decide
  rw [this]
  omega
theorem i64_or_join (g x : Int) (h0 : 0 ≤ g) (h1 : g ≤ 9007199254740992) (h2 : 0 ≤ x) (h3 : x < 256) : bits BinOp.or IntKind.i64 (g * 256) x = g * 256 + x := by
  obtain ⟨a, rfl⟩ := Int.eq_ofNat_of_zero_le h0
  obtain ⟨b, rfl⟩ := Int.eq_ofNat_of_zero_le h2
  show IntKind.i64.wrap ((BitVec.ofInt 64 (((a * 256 : Nat)) : Int) ||| BitVec.ofInt 64 (b : Int)).toNat : Int) = _
  rw [BitVec.toNat_or, ofInt_u64 (a * 256) (by omega), ofInt_u64 b (by omega), nat_join 8 (a * 256) b (by omega) (by omega)]
  exact IntWalk.i64_in _ (by omega)
end Sha
end Go.Proofs.YtkfemngknmnnmaaDoor
