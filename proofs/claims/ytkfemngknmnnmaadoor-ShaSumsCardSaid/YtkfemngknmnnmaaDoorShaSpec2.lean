/- What package sha makes of a state, of bytes and of a length, as plain functions: the digest's bytes, the padding, the hash of bytes; nothing is proved here about the program. -/
import Derived.Test.YtkfemngknmnnmaaDoorShaSpec
namespace Go.Proofs.YtkfemngknmnnmaaDoor.Sha
open Go

/-- A word's bytes, the greatest first, put in their places. -/
def putWord (ds : List Int) (k : Nat) (x : Int) : List Int :=
  (((ds.set (4 * k) (x / 16777216 % 256)).set (4 * k + 1) (x / 65536 % 256)).set (4 * k + 2) (x / 256 % 256)).set (4 * k + 3) (x % 256)
def digestTo (l : List Int) : Nat → List Int
  | 0 => List.replicate 32 0
  | n + 1 => putWord (digestTo l n) n (l[n]?.getD 0)
def digest (l : List Int) : List Int := digestTo l 8
theorem digestTo_length (l : List Int) (n : Nat) : (digestTo l n).length = 32 := by
  induction n with
  | zero => simp [digestTo]
  | succ n ih => simp [digestTo, putWord, ih]
/-- How many bytes stand behind n bytes. -/
def padSize (n : Nat) : Nat := if 64 - n % 64 < 9 then 128 - n % 64 else 64 - n % 64
def padTo (n : Nat) : Nat → List Int
  | 0 => (List.replicate (padSize n) 0).set 0 128
  | k + 1 => (padTo n k).set (padSize n - 1 - k) ((n : Int) * 8 / 2 ^ (8 * k) % 256)
/-- What stands behind n bytes. -/
def pad (n : Nat) : List Int := padTo n 8
theorem padSize_bounds (n : Nat) : 9 ≤ padSize n ∧ padSize n ≤ 72 := by unfold padSize; split <;> omega
theorem padTo_length (n k : Nat) : (padTo n k).length = padSize n := by
  induction k with
  | zero => simp [padTo]
  | succ k ih => simp [padTo, ih]
/-- Some bytes laid over others from a place on. -/
def over (buf : List Int) (r : Nat) (cs : List Int) : List Int := buf.take r ++ cs ++ buf.drop (r + cs.length)
theorem over_length {buf cs : List Int} {r : Nat} (h : r + cs.length ≤ buf.length) : (over buf r cs).length = buf.length := by
  simp [over]; omega
end Go.Proofs.YtkfemngknmnnmaaDoor.Sha
