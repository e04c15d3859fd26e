/- What package sha computes, as plain functions of integers, in the forms in which the walk meets them: nothing is proved here about the program. -/
import Derived.WalkKit
namespace Go.Proofs.YtkfemngknmnnmaaDoor.Sha
open Go

/-- A word turned right by s places. -/
def rot (x : Int) (s : Nat) : Int := bits BinOp.or IntKind.u32 (x * 2 ^ (32 - s) % 4294967296) (x / 2 ^ s)
def ssig0 (x : Int) : Int := bits BinOp.xor IntKind.u32 (bits BinOp.xor IntKind.u32 (rot x 7) (rot x 18)) (x / 8)
def ssig1 (x : Int) : Int := bits BinOp.xor IntKind.u32 (bits BinOp.xor IntKind.u32 (rot x 17) (rot x 19)) (x / 1024)
def bsig0 (x : Int) : Int := bits BinOp.xor IntKind.u32 (bits BinOp.xor IntKind.u32 (rot x 2) (rot x 13)) (rot x 22)
def bsig1 (x : Int) : Int := bits BinOp.xor IntKind.u32 (bits BinOp.xor IntKind.u32 (rot x 6) (rot x 11)) (rot x 25)
def cho (x y z : Int) : Int := bits BinOp.xor IntKind.u32 (bits BinOp.and IntKind.u32 x y) (bits BinOp.and IntKind.u32 (bits BinOp.xor IntKind.u32 IntKind.u32.max x) z)
def maj (x y z : Int) : Int := bits BinOp.xor IntKind.u32 (bits BinOp.xor IntKind.u32 (bits BinOp.and IntKind.u32 x y) (bits BinOp.and IntKind.u32 x z)) (bits BinOp.and IntKind.u32 y z)

/-- A word of four bytes, the greatest first. -/
def word4 (a b c d : Int) : Int := bits BinOp.or IntKind.u32 (bits BinOp.or IntKind.u32 (bits BinOp.or IntKind.u32 (IntKind.u32.wrap (IntKind.u32.wrap a * 16777216)) (IntKind.u32.wrap (IntKind.u32.wrap b * 65536))) (IntKind.u32.wrap (IntKind.u32.wrap c * 256))) (IntKind.u32.wrap d)
def wordAt (bs : List Int) (t : Nat) : Int := word4 (bs[4 * t]?.getD 0) (bs[4 * t + 1]?.getD 0) (bs[4 * t + 2]?.getD 0) (bs[4 * t + 3]?.getD 0)
def firstWords (bs : List Int) : Nat → List Int
  | 0 => []
  | n + 1 => firstWords bs n ++ [wordAt bs n]
def nextWord (a b c d : Int) : Int := (a + ssig0 b + c + ssig1 d) % 4294967296
/-- The first 16 + n words of a block's schedule. -/
def sched (bs : List Int) : Nat → List Int
  | 0 => firstWords bs 16
  | n + 1 => sched bs n ++ [nextWord ((sched bs n)[n]?.getD 0) ((sched bs n)[n + 1]?.getD 0) ((sched bs n)[n + 9]?.getD 0) ((sched bs n)[n + 14]?.getD 0)]
theorem firstWords_length (bs : List Int) (n : Nat) : (firstWords bs n).length = n := by
  induction n with
  | zero => rfl
  | succ n ih => simp [firstWords, ih]
theorem sched_length (bs : List Int) (n : Nat) : (sched bs n).length = 16 + n := by
  induction n with
  | zero => exact firstWords_length bs 16
  | succ n ih => simp [sched, ih]; omega
theorem set_zeros (l : List Int) (m : Nat) (v : Int) : (l ++ List.replicate (m + 1) 0).set l.length v = (l ++ [v]) ++ List.replicate m 0 := by
  rw [List.set_append_right _ _ (Nat.le_refl _)]
  simp [List.replicate_succ]

/-- The round constants. -/
def K : List Int := [1116352408, 1899447441, 3049323471, 3921009573, 961987163, 1508970993, 2453635748, 2870763221, 3624381080, 310598401, 607225278, 1426881987, 1925078388, 2162078206, 2614888103, 3248222580, 3835390401, 4022224774, 264347078, 604807628, 770255983, 1249150122, 1555081692, 1996064986, 2554220882, 2821834349, 2952996808, 3210313671, 3336571891, 3584528711, 113926993, 338241895, 666307205, 773529912, 1294757372, 1396182291, 1695183700, 1986661051, 2177026350, 2456956037, 2730485921, 2820302411, 3259730800, 3345764771, 3516065817, 3600352804, 4094571909, 275423344, 430227734, 506948616, 659060556, 883997877, 958139571, 1322822218, 1537002063, 1747873779, 1955562222, 2024104815, 2227730452, 2361852424, 2428436474, 2756734187, 3204031479, 3329325298]

/-- The eight words while a block is compressed. -/
structure St where
  a : Int
  b : Int
  c : Int
  d : Int
  e : Int
  f : Int
  g : Int
  h : Int
def t1 (s : St) (k w : Int) : Int := (s.h + bsig1 s.e + cho s.e s.f s.g + k + w) % 4294967296
def t2 (s : St) : Int := (bsig0 s.a + maj s.a s.b s.c) % 4294967296
def step (s : St) (k w : Int) : St := ⟨(t1 s k w + t2 s) % 4294967296, s.a, s.b, s.c, (s.d + t1 s k w) % 4294967296, s.e, s.f, s.g⟩
def St.of (st : List Int) : St := ⟨st[0]?.getD 0, st[1]?.getD 0, st[2]?.getD 0, st[3]?.getD 0, st[4]?.getD 0, st[5]?.getD 0, st[6]?.getD 0, st[7]?.getD 0⟩
def St.list (s : St) : List Int := [s.a, s.b, s.c, s.d, s.e, s.f, s.g, s.h]
def steps (st bs : List Int) : Nat → St
  | 0 => St.of st
  | n + 1 => step (steps st bs n) (K[n]?.getD 0) ((sched bs 48)[n]?.getD 0)
def addTo (st : List Int) (l : List Int) : Nat → List Int
  | 0 => st
  | n + 1 => (addTo st l n).set n (((addTo st l n)[n]?.getD 0 + l[n]?.getD 0) % 4294967296)
/-- The state behind a block. -/
def compress (st bs : List Int) : List Int := addTo st (steps st bs 64).list 8
theorem addTo_length (st l : List Int) (n : Nat) : (addTo st l n).length = st.length := by
  induction n with
  | zero => rfl
  | succ n ih => simp [addTo, ih]

theorem neg_mask (n : Nat) (h1 : 1 ≤ n) (h2 : n ≤ 31) : bits BinOp.and IntKind.u64 (IntKind.u64.wrap (-(n : Int))) 31 = ((32 - n : Nat) : Int) := by
  have h : ∀ m : Fin 31, bits BinOp.and IntKind.u64 (IntKind.u64.wrap (-((m.val + 1 : Nat) : Int))) 31 = ((32 - (m.val + 1) : Nat) : Int) := by decide
  have := h ⟨n - 1, by omega⟩
  rwa [show n - 1 + 1 = n by omega] at this
end Go.Proofs.YtkfemngknmnnmaaDoor.Sha
