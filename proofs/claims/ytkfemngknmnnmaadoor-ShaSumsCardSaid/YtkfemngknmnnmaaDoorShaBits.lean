/- Bitwise identities on words: the reference's forms of choose, majority and of a turned word are the program's. Plain lemmas; nothing about the program. -/
import Derived.Test.YtkfemngknmnnmaaDoorShaSpec
namespace Go.Proofs.YtkfemngknmnnmaaDoor.Sha
open Go

theorem wrap32 (n : Nat) (h : n < 4294967296) : IntKind.u32.wrap (n : Int) = (n : Int) := by
  simp [IntKind.wrap, IntKind.bits, IntKind.signed]; omega
theorem bits_and32 (a b : Int) : bits BinOp.and IntKind.u32 a b = ((BitVec.ofInt 32 a &&& BitVec.ofInt 32 b).toNat : Int) := wrap32 _ (BitVec.isLt _)
theorem bits_or32 (a b : Int) : bits BinOp.or IntKind.u32 a b = ((BitVec.ofInt 32 a ||| BitVec.ofInt 32 b).toNat : Int) := wrap32 _ (BitVec.isLt _)
theorem bits_xor32 (a b : Int) : bits BinOp.xor IntKind.u32 a b = ((BitVec.ofInt 32 a ^^^ BitVec.ofInt 32 b).toNat : Int) := wrap32 _ (BitVec.isLt _)
theorem ofInt_back (x : BitVec 32) : BitVec.ofInt 32 (x.toNat : Int) = x := by simp
theorem or_comm32 (a b : Int) : bits BinOp.or IntKind.u32 a b = bits BinOp.or IntKind.u32 b a := by
  rw [bits_or32, bits_or32, BitVec.or_comm]
theorem max32 : BitVec.ofInt 32 IntKind.u32.max = BitVec.allOnes 32 := by decide
theorem cho_or (x y z : Int) : bits BinOp.or IntKind.u32 (bits BinOp.and IntKind.u32 x y) (bits BinOp.and IntKind.u32 (bits BinOp.xor IntKind.u32 IntKind.u32.max x) z) = cho x y z := by
  unfold cho
  simp only [bits_and32, bits_or32, bits_xor32, ofInt_back, max32]
  congr 2
  ext i hi
  simp only [BitVec.getElem_and, BitVec.getElem_or, BitVec.getElem_xor, BitVec.getElem_allOnes]
  cases (BitVec.ofInt 32 x)[i] <;> cases (BitVec.ofInt 32 y)[i] <;> cases (BitVec.ofInt 32 z)[i] <;> rfl
theorem maj_or (x y z : Int) : bits BinOp.or IntKind.u32 (bits BinOp.or IntKind.u32 (bits BinOp.and IntKind.u32 x y) (bits BinOp.and IntKind.u32 x z)) (bits BinOp.and IntKind.u32 y z) = maj x y z := by
  unfold maj
  simp only [bits_and32, bits_or32, bits_xor32, ofInt_back]
  congr 2
  ext i hi
  simp
  cases (BitVec.ofInt 32 x)[i] <;> cases (BitVec.ofInt 32 y)[i] <;> cases (BitVec.ofInt 32 z)[i] <;> rfl
theorem rot_turn (x : Int) (n : Nat) : bits BinOp.or IntKind.u32 (x / 2 ^ n) (x * 2 ^ (32 - n) % 4294967296) = rot x n := or_comm32 _ _
end Go.Proofs.YtkfemngknmnnmaaDoor.Sha
