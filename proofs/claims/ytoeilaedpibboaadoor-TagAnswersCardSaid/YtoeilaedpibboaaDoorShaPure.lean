/- The pure functions of package sha (rotations, sigmas, choose, majority) return what ShaSpec's plain functions say, for all words, and leave the world alone. -/
import Derived.Test.YtoeilaedpibboaaDoorProg
import Derived.Test.YtoeilaedpibboaaDoorShaSpec
import Derived.WalkKit
import Derived.WalkLawsBesides
import Derived.Lib.Hide
namespace Go.Proofs.YtoeilaedpibboaaDoor
open Go.RowKit

theorem ret_int {k : IntKind} {a b : Int} (h : a = b) : Ending.returned (.int k a) = .returned (.int k b) := by rw [h]

theorem rotl_walk (x k s : Int) (hs : bits BinOp.and IntKind.u64 (IntKind.u64.wrap k) 31 = s) (h0 : 0 ≤ s) (h1 : s ≤ 31) (w : World) :
    Calls Tryd.prog 84 #[.int .u32 x, .int .i64 k] w fun e w' => e = .returned (.int .u32 (bits BinOp.or IntKind.u32 (x * 2 ^ s.toNat % 4294967296) (x / 2 ^ (32 - s).toNat))) ∧ w = w' := by
  go_enter Tryd.func84, Tryd.ntmps84
  go_wp2
  go_ret
  exact ⟨rfl, rfl⟩
theorem rotr_walk (x : Int) (n : Nat) (h1 : 1 ≤ n) (h2 : n ≤ 31) (w : World) :
    Calls Tryd.prog 82 #[.int .u32 x, .int .i64 (n : Int)] w fun e w' => e = .returned (.int .u32 (Sha.rot x n)) ∧ w = w' := by
  have hm := Lib.hid (Sha.neg_mask n h1 h2)
  go_enter Tryd.func82, Tryd.ntmps82
  go_wp2_with fail
  refine (rotl_walk x (-(n : Int)) ((32 - n : Nat) : Int) hm.out (by omega) (by omega) _).mono ?_
  rintro e w' ⟨rfl, rfl⟩
  go_wp2
  go_ret
  refine ⟨ret_int ?_, rfl⟩
  unfold Sha.rot
  rw [show 32 - (32 - n) = n by omega]
theorem choose_walk (x y z : Int) (w : World) :
    Calls Tryd.prog 75 #[.int .u32 x, .int .u32 y, .int .u32 z] w fun e w' => e = .returned (.int .u32 (Sha.cho x y z)) ∧ w = w' := by
  go_enter Tryd.func75, Tryd.ntmps75
  go_wp2
  go_ret
  exact ⟨rfl, rfl⟩
theorem majority_walk (x y z : Int) (w : World) :
    Calls Tryd.prog 77 #[.int .u32 x, .int .u32 y, .int .u32 z] w fun e w' => e = .returned (.int .u32 (Sha.maj x y z)) ∧ w = w' := by
  go_enter Tryd.func77, Tryd.ntmps77
  go_wp2
  go_ret
  exact ⟨rfl, rfl⟩
theorem smalls0_walk (x : Int) (w : World) :
    Calls Tryd.prog 80 #[.int .u32 x] w fun e w' => e = .returned (.int .u32 (Sha.ssig0 x)) ∧ w = w' := by
  go_enter Tryd.func80, Tryd.ntmps80
  go_wp2_with fail
  refine (rotr_walk x 7 (by omega) (by omega) _).mono ?_
  rintro e w' ⟨rfl, rfl⟩
  go_wp2_with fail
  refine (rotr_walk x 18 (by omega) (by omega) _).mono ?_
  rintro e w' ⟨rfl, rfl⟩
  go_wp2
  go_ret
  exact ⟨rfl, rfl⟩
theorem smalls1_walk (x : Int) (w : World) :
    Calls Tryd.prog 81 #[.int .u32 x] w fun e w' => e = .returned (.int .u32 (Sha.ssig1 x)) ∧ w = w' := by
  go_enter Tryd.func81, Tryd.ntmps81
  go_wp2_with fail
  refine (rotr_walk x 17 (by omega) (by omega) _).mono ?_
  rintro e w' ⟨rfl, rfl⟩
  go_wp2_with fail
  refine (rotr_walk x 19 (by omega) (by omega) _).mono ?_
  rintro e w' ⟨rfl, rfl⟩
  go_wp2
  go_ret
  exact ⟨rfl, rfl⟩
theorem bigs0_walk (x : Int) (w : World) :
    Calls Tryd.prog 76 #[.int .u32 x] w fun e w' => e = .returned (.int .u32 (Sha.bsig0 x)) ∧ w = w' := by
  go_enter Tryd.func76, Tryd.ntmps76
  go_wp2_with fail
  refine (rotr_walk x 2 (by omega) (by omega) _).mono ?_
  rintro e w' ⟨rfl, rfl⟩
  go_wp2_with fail
  refine (rotr_walk x 13 (by omega) (by omega) _).mono ?_
  rintro e w' ⟨rfl, rfl⟩
  go_wp2_with fail
  refine (rotr_walk x 22 (by omega) (by omega) _).mono ?_
  rintro e w' ⟨rfl, rfl⟩
  go_wp2
  go_ret
  exact ⟨rfl, rfl⟩
theorem bigs1_walk (x : Int) (w : World) :
    Calls Tryd.prog 74 #[.int .u32 x] w fun e w' => e = .returned (.int .u32 (Sha.bsig1 x)) ∧ w = w' := by
  go_enter Tryd.func74, Tryd.ntmps74
  go_wp2_with fail
  refine (rotr_walk x 6 (by omega) (by omega) _).mono ?_
  rintro e w' ⟨rfl, rfl⟩
  go_wp2_with fail
  refine (rotr_walk x 11 (by omega) (by omega) _).mono ?_
  rintro e w' ⟨rfl, rfl⟩
  go_wp2_with fail
  refine (rotr_walk x 25 (by omega) (by omega) _).mono ?_
  rintro e w' ⟨rfl, rfl⟩
  go_wp2
  go_ret
  exact ⟨rfl, rfl⟩
end Go.Proofs.YtoeilaedpibboaaDoor
