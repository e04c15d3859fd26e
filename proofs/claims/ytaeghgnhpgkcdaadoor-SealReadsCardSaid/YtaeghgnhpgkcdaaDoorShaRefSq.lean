/- The reference's square: the first state by square roots. -/
import Derived.Test.YtaeghgnhpgkcdaaDoorShaRefT
namespace Go.Proofs.YtaeghgnhpgkcdaaDoor
open Go.RowKit
set_option maxRecDepth 100000

def sqX (y : Int) (m : Nat) : Int := IntKind.u64.wrap (y + IntKind.u64.wrap (2 ^ m))
def sqLo (x : Int) : Int := bits BinOp.and IntKind.u64 x 4294967295
def sqMid (x : Int) : Int := IntKind.u64.wrap (IntKind.u64.wrap (IntKind.u64.wrap (2 * (x / 4294967296)) * sqLo x) + IntKind.u64.wrap (sqLo x * sqLo x) / 4294967296)
def sqTop (x : Int) : Int := IntKind.u64.wrap (IntKind.u64.wrap (x / 4294967296 * (x / 4294967296)) + sqMid x / 4294967296)
def sqRest (x : Int) : Int := bits BinOp.or IntKind.u64 (IntKind.u64.wrap (bits BinOp.and IntKind.u64 (sqMid x) 4294967295 * 4294967296)) (bits BinOp.and IntKind.u64 (IntKind.u64.wrap (sqLo x * sqLo x)) 4294967295)
def sqStep (p y : Int) (m : Nat) : Int := if p ≤ sqTop (sqX y m) then (if sqTop (sqX y m) = p then (if (sqRest (sqX y m) == 0) = true then sqX y m else y) else y) else sqX y m
/-- The root while the bits 35 down to m are tried. -/
def sqRun (p : Int) : Nat → Int → Int
  | 0, y => y
  | m + 1, y => sqRun p m (sqStep p y m)

theorem square_walk (p : Int) (w : World) :
    Calls Tryd.prog 51 #[.int .u64 p] w fun e w' => e = .returned (.int .u32 (IntKind.u32.wrap (sqRun p 36 0))) ∧ w = w' := by
  go_enter Tryd.func51, Tryd.ntmps51
  go_wp2
  go_loopw [3, 4] (fun x i wr => ∃ (m : Nat) (z y : Int), m ≤ 36 ∧ i = .int .i64 z ∧ z = (m : Int) - 1 ∧ x = .int .u64 y ∧ sqRun p m y = sqRun p 36 0 ∧ wr = w) (fun _ i _ => (intOf i + 1).toNat)
  case atStart => exact ⟨36, 35, 0, by omega, rfl, rfl, rfl, rfl, rfl⟩
  case round =>
    obtain ⟨m, z, y, hm, rfl, hz, rfl, hr, rfl⟩ := hrel
    have HR := Lib.hid hr
    clear hr
    cases m with
    | zero =>
      have : z = -1 := by omega
      subst this; clear hz
      go_wp2
      go_ret
      exact ⟨by rw [← HR.out]; rfl, rfl⟩
    | succ m =>
      have : z = (m : Int) := by omega
      subst this; clear hz
      have q1 : 0 ≤ (m : Int) := by omega
      have q2 : (m : Int) < 64 := by omega
      go_wp2
      all_goals
        refine ⟨⟨m, (m : Int) - 1, sqStep p y m, by omega, rfl, rfl, ?_, HR.out, ?_⟩, ?_⟩
        · unfold sqStep
          repeat' split
          all_goals first
            | rfl
            | contradiction
            | (have h1 : (sqRest (sqX y m) == 0) = false := by assumption
               have h2 : (sqRest (sqX y m) == 0) = true := by assumption
               rw [h1] at h2; cases h2)
        · trivial
        · simp [intOf]
theorem sqRun_iv : [2, 3, 5, 7, 11, 13, 17, 19].map (fun p => IntKind.u32.wrap (sqRun p 36 0)) = Sha.iv := by kernel_rfl
end Go.Proofs.YtaeghgnhpgkcdaaDoor
