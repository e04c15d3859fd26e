/- The small functions of stage 8's laws: SameTexts, Num, Param, variable, constant, Great, same. -/
import Derived.Test.YteohjbggicchgaaKTrmY
import Derived.Test.YteohjbggicchgaaKTrmZ
namespace Go.Proofs.Yteohjbggicchgaa
open Go Go.RowKit
set_option maxRecDepth 100000
theorem elemStrs : Try.prog.underlying 99 = some (.slice (Try.prog.elem 99)) := by kernel_rfl
theorem run_at_str (B off n cap m : Nat) (hm : m < n) (w : World) : (Instr.indexAt 99 (.slice (some ⟨B, off, none⟩) n cap) (.int .i64 (m : Int))).run Try.prog w = .ok (.pointer (some ⟨B, off + m, none⟩)) w := by
 rw [run_indexAt_slice w 99 _ _ _ _ _ elemStrs]
 have hz : (sizeOf (Try.prog.elem 99)).run Try.prog w = .ok 1 w := by kernel_rfl
 rw [if_pos (by omega), hz, Result.andThen_ok, Addr.add_mid, Int.toNat_natCast, Nat.mul_one]
end Go.Proofs.Yteohjbggicchgaa
