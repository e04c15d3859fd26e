/- The small functions of stage 8's laws: SameTexts, Num, Param, variable, constant, Great, same. -/
import Derived.Test.YtdacmogedchnaaaQTrmY
import Derived.Test.YtdacmogedchnaaaQTrmZ
namespace Go.Proofs.Ytdacmogedchnaaa
open Go Go.RowKit
set_option maxRecDepth 100000
theorem elemStrs : Try.prog.underlying 42 = some (.slice (Try.prog.elem 42)) := by kernel_rfl
theorem run_at_str (B off n cap m : Nat) (hm : m < n) (w : World) : (Instr.indexAt 42 (.slice (some ⟨B, off, none⟩) n cap) (.int .i64 (m : Int))).run Try.prog w = .ok (.pointer (some ⟨B, off + m, none⟩)) w := by
 rw [run_indexAt_slice w 42 _ _ _ _ _ elemStrs]
 have hz : (sizeOf (Try.prog.elem 42)).run Try.prog w = .ok 1 w := by kernel_rfl
 rw [if_pos (by omega), hz, Result.andThen_ok, Addr.add_mid, Int.toNat_natCast, Nat.mul_one]
/-- A slice of strings. -/
def StrsAt (w : World) (v : Value) (l : List (List UInt8)) : Prop := ∃ b o c, v = .slice (some ⟨b, o, none⟩) l.length c ∧ w.rangeAt b o (l.map strT)
theorem StrsAt.cell {w : World} {b o : Nat} {l : List (List UInt8)} (h : w.rangeAt b o (l.map strT)) {i : Nat} {s : List UInt8} (hi : l[i]? = some s) : w.cell? ⟨b, o + i, none⟩ = some (strT s) := h i _ (by rw [List.getElem?_map, hi]; rfl)
end Go.Proofs.Ytdacmogedchnaaa
