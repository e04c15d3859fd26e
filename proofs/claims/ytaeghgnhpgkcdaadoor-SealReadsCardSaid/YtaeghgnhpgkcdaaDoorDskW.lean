/- package disk: has, Pending, Size, Limit, Write. -/
import Derived.Test.YtaeghgnhpgkcdaaDoorDskB
namespace Go.Proofs.YtaeghgnhpgkcdaaDoor
open Go Go.RowKit
set_option maxRecDepth 100000

theorem exec_of {P : Program} {a : Act} {w w' : World} {op : Oper} (s : Sem Value) (v : Value) (h : execOp a.eval op = (s >>= fun x => pure (.value x))) (hr : s.run P w = .ok v w') : (execOp a.eval op).run P w = .ok (.value v) w' := by
  rw [h, Sem.run_bind, hr]; rfl
theorem elemBlocks : Tryd.prog.underlying 23 = some (.slice (Tryd.prog.elem 23)) := by kernel_rfl
theorem run_at_block (B off n cap m : Nat) (hm : m < n) (w : World) : (Instr.indexAt 23 (.slice (some ⟨B, off, none⟩) n cap) (.int .i64 (m : Int))).run Tryd.prog w = .ok (.pointer (some ⟨B, off + 64 * m, none⟩)) w := by
  rw [run_indexAt_slice w 23 _ _ _ _ _ elemBlocks]
  have hz : (sizeOf (Tryd.prog.elem 23)).run Tryd.prog w = .ok 64 w := by kernel_rfl
  rw [if_pos (by omega), hz, Result.andThen_ok, Addr.add_mid, Int.toNat_natCast, Nat.mul_comm]
theorem sizeBlock : (Tryd.prog.info? 37).map (·.size) = some 64 := by kernel_rfl
theorem infoBlk (l : List Int) (h : l.length = 64) : (Tryd.prog.info? 37).map (·.size) = some (ints .u8 l).length := by rw [ints_length, h]; exact sizeBlock
/-- A sector of zeros. -/
def zB : List Int := List.replicate 64 0
theorem zB_length : zB.length = 64 := rfl
def zW : List Value := .int .i64 0 :: ints .u8 zB
theorem infoBlock3 : (Tryd.prog.info? 37).map (fun i => (i.zero, i.size, i.bytes)) = some (some (.agg (ints .u8 zB).toArray), 64, 64) := by kernel_rfl
section
variable {w : World} {d sz sB dB sc dc : Nat} {rs rd : List Value} {pv : Value} {seen dur : List Int} {pend : List Wr} {left : Int}
end
end Go.Proofs.YtaeghgnhpgkcdaaDoor
