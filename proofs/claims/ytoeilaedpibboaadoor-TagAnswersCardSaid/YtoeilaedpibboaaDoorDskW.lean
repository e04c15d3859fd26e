/- package disk: has, Pending, Size, Limit, Write. -/
import Derived.Test.YtoeilaedpibboaaDoorDskB
namespace Go.Proofs.YtoeilaedpibboaaDoor
open Go Go.RowKit
set_option maxRecDepth 100000

theorem exec_of {P : Program} {a : Act} {w w' : World} {op : Oper} (s : Sem Value) (v : Value) (h : execOp a.eval op = (s >>= fun x => pure (.value x))) (hr : s.run P w = .ok v w') : (execOp a.eval op).run P w = .ok (.value v) w' := by
  rw [h, Sem.run_bind, hr]; rfl
/-- A sector of zeros. -/
def zB : List Int := List.replicate 64 0
theorem zB_length : zB.length = 64 := rfl
def zW : List Value := .int .i64 0 :: ints .u8 zB
section
variable {w : World} {d sz sB dB sc dc : Nat} {rs rd : List Value} {pv : Value} {seen dur : List Int} {pend : List Wr} {left : Int}
end
end Go.Proofs.YtoeilaedpibboaaDoor
