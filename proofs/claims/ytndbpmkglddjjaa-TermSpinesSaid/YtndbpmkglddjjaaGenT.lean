/- Steps of a plain region, said shortly. -/
import Derived.Test.YtndbpmkglddjjaaGenS
namespace Go.Proofs.Ytndbpmkglddjjaa
open Go Go.RowKit
section
variable {P : Program} {ops : Array Oper} {Q : Exit → Act → World → Prop} {a : Act} {w : World}
theorem lnow (i : Nat) (v : Value) (d : Option Tmp) (h : wpFrom P ops Q (i + 1) (a.put d v) w) (hi : (ops[i]?.isSome && Region.wanted (opAt ops i) (yielded ops a.tmps)) = true := by kernel_rfl) (hd : (opAt ops i).dst = d := by kernel_rfl)
    (hrun : (execOp a.eval (opAt ops i)).run P w = .ok (.value v) w := by kernel_rfl) : wpFrom P ops Q i a w := lin_now i v d hi hd hrun h
theorem lnowP (i : Nat) (v : Value) (d : Option Tmp) (hrun : (execOp a.eval (opAt ops i)).run P w = .ok (.value v) w) (h : wpFrom P ops Q (i + 1) (a.put d v) w) (hi : (ops[i]?.isSome && Region.wanted (opAt ops i) (yielded ops a.tmps)) = true := by kernel_rfl) (hd : (opAt ops i).dst = d := by kernel_rfl) : wpFrom P ops Q i a w := lin_now i v d hi hd hrun h
theorem lpas (i : Nat) (d : Option Tmp) (h : wpFrom P ops Q (i + 1) (a.put d undef) w) (hi : (ops[i]?.isSome && !Region.wanted (opAt ops i) (yielded ops a.tmps)) = true := by kernel_rfl) (hd : (opAt ops i).dst = d := by kernel_rfl) : wpFrom P ops Q i a w := lin_pass i d hi hd h
end
end Go.Proofs.Ytndbpmkglddjjaa
