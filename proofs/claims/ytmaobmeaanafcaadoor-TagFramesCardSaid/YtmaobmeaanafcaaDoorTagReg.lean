/- Steps through a region that draws its order where two operations may come up: both ways are shown. General lemmas on the model. -/
import Derived.Test.YtmaobmeaanafcaaDoorTagIns
namespace Go.Proofs.YtmaobmeaanafcaaDoor
open Go Go.RowKit

section
variable {P : Program} {ops : Array Oper} {Q : Exit → Act → World → Prop} {S : World → Prop} {fuel : Nat} {listed : Array Bool} {a : Act} {w : World}
/-- Two operations may come up: whichever does. -/
theorem reg_two (i j : Nat) (hr : (Region.ready .any ops listed == [i, j]) = true)
    (h1 : wpOp P ops Q i (fun a' w' => S w' ∧ wpAnyH P .any ops Q S fuel (listed.setIfInBounds i true) a' w') a w) (h2 : wpOp P ops Q j (fun a' w' => S w' ∧ wpAnyH P .any ops Q S fuel (listed.setIfInBounds j true) a' w') a w) : wpAnyH P .any ops Q S (fuel + 1) listed a w :=
  wpAnyH_two (beq_iff_eq.1 hr) h1 h2
/-- One of them gives a value, and may change the world. -/
theorem op_value (i : Nat) (v : Value) (d : Option Tmp) (w' : World) {K : Act → World → Prop} (hi : (ops[i]?.isSome && Region.wanted (opAt ops i) (yielded ops a.tmps)) = true) (hd : (opAt ops i).dst = d)
    (hrun : (execOp a.eval (opAt ops i)).run P w = .ok (.value v) w') (h : K (a.put d v) w') : wpOp P ops Q i K a w := by
  simp only [Bool.and_eq_true] at hi
  subst hd
  exact wpOp_value v (get_opAt hi.1) hi.2 hrun h
/-- One of them is a call by a contract. -/
theorem op_call (i : Nat) (f : FuncId) (args : Array Value) (d : Option Tmp) (R : Ending → World → Prop) {K : Act → World → Prop} (hi : (ops[i]?.isSome && Region.wanted (opAt ops i) (yielded ops a.tmps)) = true) (hd : (opAt ops i).dst = d)
    (hrun : (execOp a.eval (opAt ops i)).run P w = .ok (.enter f args) w) (hc : Calls P f args w R) (h : ∀ e w', R e w' → ∃ v, e = .returned v ∧ K (a.put d v) w') : wpOp P ops Q i K a w := by
  simp only [Bool.and_eq_true] at hi
  subst hd
  exact wpOp_callE f args R (get_opAt hi.1) hi.2 hrun hc h
/-- The same place, spelled otherwise. -/
theorem reg_cast {l' : Array Bool} {a' : Act} (hl : listed = l') (ha : a = a') (h : wpAnyH P .any ops Q S fuel l' a' w) : wpAnyH P .any ops Q S fuel listed a w := by
  subst hl; subst ha; exact h
end
end Go.Proofs.YtmaobmeaanafcaaDoor
