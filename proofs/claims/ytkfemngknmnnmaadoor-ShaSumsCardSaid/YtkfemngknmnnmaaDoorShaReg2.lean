/- Steps through a region that draws its order, by the operations' numbers: each fact about the region's text is one that the kernel reckons. General lemmas on the model; nothing about the program. -/
import Derived.Test.YtkfemngknmnnmaaDoorShaReg
namespace Go.Proofs.YtkfemngknmnnmaaDoor
open Go Go.RowKit

/-- The operations of a function's region. -/
def codeRegion (id : Nat) : Code → Option (Array Oper)
  | .region i ops _ => if i = id then some ops else none
  | .seq a b => (codeRegion id a).orElse fun _ => codeRegion id b
  | .cond _ a b => (codeRegion id a).orElse fun _ => codeRegion id b
  | .block _ a => codeRegion id a
  | .loop a => codeRegion id a
  | .scope a => codeRegion id a
  | _ => none
def opsOf (f : Func) (id : Nat) : Array Oper := (f.body.bind (codeRegion id)).getD #[]
/-- The operation of a number. -/
def opAt (ops : Array Oper) (i : Nat) : Oper := ops[i]?.getD { dst := none, op := .move (.tmp 0), type := 0, pos := "", after := #[], guard := none }

section
variable {P : Program} {ops : Array Oper} {Q : Exit → Act → World → Prop} {S : World → Prop} {fuel : Nat} {listed : Array Bool} {a : Act} {w : World}

theorem get_opAt {i : Nat} (hi : ops[i]?.isSome = true) : ops[i]? = some (opAt ops i) := by
  unfold opAt
  cases h : ops[i]? with
  | none => rw [h] at hi; cases hi
  | some o => rfl

/-- THE BEGINNING: what holds behind the region is Q; on the way it is a Q' of which only what is needed is known: the way is shown not to panic. -/
theorem region_begin {id : Nat} {ops0 : Array Oper} (ops : Array Oper) (S : World → Prop) (he : ops0 = ops) (hm : P.follows .mixedOrders = true) (n : Nat) (hn : ops.size = n)
    (h : ∀ Q' : Exit → Act → World → Prop, (∀ c a w d v, Q' (.panic c) (a.put d v) w → Q' (.panic c) a w) → (∀ a w, Q .normal a w → Q' .normal a w) → wpAnyH P .any ops Q' S n (Array.replicate n false) a w.drew) : (Code.region id ops0 true).wp P Q a w := by
  subst he
  subst hn
  refine Code.wp_mono (Q := fun e a w => match e with | .normal => Q .normal a w | _ => False) (fun e a w he => ?_) (wp_region_held hm (h _ (fun _ _ _ _ _ h => h) (fun _ _ h => h)))
  cases e <;> first | exact he | exact False.elim he

/-- An operation that yields in every world is taken first. -/
theorem reg_now (i : Nat) (v : Value) (d : Option Tmp) (hQ : ∀ c a w d v, Q (.panic c) (a.put d v) w → Q (.panic c) a w) (hS : S w)
    (hi : (ops[i]?.isSome && Region.noSelect ops && Region.free .any ops listed i && (Region.ready .any ops listed).contains i && Region.wanted (opAt ops i) (yielded ops a.tmps)) = true) (hd : (opAt ops i).dst = d)
    (hy : ∀ w, (execOp a.eval (opAt ops i)).run P w = .ok (.value v) w) (h : wpAnyH P .any ops Q S fuel (listed.setIfInBounds i true) (a.put d v) w) : wpAnyH P .any ops Q S (fuel + 1) listed a w := by
  simp only [Bool.and_eq_true] at hi
  obtain ⟨⟨⟨⟨h1, h2⟩, h3⟩, h4⟩, h5⟩ := hi
  subst hd
  exact wpAnyH_now v (get_opAt h1) h2 h3 h4 h5 (fun c a w h => hQ c a w _ _ h) hy hS h
/-- .. that yields in every world that meets S. -/
theorem reg_nowIf (i : Nat) (v : Value) (d : Option Tmp) (hQ : ∀ c a w d v, Q (.panic c) (a.put d v) w → Q (.panic c) a w) (hS : S w)
    (hi : (ops[i]?.isSome && Region.noSelect ops && Region.free .any ops listed i && (Region.ready .any ops listed).contains i && Region.wanted (opAt ops i) (yielded ops a.tmps)) = true) (hd : (opAt ops i).dst = d)
    (hy : ∀ w, S w → (execOp a.eval (opAt ops i)).run P w = .ok (.value v) w) (h : wpAnyH P .any ops Q S fuel (listed.setIfInBounds i true) (a.put d v) w) : wpAnyH P .any ops Q S (fuel + 1) listed a w := by
  simp only [Bool.and_eq_true] at hi
  obtain ⟨⟨⟨⟨h1, h2⟩, h3⟩, h4⟩, h5⟩ := hi
  subst hd
  exact wpAnyH_nowIf v (get_opAt h1) h2 h3 h4 h5 (fun c a w h => hQ c a w _ _ h) hy hS h
/-- .. one that is not wanted (its guard is false). -/
theorem reg_pass (i : Nat) (d : Option Tmp) (hQ : ∀ c a w d v, Q (.panic c) (a.put d v) w → Q (.panic c) a w) (hS : S w)
    (hi : (ops[i]?.isSome && Region.noSelect ops && Region.free .any ops listed i && (Region.ready .any ops listed).contains i && !Region.wanted (opAt ops i) (yielded ops a.tmps)) = true) (hd : (opAt ops i).dst = d)
    (h : wpAnyH P .any ops Q S fuel (listed.setIfInBounds i true) (a.put d undef) w) : wpAnyH P .any ops Q S (fuel + 1) listed a w := by
  simp only [Bool.and_eq_true, Bool.not_eq_true'] at hi
  obtain ⟨⟨⟨⟨h1, h2⟩, h3⟩, h4⟩, h5⟩ := hi
  subst hd
  exact wpAnyH_take (get_opAt h1) h2 h3 h4 (fun c a w h => hQ c a w _ _ h) (Or.inr ⟨h5, rfl⟩) hS h
/-- The one operation that may come up gives a value, and may change the world. -/
theorem reg_value (i : Nat) (v : Value) (d : Option Tmp) (w' : World) (hi : (ops[i]?.isSome && (Region.ready .any ops listed == [i]) && Region.wanted (opAt ops i) (yielded ops a.tmps)) = true) (hd : (opAt ops i).dst = d)
    (hrun : (execOp a.eval (opAt ops i)).run P w = .ok (.value v) w') (hS : S w') (h : wpAnyH P .any ops Q S fuel (listed.setIfInBounds i true) (a.put d v) w') : wpAnyH P .any ops Q S (fuel + 1) listed a w := by
  simp only [Bool.and_eq_true, beq_iff_eq] at hi
  obtain ⟨⟨h1, h2⟩, h3⟩ := hi
  subst hd
  exact wpAnyH_one h2 (wpOp_value v (get_opAt h1) h3 hrun ⟨hS, h⟩)
/-- .. is a store. -/
theorem reg_store (i : Nat) (w' : World) (hi : (ops[i]?.isSome && (Region.ready .any ops listed == [i]) && Region.wanted (opAt ops i) (yielded ops a.tmps)) = true) (hd : (opAt ops i).dst = none)
    (hrun : (execOp a.eval (opAt ops i)).run P w = .ok .skip w') (hS : S w') (h : wpAnyH P .any ops Q S fuel (listed.setIfInBounds i true) (a.put none undef) w') : wpAnyH P .any ops Q S (fuel + 1) listed a w := by
  simp only [Bool.and_eq_true, beq_iff_eq] at hi
  obtain ⟨⟨h1, h2⟩, h3⟩ := hi
  exact wpAnyH_one h2 (wpOp_skip (get_opAt h1) h3 hrun ⟨hS, by rw [hd]; exact h⟩)
/-- .. is a call by a contract. -/
theorem reg_call (i : Nat) (f : FuncId) (args : Array Value) (d : Option Tmp) (R : Ending → World → Prop) (hi : (ops[i]?.isSome && (Region.ready .any ops listed == [i]) && Region.wanted (opAt ops i) (yielded ops a.tmps)) = true) (hd : (opAt ops i).dst = d)
    (hrun : (execOp a.eval (opAt ops i)).run P w = .ok (.enter f args) w) (hc : Calls P f args w R)
    (h : ∀ e w', R e w' → ∃ v, e = .returned v ∧ S w' ∧ wpAnyH P .any ops Q S fuel (listed.setIfInBounds i true) (a.put d v) w') : wpAnyH P .any ops Q S (fuel + 1) listed a w := by
  simp only [Bool.and_eq_true, beq_iff_eq] at hi
  obtain ⟨⟨h1, h2⟩, h3⟩ := hi
  subst hd
  exact wpAnyH_one h2 (wpOp_callE f args R (get_opAt h1) h3 hrun hc h)
/-- All have come up. -/
theorem reg_done (hr : Region.ready .any ops listed = []) (h : Q .normal a w) : wpAnyH P .any ops Q S fuel listed a w := wpAnyH_done hr h _
end
end Go.Proofs.YtkfemngknmnnmaaDoor
