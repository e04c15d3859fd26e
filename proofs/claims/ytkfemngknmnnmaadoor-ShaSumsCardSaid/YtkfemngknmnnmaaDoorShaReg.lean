/- Steps through a region that draws its order, one operation at a time, each with its run given by an equation. General lemmas on the model; nothing about the program. -/
import Derived.Test.YtkfemngknmnnmaaDoorShaBlk2
import Derived.Orders
import Derived.OrdersHeld
namespace Go.Proofs.YtkfemngknmnnmaaDoor
open Go Go.RowKit

section
variable {P : Program} {ops : Array Oper} {Q : Exit → Act → World → Prop} {md : Region.Mode}

/-- Operation i gives a value. -/
theorem wpOp_value {i : Nat} {K : Act → World → Prop} {a : Act} {w w' : World} {op : Oper} (v : Value) (hi : ops[i]? = some op) (hw : Region.wanted op (yielded ops a.tmps) = true)
    (hrun : (execOp a.eval op).run P w = .ok (.value v) w') (h : K (a.put op.dst v) w') : wpOp P ops Q i K a w := by
  unfold wpOp; simp only [hi]; rw [if_pos hw]; refine Or.inl ?_; unfold Oper.wp; rw [hrun]; exact h
/-- Operation i gives nothing (a store). -/
theorem wpOp_skip {i : Nat} {K : Act → World → Prop} {a : Act} {w w' : World} {op : Oper} (hi : ops[i]? = some op) (hw : Region.wanted op (yielded ops a.tmps) = true)
    (hrun : (execOp a.eval op).run P w = .ok .skip w') (h : K (a.put op.dst undef) w') : wpOp P ops Q i K a w := by
  unfold wpOp; simp only [hi]; rw [if_pos hw]; refine Or.inl ?_; unfold Oper.wp; rw [hrun]; exact h
/-- Operation i calls a function whose contract is known. -/
theorem wpOp_call {i : Nat} {K : Act → World → Prop} {a : Act} {w : World} {op : Oper} (f : FuncId) (args : Array Value) (v : Value) (R : World → Prop) (hi : ops[i]? = some op) (hw : Region.wanted op (yielded ops a.tmps) = true)
    (hrun : (execOp a.eval op).run P w = .ok (.enter f args) w) (hc : Calls P f args w fun e w' => e = .returned v ∧ R w') (h : ∀ w', R w' → K (a.put op.dst v) w') : wpOp P ops Q i K a w := by
  unfold wpOp; simp only [hi]; rw [if_pos hw]; refine Or.inl ?_; unfold Oper.wp; rw [hrun]
  refine hc.mono fun e w' ⟨he, hR⟩ => ?_
  subst he
  exact h w' hR
/-- The same, where the result is not known beforehand. -/
theorem wpOp_callE {i : Nat} {K : Act → World → Prop} {a : Act} {w : World} {op : Oper} (f : FuncId) (args : Array Value) (R : Ending → World → Prop) (hi : ops[i]? = some op) (hw : Region.wanted op (yielded ops a.tmps) = true)
    (hrun : (execOp a.eval op).run P w = .ok (.enter f args) w) (hc : Calls P f args w R) (h : ∀ e w', R e w' → ∃ v, e = .returned v ∧ K (a.put op.dst v) w') : wpOp P ops Q i K a w := by
  unfold wpOp; simp only [hi]; rw [if_pos hw]; refine Or.inl ?_; unfold Oper.wp; rw [hrun]
  refine hc.mono fun e w' hR => ?_
  obtain ⟨v, rfl, hk⟩ := h e w' hR
  exact hk
/-- An operation of a plain region gives a value, by an equation on its run. -/
theorem wpList_value {rest : List Oper} {op : Oper} {a : Act} {w w' : World} (hgd : op.guard = none) (v : Value) (hrun : (execOp a.eval op).run P w = .ok (.value v) w') (h : wpList P ops Q rest (a.put op.dst v) w') : wpList P ops Q (op :: rest) a w :=
  wpList_plain hgd fun K hK => by unfold Oper.wp; rw [hrun]; exact hK _ _ h
/-- The one operation that may come up. -/
theorem wpAny_one {i fuel : Nat} {listed : Array Bool} {a : Act} {w : World} (hr : Region.ready md ops listed = [i]) (h : wpOp P ops Q i (wpAny P md ops Q fuel (listed.setIfInBounds i true)) a w) : wpAny P md ops Q (fuel + 1) listed a w :=
  wpAny_all hr (by simp) fun j hj => by
    have : j = i := by simpa using hj
    subst this; exact h
/-- Two that may come up. -/
theorem wpAny_two {i j fuel : Nat} {listed : Array Bool} {a : Act} {w : World} (hr : Region.ready md ops listed = [i, j]) (h1 : wpOp P ops Q i (wpAny P md ops Q fuel (listed.setIfInBounds i true)) a w)
    (h2 : wpOp P ops Q j (wpAny P md ops Q fuel (listed.setIfInBounds j true)) a w) : wpAny P md ops Q (fuel + 1) listed a w :=
  wpAny_all hr (by simp) fun k hk => by
    have : k = i ∨ k = j := by simpa using hk
    rcases this with rfl | rfl
    · exact h1
    · exact h2
/-- The one operation that may come up, while S is kept. -/
theorem wpAnyH_one {S : World → Prop} {i fuel : Nat} {listed : Array Bool} {a : Act} {w : World} (hr : Region.ready md ops listed = [i]) (h : wpOp P ops Q i (fun a' w' => S w' ∧ wpAnyH P md ops Q S fuel (listed.setIfInBounds i true) a' w') a w) : wpAnyH P md ops Q S (fuel + 1) listed a w :=
  wpAnyH_all hr (by simp) fun j hj => by
    have : j = i := by simpa using hj
    subst this; exact h
/-- What only one of several may come up as, by a test on each. -/
theorem wpAnyH_two {S : World → Prop} {i j fuel : Nat} {listed : Array Bool} {a : Act} {w : World} (hr : Region.ready md ops listed = [i, j]) (h1 : wpOp P ops Q i (fun a' w' => S w' ∧ wpAnyH P md ops Q S fuel (listed.setIfInBounds i true) a' w') a w)
    (h2 : wpOp P ops Q j (fun a' w' => S w' ∧ wpAnyH P md ops Q S fuel (listed.setIfInBounds j true) a' w') a w) : wpAnyH P md ops Q S (fuel + 1) listed a w :=
  wpAnyH_all hr (by simp) fun k hk => by
    have : k = i ∨ k = j := by simpa using hk
    rcases this with rfl | rfl
    · exact h1
    · exact h2
/-- An operation is taken first that yields in every world. -/
theorem wpAnyH_now {S : World → Prop} {i : Nat} {oi : Oper} {fuel : Nat} {listed : Array Bool} {a : Act} {w : World} (v : Value) (hi : ops[i]? = some oi)
    (hs : Region.noSelect ops = true) (hf : Region.free md ops listed i = true) (hr : (Region.ready md ops listed).contains i = true) (hw : Region.wanted oi (yielded ops a.tmps) = true)
    (hQ : ∀ c a w, Q (.panic c) (a.put oi.dst v) w → Q (.panic c) a w) (hy : ∀ w, (execOp a.eval oi).run P w = .ok (.value v) w) (hS : S w)
    (h : wpAnyH P md ops Q S fuel (listed.setIfInBounds i true) (a.put oi.dst v) w) : wpAnyH P md ops Q S (fuel + 1) listed a w :=
  wpAnyH_take hi hs hf hr hQ (Or.inl ⟨hw, fun w _ => hy w⟩) hS h
/-- An operation is taken first that yields in every world that meets S. -/
theorem wpAnyH_nowIf {S : World → Prop} {i : Nat} {oi : Oper} {fuel : Nat} {listed : Array Bool} {a : Act} {w : World} (v : Value) (hi : ops[i]? = some oi)
    (hs : Region.noSelect ops = true) (hf : Region.free md ops listed i = true) (hr : (Region.ready md ops listed).contains i = true) (hw : Region.wanted oi (yielded ops a.tmps) = true)
    (hQ : ∀ c a w, Q (.panic c) (a.put oi.dst v) w → Q (.panic c) a w) (hy : ∀ w, S w → (execOp a.eval oi).run P w = .ok (.value v) w) (hS : S w)
    (h : wpAnyH P md ops Q S fuel (listed.setIfInBounds i true) (a.put oi.dst v) w) : wpAnyH P md ops Q S (fuel + 1) listed a w :=
  wpAnyH_take hi hs hf hr hQ (Or.inl ⟨hw, hy⟩) hS h
/-- A whole array out of the middle of a block. -/
theorem exec_load_mid {a : Act} {w : World} {op : Oper} (ty : TypeId) (x : Operand) (ho : op.op = .load ty x) (b o : Nat) (hx : a.eval x = .pointer (some ⟨b, o, none⟩)) (cs : List Value) (d : TypeDesc) (hc : w.rangeAt b o cs)
    (hu : P.underlying ty = some d) (hd : d.isRow = true) (hi : (P.info? ty).map (·.size) = some cs.length) : (execOp a.eval op).run P w = .ok (.value (.agg cs.toArray)) w := by
  unfold execOp
  simp only [ho, hx, Instr.loadAt, Instr.sureAddr, Sem.run_bind, Sem.run_pure, Result.andThen_ok, run_loadVar_mid w b o ty cs d hc hu hd hi]
/-- A whole array into the middle of a block. -/
theorem exec_store_mid {a : Act} {w : World} {op : Oper} (ty : TypeId) (x y : Operand) (ho : op.op = .store ty x y) (b o : Nat) (vs : List Value) (hx : a.eval x = .pointer (some ⟨b, o, none⟩)) (hy : a.eval y = .agg vs.toArray)
    (ht : w.there b o vs.length) (hi : (P.info? ty).map (·.size) = some vs.length) (h1 : vs.toArray.all (·.oneCell') = true) : (execOp a.eval op).run P w = .ok .skip (w.setCells b o vs) := by
  unfold execOp
  simp only [ho, hx, hy, Instr.storeAt, Instr.sureAddr, Sem.run_bind, Sem.run_pure, Result.andThen_ok, run_storeVar_mid w b o ty vs.toArray (by simpa using ht) (by simpa using hi) h1]
end
end Go.Proofs.YtkfemngknmnnmaaDoor
