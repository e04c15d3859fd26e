/- Steps of a plain region, said shortly. -/
import Derived.Test.YtoeilaedpibboaaDoorGenS
namespace Go.Proofs.YtoeilaedpibboaaDoor
open Go Go.RowKit
section
variable {P : Program} {ops : Array Oper} {Q : Exit → Act → World → Prop} {a : Act} {w : World}
theorem lnow (i : Nat) (v : Value) (d : Option Tmp) (h : wpFrom P ops Q (i + 1) (a.put d v) w) (hi : (ops[i]?.isSome && Region.wanted (opAt ops i) (yielded ops a.tmps)) = true := by kernel_rfl) (hd : (opAt ops i).dst = d := by kernel_rfl)
    (hrun : (execOp a.eval (opAt ops i)).run P w = .ok (.value v) w := by kernel_rfl) : wpFrom P ops Q i a w := lin_now i v d hi hd hrun h
theorem lnowP (i : Nat) (v : Value) (d : Option Tmp) (hrun : (execOp a.eval (opAt ops i)).run P w = .ok (.value v) w) (h : wpFrom P ops Q (i + 1) (a.put d v) w) (hi : (ops[i]?.isSome && Region.wanted (opAt ops i) (yielded ops a.tmps)) = true := by kernel_rfl) (hd : (opAt ops i).dst = d := by kernel_rfl) : wpFrom P ops Q i a w := lin_now i v d hi hd hrun h
theorem lpas (i : Nat) (d : Option Tmp) (h : wpFrom P ops Q (i + 1) (a.put d undef) w) (hi : (ops[i]?.isSome && !Region.wanted (opAt ops i) (yielded ops a.tmps)) = true := by kernel_rfl) (hd : (opAt ops i).dst = d := by kernel_rfl) : wpFrom P ops Q i a w := lin_pass i d hi hd h
theorem lbeg {id : Nat} {ops0 : Array Oper} (ops : Array Oper) (h : wpFrom P ops Q 0 a w) (he : ops0 = ops := by kernel_rfl) : (Code.region id ops0 false).wp P Q a w := lin_begin ops he h
theorem ldn (i : Nat) (h : Q .normal a w) (hi : ops.size = i := by kernel_rfl) : wpFrom P ops Q i a w := lin_done i hi h
theorem lput (i : Nat) (ty : TypeId) (x y : Operand) (b : Nat) (t : TypeId) (cs vs : List Value) (hb : Blk w b t cs) (hl : vs.length = cs.length) (hz : (P.info? ty).map (·.size) = some vs.length) (h1 : vs.toArray.all (·.oneCell') = true)
    (h : ∀ w', Blk w' b t vs → Upd b w w' → wpFrom P ops Q (i + 1) (a.put none undef) w') (hi : (ops[i]?.isSome && Region.wanted (opAt ops i) (yielded ops a.tmps)) = true := by kernel_rfl) (hd : (opAt ops i).dst = none := by kernel_rfl)
    (ho : (opAt ops i).op = .store ty x y := by kernel_rfl) (hx : a.eval x = .pointer (some ⟨b, 0, none⟩) := by kernel_rfl) (hy : a.eval y = .agg vs.toArray := by kernel_rfl) : wpFrom P ops Q i a w := lin_put i ty x y b t cs vs hi hd ho hx hy hb hl hz h1 h
theorem lcal (i : Nat) (f : FuncId) (args : Array Value) (d : Option Tmp) (R : Ending → World → Prop) (hc : Calls P f args w R) (h : ∀ e w', R e w' → ∃ v, e = .returned v ∧ wpFrom P ops Q (i + 1) (a.put d v) w')
    (hi : (ops[i]?.isSome && Region.wanted (opAt ops i) (yielded ops a.tmps)) = true := by kernel_rfl) (hd : (opAt ops i).dst = d := by kernel_rfl) (hrun : (execOp a.eval (opAt ops i)).run P w = .ok (.enter f args) w := by kernel_rfl) : wpFrom P ops Q i a w := lin_call i f args d R hi hd hrun hc h
theorem lall (i : Nat) (ty : TypeId) (z : List Value) (q : Nat) (d : Option Tmp) (hq : Hid (w.heap.size = q)) (h : ∀ w', Blk w' q ty z → Below q w w' → Hid (w'.heap.size = q + 1) → wpFrom P ops Q (i + 1) (a.put d (.pointer (some ⟨q, 0, none⟩))) w')
    (hi : (ops[i]?.isSome && Region.wanted (opAt ops i) (yielded ops a.tmps)) = true := by kernel_rfl) (hd : (opAt ops i).dst = d := by kernel_rfl) (ho : (opAt ops i).op = .alloc ty := by kernel_rfl) (hz : (P.info? ty).map (·.zero) = some (some (.agg z.toArray)) := by kernel_rfl) : wpFrom P ops Q i a w := lin_alloc i ty z q d hi hd ho hz hq h
theorem lbox (i : Nat) (ty : TypeId) (x : Operand) (z : List Value) (q : Nat) (d : Option Tmp) (hq : Hid (w.heap.size = q)) (h : ∀ w', Blk w' q ty z → Below q w w' → Hid (w'.heap.size = q + 1) → wpFrom P ops Q (i + 1) (a.put d (.pointer (some ⟨q, 0, none⟩))) w')
    (hi : (ops[i]?.isSome && Region.wanted (opAt ops i) (yielded ops a.tmps)) = true := by kernel_rfl) (hd : (opAt ops i).dst = d := by kernel_rfl) (ho : (opAt ops i).op = .box ty x := by kernel_rfl) (hx : a.eval x = .agg z.toArray := by kernel_rfl) : wpFrom P ops Q i a w := lin_box i ty x z q d hi hd ho hx hq h
/-- A cell is read. -/
theorem lcl (i : Nat) (v : Value) (d : Option Tmp) (ty x b o : Nat) (hc : w.cell? ⟨b, o, none⟩ = some v) {dd : TypeDesc} (hdd : P.underlying ty = some dd) (h : wpFrom P ops Q (i + 1) (a.put d v) w) (hi : (ops[i]?.isSome && Region.wanted (opAt ops i) (yielded ops a.tmps)) = true := by kernel_rfl) (hd : (opAt ops i).dst = d := by kernel_rfl)
    (ho : (opAt ops i).op = .load ty (.tmp x) := by kernel_rfl) (hx : a.eval (.tmp x) = .pointer (some ⟨b, o, none⟩) := by kernel_rfl) (hr : dd.isRow = false := by rfl) : wpFrom P ops Q i a w := lin_now i v d hi hd (exec_load_cell ty (.tmp x) ho b o hx v hc dd hdd hr) h
/-- A row of cells is read. -/
theorem lrl (i : Nat) (cs : List Value) (d : Option Tmp) (ty x b o : Nat) (hc : w.rangeAt b o cs) {dd : TypeDesc} (hdd : P.underlying ty = some dd) (hz : (P.info? ty).map (·.size) = some cs.length) (h : wpFrom P ops Q (i + 1) (a.put d (.agg cs.toArray)) w) (hi : (ops[i]?.isSome && Region.wanted (opAt ops i) (yielded ops a.tmps)) = true := by kernel_rfl) (hd : (opAt ops i).dst = d := by kernel_rfl)
    (ho : (opAt ops i).op = .load ty (.tmp x) := by kernel_rfl) (hx : a.eval (.tmp x) = .pointer (some ⟨b, o, none⟩) := by kernel_rfl) (hr : dd.isRow = true := by rfl) : wpFrom P ops Q i a w := lin_now i (.agg cs.toArray) d hi hd (exec_load_mid ty (.tmp x) ho b o hx cs dd hc hdd hr hz) h
/-- The address of an element. -/
theorem lix (i : Nat) (p : Value) (d : Option Tmp) (t x ix : Nat) {vx vi : Value} (hrun : (Instr.indexAt t vx vi).run P w = .ok p w) (h : wpFrom P ops Q (i + 1) (a.put d p) w) (hi : (ops[i]?.isSome && Region.wanted (opAt ops i) (yielded ops a.tmps)) = true := by kernel_rfl) (hd : (opAt ops i).dst = d := by kernel_rfl)
    (ho : (opAt ops i).op = .indexAddr t (.tmp x) (.tmp ix) := by kernel_rfl) (hx : a.eval (.tmp x) = vx := by kernel_rfl) (hix : a.eval (.tmp ix) = vi := by kernel_rfl) : wpFrom P ops Q i a w := lin_now i p d hi hd (exec_indexAt t (.tmp x) (.tmp ix) ho vx vi p hx hix hrun) h
theorem sA {α : Type} (xs : List α) (i : Nat) (x : α) : xs.toArray.setIfInBounds i x = (xs.set i x).toArray := List.setIfInBounds_toArray ..
theorem sC {α : Type} (y : α) (xs : List α) (i : Nat) (x : α) : (y :: xs).set (i + 1) x = y :: xs.set i x := List.set_cons_succ ..
theorem sZ {α : Type} (y : α) (xs : List α) (x : α) : (y :: xs).set 0 x = x :: xs := List.set_cons_zero ..
theorem ldq {b : Act} (i : Nat) (h : Q .normal b w) (hi : ops.size = i := by kernel_rfl) (ha : a = b := by (simp only [Act.put, sA, sC, sZ]; rfl)) : wpFrom P ops Q i a w := by
  subst ha
  exact lin_done i hi h
theorem rcq {S : World → Prop} {fuel : Nat} {l l' : Array Bool} {b : Act} (h : wpAnyH P .any ops Q S fuel l' b w) (hl : l = l' := by (simp only [sA, sC, sZ]; rfl)) (ha : a = b := by (simp only [Act.put, sA, sC, sZ]; rfl)) : wpAnyH P .any ops Q S fuel l a w := by
  subst hl
  subst ha
  exact h
theorem hZ {p : Prop} (h : p) : Hid p := h
theorem lq {R : Exit → Act → World → Prop} {e : Exit} {b : Act} (h : R e b w) (ha : a = b := by (simp only [Act.put, sA, sC, sZ]; rfl)) : R e a w := by
  subst ha
  exact h
end
end Go.Proofs.YtoeilaedpibboaaDoor
