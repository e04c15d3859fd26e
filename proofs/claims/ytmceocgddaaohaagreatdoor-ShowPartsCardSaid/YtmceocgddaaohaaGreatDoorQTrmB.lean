/- Terms, by the given answers: SameTerm. -/
import Derived.Test.YtmceocgddaaohaaGreatDoorQTrmC
import Derived.Test.YtmceocgddaaohaaGreatDoorQLevC
namespace Go.Proofs.YtmceocgddaaohaaGreatDoor
open Go Go.RowKit
set_option maxRecDepth 100000
noncomputable def eqT (x y : Tm) : Bool := @decide (x = y) (Classical.propDecidable _)
theorem eqT_yes {x y : Tm} (h : x = y) : eqT x y = true := @decide_eq_true _ (Classical.propDecidable _) h
theorem eqT_no {x y : Tm} (h : x ≠ y) : eqT x y = false := @decide_eq_false _ (Classical.propDecidable _) h
theorem exec_neqlv {a : Act} {w : World} {op : Oper} (x y : Operand) (yt : TypeId) (ho : op.op = .binOp .neq 80 x y yt) {l m : Lv} (hl : l.p.length = 4) (hm : m.p.length = 4) (ex : a.eval x = .agg (ints .i64 l.zs).toArray) (ey : a.eval y = .agg (ints .i64 m.zs).toArray) : (execOp a.eval op).run Tryz.prog w = .ok (.value (.bool (!decide (l = m)))) w := by
 unfold execOp
 have hg : Tryz.prog.eqGuardType Tryz.prog.depth 80 = false := by kernel_rfl
 simp only [ho, ex, ey, Sem.run_bind, run_neq_struct, run_eqGuard_agg w _ 80 x y _ _ hg, run_eq_lv hl hm, Result.andThen_ok]
 rfl
theorem LvsOff.at {F : List Nat} {w : World} {a : Option Addr} {n c i : Nat} {ls : List Lv} {x : Lv} (h : LvsOff F w (.slice a n c) ls) (hi : ls[i]? = some x) : x.p.length = 4 ∧ ∃ pb po, a = some ⟨pb, po, none⟩ ∧ pb < w.heap.size := by
 obtain ⟨a2, c2, e, -, -, h4, hp⟩ := h
 obtain ⟨rfl, -, rfl⟩ := Value.slice.inj e
 have hlt := (List.getElem?_eq_some_iff.1 hi).1
 obtain ⟨pb, po, ea, -, hb, -⟩ := hp (by omega)
 exact ⟨h4 x (List.mem_of_getElem? hi), pb, po, ea, hb⟩
theorem LvsOff.rng {F : List Nat} {w : World} {pb po n c i : Nat} {ls : List Lv} {x : Lv} (h : LvsOff F w (.slice (some ⟨pb, po, none⟩) n c) ls) (hi : ls[i]? = some x) : w.rangeAt pb (po + 5 * i) (ints .i64 x.zs) := by
 obtain ⟨a2, c2, e, -, -, h4, hp⟩ := h
 obtain ⟨rfl, -, rfl⟩ := Value.slice.inj e
 have hlt := (List.getElem?_eq_some_iff.1 hi).1
 obtain ⟨pb', po', ea, -, -, hr⟩ := hp (by omega)
 obtain ⟨rfl, rfl, -⟩ := Addr.mk.inj (Option.some.inj ea)
 exact hr i x hi
theorem rangeBelow {w w' : World} {pb o : Nat} {cs : List Value} (hb : Below w.heap.size w w') (hp : pb < w.heap.size) (h : w.rangeAt pb o cs) : w'.rangeAt pb o cs := Step.range (F := []) (F' := []) (Step.of_below hb (Nat.le_refl _)) hp (by simp) h
end Go.Proofs.YtmceocgddaaohaaGreatDoor
