/- Two arrays of integers are equal for the program just if their lists of integers are. General lemmas on the model. -/
import Derived.Test.YtkfemngknmnnmaaDoorShaBlk
import Derived.DeepKeys
import Derived.Laws.StructEq
namespace Go.Proofs.YtkfemngknmnnmaaDoor
open Go Go.RowKit

section
variable {P : Program} (w : World)
theorem run_part_ints {e : TypeId} {k : IntKind} (he : P.underlying e = some (.int k)) (l : List Int) (i : Nat) (hi : i < l.length) : (part e (ints k l).toArray i).run P w = .ok (.int k (l.getD i 0)) w := by
  have hag : (isAgg e).run P w = .ok false w := by unfold isAgg; rw [Sem.run_bind, run_underlying he w]; rfl
  unfold part
  simp only [Sem.run_bind, hag, Result.andThen_ok, Bool.false_eq_true, if_false]
  have : (ints k l).toArray[i]? = some (.int k (l.getD i 0)) := by simpa using ints_getD (k := k) hi
  rw [this]
  rfl
theorem run_eqItems_ints {e : TypeId} {k : IntKind} (d : Nat) (he : P.underlying e = some (.int k)) (xs ys : List Int) : ∀ (is : List Nat), (∀ i ∈ is, i < xs.length ∧ i < ys.length) →
    (Op.eqItems (d + 1) e 1 (ints k xs).toArray (ints k ys).toArray is).run P w = .ok (is.all fun i => xs.getD i 0 == ys.getD i 0) w
  | [], _ => by simp [Op.eqItems]
  | i :: is, h => by
    have hi := h i (by simp)
    have ih := run_eqItems_ints d he xs ys is (fun j hj => h j (by simp [hj]))
    simp only [Op.eqItems, Sem.run_bind, Nat.mul_one, run_part_ints w he xs i hi.1, run_part_ints w he ys i hi.2, Result.andThen_ok, run_equalIn_int w d e k k _ _ he]
    cases hb : (xs.getD i 0 == ys.getD i 0)
    · simp only [List.all_cons, hb, Bool.false_and, Bool.not_false, if_true]
      rfl
    · simp only [List.all_cons, hb, Bool.true_and]
      simpa using ih
theorem all_range (xs ys : List Int) (n : Nat) (hx : xs.length = n) (hy : ys.length = n) : ((List.range n).all fun i => xs.getD i 0 == ys.getD i 0) = decide (xs = ys) := by
  rw [Bool.eq_iff_iff]
  simp only [List.all_eq_true, List.mem_range, beq_iff_eq, decide_eq_true_eq]
  constructor
  · intro h
    apply List.ext_getElem (by omega)
    intro i h1 h2
    have := h i (by omega)
    simpa [List.getD_eq_getElem?_getD, h1, h2] using this
  · rintro rfl i _; rfl
theorem run_equalIn_ints {t e : TypeId} {k : IntKind} {n : Nat} (d : Nat) (ht : P.underlying t = some (.array n e)) (he : P.underlying e = some (.int k)) (hi : (P.info? e).map (·.size) = some 1) (xs ys : List Int) (hx : xs.length = n) (hy : ys.length = n) :
    (Op.equalIn (d + 2) t (.agg (ints k xs).toArray) (.agg (ints k ys).toArray)).run P w = .ok (decide (xs = ys)) w := by
  obtain ⟨i, hi1, hi2⟩ := Option.map_eq_some_iff.1 hi
  have hc : P.cellsOf e = 1 := by simp [Program.cellsOf, hi1, hi2]
  rw [run_equalIn_array w (d + 1) _ _ ht hi1, hc, run_eqItems_ints w d he xs ys _ (fun j hj => by rw [List.mem_range] at hj; omega), all_range xs ys n hx hy]
theorem exec_eql {a : Act} {op : Oper} {t e : TypeId} {k : IntKind} {n : Nat} (x y : Operand) (yt : TypeId) (ho : op.op = .binOp .eql t x y yt) (ht : P.underlying t = some (.array n e)) (he : P.underlying e = some (.int k)) (hi : (P.info? e).map (·.size) = some 1) (hm : P.eqGuardType P.depth t = false)
    (xs ys : List Int) (hx : xs.length = n) (hy : ys.length = n) (ex : a.eval x = .agg (ints k xs).toArray) (ey : a.eval y = .agg (ints k ys).toArray) : (execOp a.eval op).run P w = .ok (.value (.bool (decide (xs = ys)))) w := by
  unfold execOp
  have hq : (Op.equalIn 10000 t (.agg (ints k xs).toArray) (.agg (ints k ys).toArray)).run P w = .ok (decide (xs = ys)) w := run_equalIn_ints w 9998 ht he hi xs ys hx hy
  simp only [ho, ex, ey, Sem.run_bind, run_eql_struct, run_eqGuard_agg w _ t x y _ _ hm, hq, Result.andThen_ok]
  rfl
theorem exec_neq {a : Act} {op : Oper} {t e : TypeId} {k : IntKind} {n : Nat} (x y : Operand) (yt : TypeId) (ho : op.op = .binOp .neq t x y yt) (ht : P.underlying t = some (.array n e)) (he : P.underlying e = some (.int k)) (hi : (P.info? e).map (·.size) = some 1) (hm : P.eqGuardType P.depth t = false)
    (xs ys : List Int) (hx : xs.length = n) (hy : ys.length = n) (ex : a.eval x = .agg (ints k xs).toArray) (ey : a.eval y = .agg (ints k ys).toArray) : (execOp a.eval op).run P w = .ok (.value (.bool (!decide (xs = ys)))) w := by
  unfold execOp
  have hq : (Op.equalIn 10000 t (.agg (ints k xs).toArray) (.agg (ints k ys).toArray)).run P w = .ok (decide (xs = ys)) w := run_equalIn_ints w 9998 ht he hi xs ys hx hy
  simp only [ho, ex, ey, Sem.run_bind, run_neq_struct, run_eqGuard_agg w _ t x y _ _ hm, hq, Result.andThen_ok]
  rfl
end
end Go.Proofs.YtkfemngknmnnmaaDoor
