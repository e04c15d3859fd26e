/- The nodes of a term, one by one: package term's iterator. -/
import Derived.Test.YtdacmogedchnaaaQTrmC
import Derived.Test.YtdacmogedchnaaaQGenR
namespace Go.Proofs.Ytdacmogedchnaaa
open Go Go.RowKit
set_option maxRecDepth 100000
section
variable {P : Program} {ops : Array Oper} {Q : Exit → Act → World → Prop} {a : Act} {w : World}
/-- A new variable of one cell. -/
theorem lin_alloc1 (i : Nat) (ty : TypeId) (z : Value) (q : Nat) (d : Option Tmp) (hi : (ops[i]?.isSome && Region.wanted (opAt ops i) (yielded ops a.tmps)) = true) (hd : (opAt ops i).dst = d)
    (ho : (opAt ops i).op = .alloc ty) (hz : (P.info? ty).map (·.zero) = some (some z)) (hz1 : z.cells = #[z]) (hq : Hid (w.heap.size = q))
    (h : ∀ w', Blk w' q ty [z] → Below q w w' → Hid (w'.heap.size = q + 1) → wpFrom P ops Q (i + 1) (a.put d (.pointer (some ⟨q, 0, none⟩))) w') : wpFrom P ops Q i a w := by
  obtain rfl := hq.out
  have hr : (execOp a.eval (opAt ops i)).run P w = .ok (.value (.pointer (some ⟨w.heap.size, 0, none⟩))) (w.alloc (.cells [z].toArray ty)) := by
    rw [exec_alloc ty ho z hz, hz1]
  exact lin_value i _ d _ hi hd hr (h _ (Blk.new w ty [z]) ((Below.refl _ _).alloc (Nat.le_refl _) _) (by unfold Hid; simp))
/-- One cell is stored into a block of one. -/
theorem lin_put1 (i : Nat) (ty : TypeId) (x y : Operand) (b : Nat) (t : TypeId) (u v : Value) (hi : (ops[i]?.isSome && Region.wanted (opAt ops i) (yielded ops a.tmps)) = true) (hd : (opAt ops i).dst = none)
    (ho : (opAt ops i).op = .store ty x y) (hx : a.eval x = .pointer (some ⟨b, 0, none⟩)) (hy : a.eval y = v) (hb : Blk w b t [u]) (hz : (P.info? ty).map (·.size) = some 1) (hv : v.cells = #[v]) (h1 : v.oneCell' = true)
    (h : ∀ w', Blk w' b t [v] → Upd b w w' → wpFrom P ops Q (i + 1) (a.put none undef) w') : wpFrom P ops Q i a w :=
  lin_store i (w.setCell ⟨b, 0, none⟩ v) hi hd (exec_store_cell ty x y ho b 0 v hx hy t [u] hb (by simp) hz hv h1) (h _ (by simpa using hb.set 0 v) ((Upd.refl b w).setCell 0 v))
end
end Go.Proofs.Ytdacmogedchnaaa
