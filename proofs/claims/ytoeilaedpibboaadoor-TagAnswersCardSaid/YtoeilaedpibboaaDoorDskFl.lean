/- package disk: Read, Flush. -/
import Derived.Test.YtoeilaedpibboaaDoorDskWr
namespace Go.Proofs.YtoeilaedpibboaaDoor
open Go Go.RowKit
set_option maxRecDepth 100000

theorem calls_at {P : Program} {f : FuncId} {args : Array Value} {w w' : World} {R : Ending → World → Prop} (h : w = w') (hc : Calls P f args w' R) : Calls P f args w R := by rw [h]; exact hc
theorem boxed (w : World) (t : TypeId) (z vs : List Value) (hl : vs.length = z.length) : Blk ((w.alloc (.cells z.toArray t)).setCells w.heap.size 0 vs) w.heap.size t vs ∧ Below w.heap.size w ((w.alloc (.cells z.toArray t)).setCells w.heap.size 0 vs) ∧ ((w.alloc (.cells z.toArray t)).setCells w.heap.size 0 vs).heap.size = w.heap.size + 1 :=
  ⟨(Blk.new w t z).setWhole vs hl, below_setCells vs ((Below.refl _ _).alloc (Nat.le_refl _) _) 0 (Nat.le_refl _), by rw [size_setCells]; simp⟩
theorem zW_length : zW.length = 65 := by simp [zW, ints_length, zB_length]
theorem getB_range {w : World} {B n sz : Nat} {t : TypeId} {l : List Int} {r : List Value} (h : Blk w B t (ints .u8 l ++ r)) (hl : l.length = 64 * sz) (hn : n < sz) : w.rangeAt B (0 + 64 * n) (ints .u8 (getB l n)) := fun j v hv => by
  refine h.cell ?_
  have hj : j < 64 := by have := (List.getElem?_eq_some_iff.1 hv).1; rwa [ints_length, getB_length hl hn] at this
  rw [List.getElem?_append_left (by rw [ints_length]; omega)]
  unfold getB at hv
  rw [ints, List.getElem?_map, List.getElem?_take, if_pos hj, List.getElem?_drop] at hv
  rw [ints, List.getElem?_map, Nat.zero_add]
  exact hv
def zeros (n : Nat) : List Int := List.replicate n 0
theorem zeros_length (n : Nat) : (zeros n).length = n := by simp [zeros]
theorem zB_get (j : Nat) (h : j < 64) : (ints .u8 zB)[j]? = some (.int .u8 0) := by
  rw [ints, List.getElem?_map, zB, List.getElem?_replicate, if_pos h]; rfl
theorem made_zeros (n : Nat) : (madeCells (ints .u8 zB).toArray (n * 64)).toList = ints .u8 (zeros (64 * n)) := by
  apply List.ext_getElem?
  intro j
  by_cases hj : j < n * 64
  · have h1 : (ints .u8 (zeros (64 * n)))[j]? = some (.int .u8 0) := by
      rw [ints, List.getElem?_map, zeros, List.getElem?_replicate, if_pos (by omega)]; rfl
    have h2 : (ints .u8 zB)[j % 64]? = some (.int .u8 0) := zB_get _ (Nat.mod_lt _ (by decide))
    rw [h1]
    have hs : (ints .u8 zB).length = 64 := by rw [ints_length, zB_length]
    have h3 : (ints .u8 zB)[j % 64]! = .int .u8 0 := by
      rw [List.getElem!_eq_getElem?_getD, h2]; rfl
    simp [madeCells, hj, hs]
    simpa using h3
  · rw [List.getElem?_eq_none (by simp [madeCells]; omega), List.getElem?_eq_none (by rw [ints_length, zeros_length]; omega)]
theorem take_next (l : List Int) (k : Nat) : l.take (64 * k) ++ getB l k = l.take (64 * (k + 1)) := by
  unfold getB
  rw [show 64 * (k + 1) = 64 * k + 64 by omega, List.take_add]
end Go.Proofs.YtoeilaedpibboaaDoor
