/- A block of memory that is known whole, as a list of cells: what reading, writing and allocating do to it. General lemmas on the model's worlds; nothing about the program. -/
import Derived.WalkKit
import Derived.Deep.MidRow
import Derived.Deep.WholeRow
namespace Go.Proofs.YtkfemngknmnnmaaDoor
open Go Go.RowKit

/-- Block b is a row of just the cells cs, of type t, none of them frozen. -/
def Blk (w : World) (b : Nat) (t : TypeId) (cs : List Value) : Prop := w.heap[b]? = some (.cells cs.toArray t (0, 0))

theorem Blk.cell {w : World} {b : Nat} {t : TypeId} {cs : List Value} (h : Blk w b t cs) {j : Nat} {v : Value} (hv : cs[j]? = some v) : w.cell? ⟨b, j, none⟩ = some v := by
  rw [cell_of_row w b j cs.toArray t (0, 0) h]; simpa using hv
theorem Blk.free {w : World} {b : Nat} {t : TypeId} {cs : List Value} (h : Blk w b t cs) (j : Nat) : w.frozen? ⟨b, j, none⟩ = false := frozen_of_row w b j _ t h
theorem Blk.lt {w : World} {b : Nat} {t : TypeId} {cs : List Value} (h : Blk w b t cs) : b < w.heap.size := by
  unfold Blk at h
  exact (Array.getElem?_eq_some_iff.1 h).1
theorem Blk.set {w : World} {b : Nat} {t : TypeId} {cs : List Value} (h : Blk w b t cs) (i : Nat) (v : Value) : Blk (w.setCell ⟨b, i, none⟩ v) b t (cs.set i v) := by
  have := heap_setCell_same w b i cs.toArray t v h
  unfold Blk
  rw [this]
  simp
theorem Blk.other {w : World} {b : Nat} {t : TypeId} {cs : List Value} (h : Blk w b t cs) {a : Addr} (hne : b ≠ a.block) (v : Value) : Blk (w.setCell a v) b t cs := by
  unfold Blk; rw [heap_setCell_other w a b v hne]; exact h
theorem Blk.alloc {w : World} {b : Nat} {t : TypeId} {cs : List Value} (h : Blk w b t cs) (o : Obj) : Blk (w.alloc o) b t cs := by
  unfold Blk; rw [Below.heap_alloc w o b h.lt]; exact h
theorem Blk.new (w : World) (t : TypeId) (cs : List Value) : Blk (w.alloc (.cells cs.toArray t)) w.heap.size t cs := heap_alloc_new w _
theorem Blk.new' (w : World) (t : TypeId) (cs : Array Value) : Blk (w.alloc (.cells cs t)) w.heap.size t cs.toList := heap_alloc_new w _
theorem Blk.new2 (w : World) (t : TypeId) (cs : Array Value) (l : List Value) (n : Nat) (hn : n = w.heap.size) (hl : cs = l.toArray) : Blk (w.alloc (.cells cs t)) n t l := by
  subst hn; subst hl; exact Blk.new w t l
theorem Blk.drew {w : World} {b : Nat} {t : TypeId} {cs : List Value} (h : Blk w b t cs) : Blk w.drew b t cs := h
theorem Blk.below {B : Nat} {w w' : World} {b : Nat} {t : TypeId} {cs : List Value} (h : Blk w b t cs) (hb : Below B w w') (hB : b < B) : Blk w' b t cs := by
  unfold Blk; rw [hb.block b hB]; exact h
theorem Blk.range {w : World} {b : Nat} {t : TypeId} {cs : List Value} (h : Blk w b t cs) (o n : Nat) : w.rangeAt b o ((cs.drop o).take n) := fun j v hv => by
  refine h.cell ?_
  rw [List.getElem?_take] at hv
  split at hv
  · simpa [List.getElem?_drop] using hv
  · cases hv
theorem Blk.whole {w : World} {b : Nat} {t : TypeId} {cs : List Value} (h : Blk w b t cs) : w.rangeAt b 0 cs := fun j v hv => by
  rw [Nat.zero_add]; exact h.cell hv
theorem Blk.there {w : World} {b : Nat} {t : TypeId} {cs : List Value} (h : Blk w b t cs) (o n : Nat) (hn : o + n ≤ cs.length) : w.there b o n := fun j hj => by
  refine ⟨?_, h.free _⟩
  rw [h.cell (v := cs[o + j]'(by omega)) (List.getElem?_eq_getElem (by omega))]; rfl

/-- What a store of many cells at once leaves. -/
def splice (cs : List Value) (o : Nat) (vs : List Value) : List Value := cs.take o ++ vs ++ cs.drop (o + vs.length)
theorem splice_length {cs vs : List Value} {o : Nat} (h : o + vs.length ≤ cs.length) : (splice cs o vs).length = cs.length := by
  simp [splice]; omega
theorem splice_cons (cs : List Value) (o : Nat) (v : Value) (r : List Value) (h : o < cs.length) : splice (cs.set o v) (o + 1) r = splice cs o (v :: r) := by
  unfold splice
  apply List.ext_getElem?
  intro i
  have e1 : (cs.set o v).drop (o + 1 + r.length) = cs.drop (o + (r.length + 1)) := by
    rw [show o + (r.length + 1) = o + 1 + r.length by omega]
    apply List.ext_getElem?
    intro j
    simp [List.getElem?_drop, List.getElem?_set]
    omega
  have e2 : (cs.set o v).take (o + 1) = cs.take o ++ [v] := by
    apply List.ext_getElem?
    intro j
    simp only [List.getElem?_take, List.getElem?_set, List.getElem?_append, List.length_take]
    by_cases h1 : j < o
    · have : j < min o cs.length := by omega
      simp [this, h1, show j < o + 1 by omega]; omega
    · by_cases h2 : j = o
      · subst h2
        simp [h, Nat.min_eq_left (Nat.le_of_lt h)]
      · have a1 : ¬ j < o + 1 := by omega
        have a2 : ¬ j < min o cs.length := by omega
        rw [if_neg a1, if_neg a2, List.getElem?_eq_none (by simp; omega)]
  rw [e1, e2]
  simp
theorem Blk.setCells : ∀ (vs : List Value) {w : World} {b : Nat} {t : TypeId} {cs : List Value} (_ : Blk w b t cs) (o : Nat) (_ : o + vs.length ≤ cs.length), Blk (w.setCells b o vs) b t (splice cs o vs)
  | [], w, b, t, cs, h, o, _ => by simpa [splice, World.setCells] using h
  | v :: r, w, b, t, cs, h, o, hl => by
    have := Blk.setCells r (h.set o v) (o + 1) (by simp at hl ⊢; omega)
    rw [splice_cons cs o v r (by simp at hl; omega)] at this
    exact this
theorem Blk.setWhole {w : World} {b : Nat} {t : TypeId} {cs : List Value} (h : Blk w b t cs) (vs : List Value) (hl : vs.length = cs.length) : Blk (w.setCells b 0 vs) b t vs := by
  have := Blk.setCells vs h 0 (by omega)
  simpa [splice, hl] using this
theorem Blk.setCells_other (vs : List Value) {w : World} {b : Nat} {t : TypeId} {cs : List Value} (h : Blk w b t cs) {b' : Nat} (o : Nat) (hne : b ≠ b') : Blk (w.setCells b' o vs) b t cs := by
  induction vs generalizing w o with
  | nil => exact h
  | cons v r ih => exact ih (h.other hne v) (o + 1)
theorem below_setCells (vs : List Value) {B : Nat} {a w : World} (h : Below B a w) {b : Nat} (o : Nat) (hb : B ≤ b) : Below B a (w.setCells b o vs) := by
  induction vs generalizing w o with
  | nil => exact h
  | cons v r ih => exact ih (h.setCell hb v) (o + 1)
theorem size_setCells (vs : List Value) (w : World) (b o : Nat) : (w.setCells b o vs).heap.size = w.heap.size := by
  induction vs generalizing w o with
  | nil => rfl
  | cons v r ih => rw [World.setCells, ih]; simp [World.setCell]

/-- Of all that was there only block b may have changed; blocks may have come. -/
structure Upd (b : Nat) (w w' : World) : Prop where
  os : w'.os = w.os
  tape : w'.tape = w.tape
  output : w'.output = w.output
  size : w.heap.size ≤ w'.heap.size
  block : ∀ k, k < w.heap.size → k ≠ b → w'.heap[k]? = w.heap[k]?
theorem Upd.refl (b : Nat) (w : World) : Upd b w w := ⟨rfl, rfl, rfl, Nat.le_refl _, fun _ _ _ => rfl⟩
theorem Upd.trans {b : Nat} {u v w : World} (h : Upd b u v) (k : Upd b v w) : Upd b u w :=
  ⟨k.os.trans h.os, k.tape.trans h.tape, k.output.trans h.output, Nat.le_trans h.size k.size, fun i hi hb => (k.block i (Nat.lt_of_lt_of_le hi h.size) hb).trans (h.block i hi hb)⟩
theorem Upd.of_below {b B : Nat} {w w' : World} (h : Below B w w') (hB : w.heap.size ≤ B) : Upd b w w' :=
  ⟨h.os, h.tape, h.output, h.size, fun k hk _ => h.block k (by omega)⟩
theorem Upd.below {b B : Nat} {a w w' : World} (h : Upd b w w') (k : Below B a w) (hb : B ≤ b) (hB : B ≤ w.heap.size) : Below B a w' :=
  k.trans ⟨h.os, h.tape, h.output, h.size, fun i hi => h.block i (by omega) (by omega)⟩
theorem Upd.blk {b : Nat} {w w' : World} (h : Upd b w w') {k : Nat} {t : TypeId} {cs : List Value} (hk : Blk w k t cs) (hb : k ≠ b) : Blk w' k t cs := by
  unfold Blk; rw [h.block k hk.lt hb]; exact hk
theorem Upd.cell {b : Nat} {w w' : World} (h : Upd b w w') {p : Addr} (hp : p.block < w.heap.size) (hb : p.block ≠ b) : w'.cell? p = w.cell? p := World.cell?_of_block (w := w) (h.block p.block hp hb)
theorem Upd.drew {b : Nat} {w w' : World} (h : Upd b w w') : Upd b w w'.drew := ⟨h.os, h.tape, h.output, h.size, h.block⟩
theorem Upd.alloc {b : Nat} {u w : World} (h : Upd b u w) (o : Obj) : Upd b u (w.alloc o) :=
  h.trans (Upd.of_below ((Below.refl w.heap.size w).alloc (Nat.le_refl _) o) (Nat.le_refl _))
theorem Upd.setCell {b : Nat} {u w : World} (h : Upd b u w) (i : Nat) (v : Value) : Upd b u (w.setCell ⟨b, i, none⟩ v) :=
  h.trans ⟨rfl, rfl, rfl, by simp [World.setCell], fun k _ hk => Below.heap_setCell w ⟨b, i, none⟩ v k hk⟩
theorem Upd.setCells (vs : List Value) {b : Nat} {u w : World} (h : Upd b u w) (o : Nat) : Upd b u (w.setCells b o vs) := by
  induction vs generalizing w o with
  | nil => exact h
  | cons v r ih => exact ih (h.setCell o v) (o + 1)

/-- A whole array is stored into a block that is known whole: the walk goes on in a world of which just that is said. -/
theorem wpList_store_whole {P : Program} {ops : Array Oper} {rest : List Oper} {op : Oper} {a : Act} {w : World} {Q : Exit → Act → World → Prop} (hgd : op.guard = none) (ty : TypeId) (x y : Operand) (ho : op.op = .store ty x y)
    (b : Nat) (vs : List Value) (hx : a.eval x = .pointer (some ⟨b, 0, none⟩)) (hy : a.eval y = .agg vs.toArray) (t : TypeId) (cs : List Value) (hb : Blk w b t cs) (hl : vs.length = cs.length)
    (hi : (P.info? ty).map (·.size) = some vs.length) (h1 : vs.toArray.all (·.oneCell') = true)
    (h : ∀ w', Blk w' b t vs → Upd b w w' → w'.heap.size = w.heap.size → wpList P ops Q rest (a.put op.dst undef) w') : wpList P ops Q (op :: rest) a w :=
  wpList_store_mid hgd ty x y ho b 0 vs.toArray hx hy (by simpa [hl] using hb.there 0 cs.length (by omega)) (by simpa using hi) h1
    (h _ (hb.setWhole vs hl) ((Upd.refl b w).setCells vs 0) (size_setCells vs w b 0))

/-- The integers of a kind, as cells. -/
def ints (k : IntKind) (l : List Int) : List Value := l.map (Value.int k)
theorem ints_length (k : IntKind) (l : List Int) : (ints k l).length = l.length := by simp [ints]
theorem ints_get {k : IntKind} {l : List Int} {j : Nat} {v : Int} (h : l[j]? = some v) : (ints k l)[j]? = some (.int k v) := by simp [ints, h]
theorem ints_getD {k : IntKind} {l : List Int} {j : Nat} (h : j < l.length) : (ints k l)[j]? = some (.int k (l.getD j 0)) := by simp [ints, h]
theorem ints_set (k : IntKind) (l : List Int) (i : Nat) (v : Int) : (ints k l).set i (.int k v) = ints k (l.set i v) := by simp [ints]
theorem ints_oneCell (k : IntKind) (l : List Int) : (ints k l).toArray.all (·.oneCell') = true :=
  all_oneCell_toArray fun v hv => by
    simp only [ints, List.mem_map] at hv
    obtain ⟨x, _, rfl⟩ := hv
    rfl
end Go.Proofs.YtkfemngknmnnmaaDoor
