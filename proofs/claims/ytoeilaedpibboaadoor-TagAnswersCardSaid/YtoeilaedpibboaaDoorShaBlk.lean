/- A block of memory that is known whole, as a list of cells: what reading, writing and allocating do to it. General lemmas on the model's worlds; nothing about the program. -/
import Derived.WalkKit
import Derived.Deep.MidRow
import Derived.Deep.WholeRow
import Derived.Deep.OwnRows
import Derived.Laws.CopyOwn
import Derived.Orders
import Derived.OrdersHeld
import Derived.DeepKeys
import Derived.Laws.StructEq
namespace Go.Proofs.YtoeilaedpibboaaDoor
open Go Go.RowKit

/-- Block b is a row of just the cells cs, of type t, none of them frozen. -/
def Blk (w : World) (b : Nat) (t : TypeId) (cs : List Value) : Prop := w.heap[b]? = some (.cells cs.toArray t (0, 0))

theorem Blk.cell {w : World} {b : Nat} {t : TypeId} {cs : List Value} (h : Blk w b t cs) {j : Nat} {v : Value} (hv : cs[j]? = some v) : w.cell? ⟨b, j, none⟩ = some v := by
  rw [cell_of_row w b j cs.toArray t (0, 0) h]; simpa using hv
theorem Blk.free {w : World} {b : Nat} {t : TypeId} {cs : List Value} (h : Blk w b t cs) (j : Nat) : w.frozen? ⟨b, j, none⟩ = false := frozen_of_row w b j _ t h
theorem Blk.lt {w : World} {b : Nat} {t : TypeId} {cs : List Value} (h : Blk w b t cs) : b < w.heap.size := by
  unfold Blk at h
  exact (Array.getElem?_eq_some_iff.1 h).1
theorem Blk.set {w : World} {b : Nat} {t : TypeId} {cs : List Value} (h : Blk w b t cs) (i : Nat) (v : Value) : Blk (w.setCell ⟨b, i, none⟩ v) b t (cs.set i v) := by
  have := heap_setCell_same w b i cs.toArray t v h
  unfold Blk
  rw [this]
  simp
theorem Blk.other {w : World} {b : Nat} {t : TypeId} {cs : List Value} (h : Blk w b t cs) {a : Addr} (hne : b ≠ a.block) (v : Value) : Blk (w.setCell a v) b t cs := by
  unfold Blk; rw [heap_setCell_other w a b v hne]; exact h
theorem Blk.alloc {w : World} {b : Nat} {t : TypeId} {cs : List Value} (h : Blk w b t cs) (o : Obj) : Blk (w.alloc o) b t cs := by
  unfold Blk; rw [Below.heap_alloc w o b h.lt]; exact h
theorem Blk.new (w : World) (t : TypeId) (cs : List Value) : Blk (w.alloc (.cells cs.toArray t)) w.heap.size t cs := heap_alloc_new w _
theorem Blk.new' (w : World) (t : TypeId) (cs : Array Value) : Blk (w.alloc (.cells cs t)) w.heap.size t cs.toList := heap_alloc_new w _
theorem Blk.new2 (w : World) (t : TypeId) (cs : Array Value) (l : List Value) (n : Nat) (hn : n = w.heap.size) (hl : cs = l.toArray) : Blk (w.alloc (.cells cs t)) n t l := by
  subst hn; subst hl; exact Blk.new w t l
theorem Blk.drew {w : World} {b : Nat} {t : TypeId} {cs : List Value} (h : Blk w b t cs) : Blk w.drew b t cs := h
theorem Blk.below {B : Nat} {w w' : World} {b : Nat} {t : TypeId} {cs : List Value} (h : Blk w b t cs) (hb : Below B w w') (hB : b < B) : Blk w' b t cs := by
  unfold Blk; rw [hb.block b hB]; exact h
theorem Blk.range {w : World} {b : Nat} {t : TypeId} {cs : List Value} (h : Blk w b t cs) (o n : Nat) : w.rangeAt b o ((cs.drop o).take n) := fun j v hv => by
  refine h.cell ?_
  rw [List.getElem?_take] at hv
  split at hv
  · simpa [List.getElem?_drop] using hv
  · cases hv
theorem Blk.whole {w : World} {b : Nat} {t : TypeId} {cs : List Value} (h : Blk w b t cs) : w.rangeAt b 0 cs := fun j v hv => by
  rw [Nat.zero_add]; exact h.cell hv
theorem Blk.there {w : World} {b : Nat} {t : TypeId} {cs : List Value} (h : Blk w b t cs) (o n : Nat) (hn : o + n ≤ cs.length) : w.there b o n := fun j hj => by
  refine ⟨?_, h.free _⟩
  rw [h.cell (v := cs[o + j]'(by omega)) (List.getElem?_eq_getElem (by omega))]; rfl

/-- What a store of many cells at once leaves. -/
def splice (cs : List Value) (o : Nat) (vs : List Value) : List Value := cs.take o ++ vs ++ cs.drop (o + vs.length)
theorem splice_length {cs vs : List Value} {o : Nat} (h : o + vs.length ≤ cs.length) : (splice cs o vs).length = cs.length := by
  simp [splice]; omega
theorem splice_cons (cs : List Value) (o : Nat) (v : Value) (r : List Value) (h : o < cs.length) : splice (cs.set o v) (o + 1) r = splice cs o (v :: r) := by
  unfold splice
  apply List.ext_getElem?
  intro i
  have e1 : (cs.set o v).drop (o + 1 + r.length) = cs.drop (o + (r.length + 1)) := by
    rw [show o + (r.length + 1) = o + 1 + r.length by omega]
    apply List.ext_getElem?
    intro j
    simp [List.getElem?_drop, List.getElem?_set]
    omega
  have e2 : (cs.set o v).take (o + 1) = cs.take o ++ [v] := by
    apply List.ext_getElem?
    intro j
    simp only [List.getElem?_take, List.getElem?_set, List.getElem?_append, List.length_take]
    by_cases h1 : j < o
    · have : j < min o cs.length := by omega
      simp [this, h1, show j < o + 1 by omega]; omega
    · by_cases h2 : j = o
      · subst h2
        simp [h, Nat.min_eq_left (Nat.le_of_lt h)]
      · have a1 : ¬ j < o + 1 := by omega
        have a2 : ¬ j < min o cs.length := by omega
        rw [if_neg a1, if_neg a2, List.getElem?_eq_none (by simp; omega)]
  rw [e1, e2]
  simp
theorem Blk.setCells : ∀ (vs : List Value) {w : World} {b : Nat} {t : TypeId} {cs : List Value} (_ : Blk w b t cs) (o : Nat) (_ : o + vs.length ≤ cs.length), Blk (w.setCells b o vs) b t (splice cs o vs)
  | [], w, b, t, cs, h, o, _ => by simpa [splice, World.setCells] using h
  | v :: r, w, b, t, cs, h, o, hl => by
    have := Blk.setCells r (h.set o v) (o + 1) (by simp at hl ⊢; omega)
    rw [splice_cons cs o v r (by simp at hl; omega)] at this
    exact this
theorem Blk.setWhole {w : World} {b : Nat} {t : TypeId} {cs : List Value} (h : Blk w b t cs) (vs : List Value) (hl : vs.length = cs.length) : Blk (w.setCells b 0 vs) b t vs := by
  have := Blk.setCells vs h 0 (by omega)
  simpa [splice, hl] using this
theorem Blk.setCells_other (vs : List Value) {w : World} {b : Nat} {t : TypeId} {cs : List Value} (h : Blk w b t cs) {b' : Nat} (o : Nat) (hne : b ≠ b') : Blk (w.setCells b' o vs) b t cs := by
  induction vs generalizing w o with
  | nil => exact h
  | cons v r ih => exact ih (h.other hne v) (o + 1)
theorem below_setCells (vs : List Value) {B : Nat} {a w : World} (h : Below B a w) {b : Nat} (o : Nat) (hb : B ≤ b) : Below B a (w.setCells b o vs) := by
  induction vs generalizing w o with
  | nil => exact h
  | cons v r ih => exact ih (h.setCell hb v) (o + 1)
theorem size_setCells (vs : List Value) (w : World) (b o : Nat) : (w.setCells b o vs).heap.size = w.heap.size := by
  induction vs generalizing w o with
  | nil => rfl
  | cons v r ih => rw [World.setCells, ih]; simp [World.setCell]

/-- Of all that was there only block b may have changed; blocks may have come. -/
structure Upd (b : Nat) (w w' : World) : Prop where
  os : w'.os = w.os
  tape : w'.tape = w.tape
  output : w'.output = w.output
  size : w.heap.size ≤ w'.heap.size
  block : ∀ k, k < w.heap.size → k ≠ b → w'.heap[k]? = w.heap[k]?
theorem Upd.refl (b : Nat) (w : World) : Upd b w w := ⟨rfl, rfl, rfl, Nat.le_refl _, fun _ _ _ => rfl⟩
theorem Upd.trans {b : Nat} {u v w : World} (h : Upd b u v) (k : Upd b v w) : Upd b u w :=
  ⟨k.os.trans h.os, k.tape.trans h.tape, k.output.trans h.output, Nat.le_trans h.size k.size, fun i hi hb => (k.block i (Nat.lt_of_lt_of_le hi h.size) hb).trans (h.block i hi hb)⟩
theorem Upd.of_below {b B : Nat} {w w' : World} (h : Below B w w') (hB : w.heap.size ≤ B) : Upd b w w' :=
  ⟨h.os, h.tape, h.output, h.size, fun k hk _ => h.block k (by omega)⟩
theorem Upd.below {b B : Nat} {a w w' : World} (h : Upd b w w') (k : Below B a w) (hb : B ≤ b) (hB : B ≤ w.heap.size) : Below B a w' :=
  k.trans ⟨h.os, h.tape, h.output, h.size, fun i hi => h.block i (by omega) (by omega)⟩
theorem Upd.blk {b : Nat} {w w' : World} (h : Upd b w w') {k : Nat} {t : TypeId} {cs : List Value} (hk : Blk w k t cs) (hb : k ≠ b) : Blk w' k t cs := by
  unfold Blk; rw [h.block k hk.lt hb]; exact hk
theorem Upd.cell {b : Nat} {w w' : World} (h : Upd b w w') {p : Addr} (hp : p.block < w.heap.size) (hb : p.block ≠ b) : w'.cell? p = w.cell? p := World.cell?_of_block (w := w) (h.block p.block hp hb)
theorem Upd.drew {b : Nat} {w w' : World} (h : Upd b w w') : Upd b w w'.drew := ⟨h.os, h.tape, h.output, h.size, h.block⟩
theorem Upd.alloc {b : Nat} {u w : World} (h : Upd b u w) (o : Obj) : Upd b u (w.alloc o) :=
  h.trans (Upd.of_below ((Below.refl w.heap.size w).alloc (Nat.le_refl _) o) (Nat.le_refl _))
theorem Upd.setCell {b : Nat} {u w : World} (h : Upd b u w) (i : Nat) (v : Value) : Upd b u (w.setCell ⟨b, i, none⟩ v) :=
  h.trans ⟨rfl, rfl, rfl, by simp [World.setCell], fun k _ hk => Below.heap_setCell w ⟨b, i, none⟩ v k hk⟩
theorem Upd.setCells (vs : List Value) {b : Nat} {u w : World} (h : Upd b u w) (o : Nat) : Upd b u (w.setCells b o vs) := by
  induction vs generalizing w o with
  | nil => exact h
  | cons v r ih => exact ih (h.setCell o v) (o + 1)

/-- A whole array is stored into a block that is known whole: the walk goes on in a world of which just that is said. -/
theorem wpList_store_whole {P : Program} {ops : Array Oper} {rest : List Oper} {op : Oper} {a : Act} {w : World} {Q : Exit → Act → World → Prop} (hgd : op.guard = none) (ty : TypeId) (x y : Operand) (ho : op.op = .store ty x y)
    (b : Nat) (vs : List Value) (hx : a.eval x = .pointer (some ⟨b, 0, none⟩)) (hy : a.eval y = .agg vs.toArray) (t : TypeId) (cs : List Value) (hb : Blk w b t cs) (hl : vs.length = cs.length)
    (hi : (P.info? ty).map (·.size) = some vs.length) (h1 : vs.toArray.all (·.oneCell') = true)
    (h : ∀ w', Blk w' b t vs → Upd b w w' → w'.heap.size = w.heap.size → wpList P ops Q rest (a.put op.dst undef) w') : wpList P ops Q (op :: rest) a w :=
  wpList_store_mid hgd ty x y ho b 0 vs.toArray hx hy (by simpa [hl] using hb.there 0 cs.length (by omega)) (by simpa using hi) h1
    (h _ (hb.setWhole vs hl) ((Upd.refl b w).setCells vs 0) (size_setCells vs w b 0))

/-- The integers of a kind, as cells. -/
def ints (k : IntKind) (l : List Int) : List Value := l.map (Value.int k)
theorem ints_length (k : IntKind) (l : List Int) : (ints k l).length = l.length := by simp [ints]
theorem ints_get {k : IntKind} {l : List Int} {j : Nat} {v : Int} (h : l[j]? = some v) : (ints k l)[j]? = some (.int k v) := by simp [ints, h]
theorem ints_getD {k : IntKind} {l : List Int} {j : Nat} (h : j < l.length) : (ints k l)[j]? = some (.int k (l.getD j 0)) := by simp [ints, h]
theorem ints_set (k : IntKind) (l : List Int) (i : Nat) (v : Int) : (ints k l).set i (.int k v) = ints k (l.set i v) := by simp [ints]
theorem ints_oneCell (k : IntKind) (l : List Int) : (ints k l).toArray.all (·.oneCell') = true :=
  all_oneCell_toArray fun v hv => by
    simp only [ints, List.mem_map] at hv
    obtain ⟨x, _, rfl⟩ := hv
    rfl
end Go.Proofs.YtoeilaedpibboaaDoor
/- More laws on whole blocks: a slice that is made, with its block known whole. General lemmas on the model's worlds; nothing about the program. -/
namespace Go.Proofs.YtoeilaedpibboaaDoor
open Go Go.RowKit Go.Deep

/-- make([]T, n) of one-cell elements: the walk goes on in a world of which the new block is known whole. -/
theorem wpList_make_blk {P : Program} (w : World) {ops : Array Oper} {rest : List Oper} {o : Oper} {a : Act} {Q : Exit → Act → World → Prop}
    (hg : o.guard = none) (l c : Operand) (t : TypeId) (hop : o.op = Op.makeSlice t l c) (e : TypeId) (z : Value) (bytes : Nat) (h1 : P.underlying t = some (.slice e))
    (hinfo : (P.info? e).map (fun i => (i.zero, i.size, i.bytes)) = some (some z, 1, bytes)) (hz1 : z.cells = #[z]) (kl kc : IntKind) (L C : Int) (n : Nat)
    (hl : a.eval l = .int kl L) (hc : a.eval c = .int kc C) (hL : L = (n : Int)) (hC : C = (n : Int)) (b2 : bytes * n ≤ 281474976710656) (b3 : n ≤ 9223372036854775807)
    (hK : ∀ w', Blk w' w.heap.size e (List.replicate n z) → Below w.heap.size w w' → w'.heap.size = w.heap.size + 1 → wpList P ops Q rest (a.put o.dst (.slice (some ⟨w.heap.size, 0, none⟩) n n)) w') :
    wpList P ops Q (o :: rest) a w := by
  refine wpList_plain hg fun K hK' => ?_
  have hrun := run_make_row' (P := P) t e z bytes h1 hinfo hz1 kl kc n b2 b3 w
  subst hL
  subst hC
  unfold Oper.wp
  simp [execOp, hop, hl, hc, hrun, Result.andThen]
  refine hK' _ _ (hK _ (Blk.new2 _ _ _ _ _ rfl ?_) ((Below.refl _ _).alloc (Nat.le_refl _) _) (by simp))
  rw [← toList_madeCells_one]
theorem ints_one (k : IntKind) (l : List Int) : ∀ v ∈ ints k l, v.oneCell' = true := fun v hv => by
  simp only [ints, List.mem_map] at hv
  obtain ⟨x, _, rfl⟩ := hv
  rfl
theorem Upd.setRow {b : Nat} {u w : World} (h : Upd b u w) (cs : Array Value) : Upd b u (w.setRow b cs) :=
  h.trans ⟨rfl, rfl, rfl, by simp [World.setRow], fun k _ hk => setRow_other w b k cs hk⟩
theorem Blk.setRow {w : World} {b : Nat} {t : TypeId} {cs : List Value} (h : Blk w b t cs) (l : List Value) : Blk (w.setRow b l.toArray) b t l := setRow_heap w b _ _ t _ h

/-- copy(dst, src) into a block that is known whole, from a range that lies somewhere: some bytes at least are copied. -/
theorem wpList_copy_blk {P : Program} {w : World} {ops : Array Oper} {rest : List Oper} {o : Oper} {a : Act} {Q : Exit → Act → World → Prop} (hgd : o.guard = none) (d s : Operand) (dT sT : TypeId)
    (ho : o.op = .call { callee := .builtin .copy, args := #[d, s], argTypes := #[dT, sT] }) (elem : TypeId) (hu : P.underlying dT = some (.slice elem)) (hsz : (P.info? elem).map (·.size) = some 1)
    (g off dLen dCap : Nat) (pb po sLen sCap : Nat) (hd : a.eval d = .slice (some ⟨g, off, none⟩) dLen dCap) (hs : a.eval s = .slice (some ⟨pb, po, none⟩) sLen sCap)
    (cur : List Value) (t : TypeId) (hg : Blk w g t cur) (cs : List Value) (hn : cs.length = Nat.min sLen dLen)
    (hsrc : w.rangeAt pb po cs) (hfit : off + cs.length ≤ cur.length) (h1 : ∀ v ∈ cs, v.oneCell' = true) (m : Nat) (hm : cs.length = m)
    (h : ∀ w', Blk w' g t (splice cur off cs) → Upd g w w' → wpList P ops Q rest (a.put o.dst (.int .i64 (m : Int))) w') :
    wpList P ops Q (o :: rest) a w := by
  subst hm
  refine wpList_copy_own hgd d s dT sT ho elem hu hsz g off dLen dCap ⟨pb, po, none⟩ sLen sCap hd hs cur.toArray t hg cs hn (fun j v hv => ?_) (by simpa using hfit) h1 ?_
  · rw [Addr.add_mid]; exact hsrc j v hv
  · have e : (cur.toArray.toList.take off ++ (cs ++ cur.toArray.toList.drop (off + cs.length))) = splice cur off cs := by simp [splice]
    rw [e]
    exact h _ (hg.setRow _) ((Upd.refl g w).setRow _)
end Go.Proofs.YtoeilaedpibboaaDoor
/- Steps through a region that draws its order, one operation at a time, each with its run given by an equation. General lemmas on the model; nothing about the program. -/
namespace Go.Proofs.YtoeilaedpibboaaDoor
open Go Go.RowKit

section
variable {P : Program} {ops : Array Oper} {Q : Exit → Act → World → Prop} {md : Region.Mode}

/-- Operation i gives a value. -/
theorem wpOp_value {i : Nat} {K : Act → World → Prop} {a : Act} {w w' : World} {op : Oper} (v : Value) (hi : ops[i]? = some op) (hw : Region.wanted op (yielded ops a.tmps) = true)
    (hrun : (execOp a.eval op).run P w = .ok (.value v) w') (h : K (a.put op.dst v) w') : wpOp P ops Q i K a w := by
  unfold wpOp; simp only [hi]; rw [if_pos hw]; refine Or.inl ?_; unfold Oper.wp; rw [hrun]; exact h
/-- Operation i gives nothing (a store). -/
theorem wpOp_skip {i : Nat} {K : Act → World → Prop} {a : Act} {w w' : World} {op : Oper} (hi : ops[i]? = some op) (hw : Region.wanted op (yielded ops a.tmps) = true)
    (hrun : (execOp a.eval op).run P w = .ok .skip w') (h : K (a.put op.dst undef) w') : wpOp P ops Q i K a w := by
  unfold wpOp; simp only [hi]; rw [if_pos hw]; refine Or.inl ?_; unfold Oper.wp; rw [hrun]; exact h
/-- Operation i calls a function whose contract is known. -/
theorem wpOp_call {i : Nat} {K : Act → World → Prop} {a : Act} {w : World} {op : Oper} (f : FuncId) (args : Array Value) (v : Value) (R : World → Prop) (hi : ops[i]? = some op) (hw : Region.wanted op (yielded ops a.tmps) = true)
    (hrun : (execOp a.eval op).run P w = .ok (.enter f args) w) (hc : Calls P f args w fun e w' => e = .returned v ∧ R w') (h : ∀ w', R w' → K (a.put op.dst v) w') : wpOp P ops Q i K a w := by
  unfold wpOp; simp only [hi]; rw [if_pos hw]; refine Or.inl ?_; unfold Oper.wp; rw [hrun]
  refine hc.mono fun e w' ⟨he, hR⟩ => ?_
  subst he
  exact h w' hR
/-- The same, where the result is not known beforehand. -/
theorem wpOp_callE {i : Nat} {K : Act → World → Prop} {a : Act} {w : World} {op : Oper} (f : FuncId) (args : Array Value) (R : Ending → World → Prop) (hi : ops[i]? = some op) (hw : Region.wanted op (yielded ops a.tmps) = true)
    (hrun : (execOp a.eval op).run P w = .ok (.enter f args) w) (hc : Calls P f args w R) (h : ∀ e w', R e w' → ∃ v, e = .returned v ∧ K (a.put op.dst v) w') : wpOp P ops Q i K a w := by
  unfold wpOp; simp only [hi]; rw [if_pos hw]; refine Or.inl ?_; unfold Oper.wp; rw [hrun]
  refine hc.mono fun e w' hR => ?_
  obtain ⟨v, rfl, hk⟩ := h e w' hR
  exact hk
/-- An operation of a plain region gives a value, by an equation on its run. -/
theorem wpList_value {rest : List Oper} {op : Oper} {a : Act} {w w' : World} (hgd : op.guard = none) (v : Value) (hrun : (execOp a.eval op).run P w = .ok (.value v) w') (h : wpList P ops Q rest (a.put op.dst v) w') : wpList P ops Q (op :: rest) a w :=
  wpList_plain hgd fun K hK => by unfold Oper.wp; rw [hrun]; exact hK _ _ h
/-- The one operation that may come up. -/
theorem wpAny_one {i fuel : Nat} {listed : Array Bool} {a : Act} {w : World} (hr : Region.ready md ops listed = [i]) (h : wpOp P ops Q i (wpAny P md ops Q fuel (listed.setIfInBounds i true)) a w) : wpAny P md ops Q (fuel + 1) listed a w :=
  wpAny_all hr (by simp) fun j hj => by
    have : j = i := by simpa using hj
    subst this; exact h
/-- Two that may come up. -/
theorem wpAny_two {i j fuel : Nat} {listed : Array Bool} {a : Act} {w : World} (hr : Region.ready md ops listed = [i, j]) (h1 : wpOp P ops Q i (wpAny P md ops Q fuel (listed.setIfInBounds i true)) a w)
    (h2 : wpOp P ops Q j (wpAny P md ops Q fuel (listed.setIfInBounds j true)) a w) : wpAny P md ops Q (fuel + 1) listed a w :=
  wpAny_all hr (by simp) fun k hk => by
    have : k = i ∨ k = j := by simpa using hk
    rcases this with rfl | rfl
    · exact h1
    · exact h2
/-- The one operation that may come up, while S is kept. -/
theorem wpAnyH_one {S : World → Prop} {i fuel : Nat} {listed : Array Bool} {a : Act} {w : World} (hr : Region.ready md ops listed = [i]) (h : wpOp P ops Q i (fun a' w' => S w' ∧ wpAnyH P md ops Q S fuel (listed.setIfInBounds i true) a' w') a w) : wpAnyH P md ops Q S (fuel + 1) listed a w :=
  wpAnyH_all hr (by simp) fun j hj => by
    have : j = i := by simpa using hj
    subst this; exact h
/-- What only one of several may come up as, by a test on each. -/
theorem wpAnyH_two {S : World → Prop} {i j fuel : Nat} {listed : Array Bool} {a : Act} {w : World} (hr : Region.ready md ops listed = [i, j]) (h1 : wpOp P ops Q i (fun a' w' => S w' ∧ wpAnyH P md ops Q S fuel (listed.setIfInBounds i true) a' w') a w)
    (h2 : wpOp P ops Q j (fun a' w' => S w' ∧ wpAnyH P md ops Q S fuel (listed.setIfInBounds j true) a' w') a w) : wpAnyH P md ops Q S (fuel + 1) listed a w :=
  wpAnyH_all hr (by simp) fun k hk => by
    have : k = i ∨ k = j := by simpa using hk
    rcases this with rfl | rfl
    · exact h1
    · exact h2
/-- An operation is taken first that yields in every world. -/
theorem wpAnyH_now {S : World → Prop} {i : Nat} {oi : Oper} {fuel : Nat} {listed : Array Bool} {a : Act} {w : World} (v : Value) (hi : ops[i]? = some oi)
    (hs : Region.noSelect ops = true) (hf : Region.free md ops listed i = true) (hr : (Region.ready md ops listed).contains i = true) (hw : Region.wanted oi (yielded ops a.tmps) = true)
    (hQ : ∀ c a w, Q (.panic c) (a.put oi.dst v) w → Q (.panic c) a w) (hy : ∀ w, (execOp a.eval oi).run P w = .ok (.value v) w) (hS : S w)
    (h : wpAnyH P md ops Q S fuel (listed.setIfInBounds i true) (a.put oi.dst v) w) : wpAnyH P md ops Q S (fuel + 1) listed a w :=
  wpAnyH_take hi hs hf hr hQ (Or.inl ⟨hw, fun w _ => hy w⟩) hS h
/-- An operation is taken first that yields in every world that meets S. -/
theorem wpAnyH_nowIf {S : World → Prop} {i : Nat} {oi : Oper} {fuel : Nat} {listed : Array Bool} {a : Act} {w : World} (v : Value) (hi : ops[i]? = some oi)
    (hs : Region.noSelect ops = true) (hf : Region.free md ops listed i = true) (hr : (Region.ready md ops listed).contains i = true) (hw : Region.wanted oi (yielded ops a.tmps) = true)
    (hQ : ∀ c a w, Q (.panic c) (a.put oi.dst v) w → Q (.panic c) a w) (hy : ∀ w, S w → (execOp a.eval oi).run P w = .ok (.value v) w) (hS : S w)
    (h : wpAnyH P md ops Q S fuel (listed.setIfInBounds i true) (a.put oi.dst v) w) : wpAnyH P md ops Q S (fuel + 1) listed a w :=
  wpAnyH_take hi hs hf hr hQ (Or.inl ⟨hw, hy⟩) hS h
/-- A whole array out of the middle of a block. -/
theorem exec_load_mid {a : Act} {w : World} {op : Oper} (ty : TypeId) (x : Operand) (ho : op.op = .load ty x) (b o : Nat) (hx : a.eval x = .pointer (some ⟨b, o, none⟩)) (cs : List Value) (d : TypeDesc) (hc : w.rangeAt b o cs)
    (hu : P.underlying ty = some d) (hd : d.isRow = true) (hi : (P.info? ty).map (·.size) = some cs.length) : (execOp a.eval op).run P w = .ok (.value (.agg cs.toArray)) w := by
  unfold execOp
  simp only [ho, hx, Instr.loadAt, Instr.sureAddr, Sem.run_bind, Sem.run_pure, Result.andThen_ok, run_loadVar_mid w b o ty cs d hc hu hd hi]
/-- A whole array into the middle of a block. -/
theorem exec_store_mid {a : Act} {w : World} {op : Oper} (ty : TypeId) (x y : Operand) (ho : op.op = .store ty x y) (b o : Nat) (vs : List Value) (hx : a.eval x = .pointer (some ⟨b, o, none⟩)) (hy : a.eval y = .agg vs.toArray)
    (ht : w.there b o vs.length) (hi : (P.info? ty).map (·.size) = some vs.length) (h1 : vs.toArray.all (·.oneCell') = true) : (execOp a.eval op).run P w = .ok .skip (w.setCells b o vs) := by
  unfold execOp
  simp only [ho, hx, hy, Instr.storeAt, Instr.sureAddr, Sem.run_bind, Sem.run_pure, Result.andThen_ok, run_storeVar_mid w b o ty vs.toArray (by simpa using ht) (by simpa using hi) h1]
end
end Go.Proofs.YtoeilaedpibboaaDoor
/- Steps through a region that draws its order, by the operations' numbers: each fact about the region's text is one that the kernel reckons. General lemmas on the model; nothing about the program. -/
namespace Go.Proofs.YtoeilaedpibboaaDoor
open Go Go.RowKit

/-- The operations of a function's region. -/
def codeRegion (id : Nat) : Code → Option (Array Oper)
  | .region i ops _ => if i = id then some ops else none
  | .seq a b => (codeRegion id a).orElse fun _ => codeRegion id b
  | .cond _ a b => (codeRegion id a).orElse fun _ => codeRegion id b
  | .block _ a => codeRegion id a
  | .loop a => codeRegion id a
  | .scope a => codeRegion id a
  | .rangeFunc _ _ a b => (codeRegion id a).orElse fun _ => codeRegion id b
  | _ => none
def opsOf (f : Func) (id : Nat) : Array Oper := (f.body.bind (codeRegion id)).getD #[]
/-- The operation of a number. -/
def opAt (ops : Array Oper) (i : Nat) : Oper := ops[i]?.getD { dst := none, op := .move (.tmp 0), type := 0, pos := "", after := #[], guard := none }

section
variable {P : Program} {ops : Array Oper} {Q : Exit → Act → World → Prop} {S : World → Prop} {fuel : Nat} {listed : Array Bool} {a : Act} {w : World}

theorem get_opAt {i : Nat} (hi : ops[i]?.isSome = true) : ops[i]? = some (opAt ops i) := by
  unfold opAt
  cases h : ops[i]? with
  | none => rw [h] at hi; cases hi
  | some o => rfl

/-- THE BEGINNING: what holds behind the region is Q; on the way it is a Q' of which only what is needed is known: the way is shown not to panic. -/
theorem region_begin {id : Nat} {ops0 : Array Oper} (ops : Array Oper) (S : World → Prop) (he : ops0 = ops) (hm : P.follows .mixedOrders = true) (n : Nat) (hn : ops.size = n)
    (h : ∀ Q' : Exit → Act → World → Prop, (∀ c a w d v, Q' (.panic c) (a.put d v) w → Q' (.panic c) a w) → (∀ a w, Q .normal a w → Q' .normal a w) → wpAnyH P .any ops Q' S n (Array.replicate n false) a w.drew) : (Code.region id ops0 true).wp P Q a w := by
  subst he
  subst hn
  refine Code.wp_mono (Q := fun e a w => match e with | .normal => Q .normal a w | _ => False) (fun e a w he => ?_) (wp_region_held hm (h _ (fun _ _ _ _ _ h => h) (fun _ _ h => h)))
  cases e <;> first | exact he | exact False.elim he

/-- An operation that yields in every world is taken first. -/
theorem reg_now (i : Nat) (v : Value) (d : Option Tmp) (hQ : ∀ c a w d v, Q (.panic c) (a.put d v) w → Q (.panic c) a w) (hS : S w)
    (hi : (ops[i]?.isSome && Region.noSelect ops && Region.free .any ops listed i && (Region.ready .any ops listed).contains i && Region.wanted (opAt ops i) (yielded ops a.tmps)) = true) (hd : (opAt ops i).dst = d)
    (hy : ∀ w, (execOp a.eval (opAt ops i)).run P w = .ok (.value v) w) (h : wpAnyH P .any ops Q S fuel (listed.setIfInBounds i true) (a.put d v) w) : wpAnyH P .any ops Q S (fuel + 1) listed a w := by
  simp only [Bool.and_eq_true] at hi
  obtain ⟨⟨⟨⟨h1, h2⟩, h3⟩, h4⟩, h5⟩ := hi
  subst hd
  exact wpAnyH_now v (get_opAt h1) h2 h3 h4 h5 (fun c a w h => hQ c a w _ _ h) hy hS h
/-- .. that yields in every world that meets S. -/
theorem reg_nowIf (i : Nat) (v : Value) (d : Option Tmp) (hQ : ∀ c a w d v, Q (.panic c) (a.put d v) w → Q (.panic c) a w) (hS : S w)
    (hi : (ops[i]?.isSome && Region.noSelect ops && Region.free .any ops listed i && (Region.ready .any ops listed).contains i && Region.wanted (opAt ops i) (yielded ops a.tmps)) = true) (hd : (opAt ops i).dst = d)
    (hy : ∀ w, S w → (execOp a.eval (opAt ops i)).run P w = .ok (.value v) w) (h : wpAnyH P .any ops Q S fuel (listed.setIfInBounds i true) (a.put d v) w) : wpAnyH P .any ops Q S (fuel + 1) listed a w := by
  simp only [Bool.and_eq_true] at hi
  obtain ⟨⟨⟨⟨h1, h2⟩, h3⟩, h4⟩, h5⟩ := hi
  subst hd
  exact wpAnyH_nowIf v (get_opAt h1) h2 h3 h4 h5 (fun c a w h => hQ c a w _ _ h) hy hS h
/-- .. one that is not wanted (its guard is false). -/
theorem reg_pass (i : Nat) (d : Option Tmp) (hQ : ∀ c a w d v, Q (.panic c) (a.put d v) w → Q (.panic c) a w) (hS : S w)
    (hi : (ops[i]?.isSome && Region.noSelect ops && Region.free .any ops listed i && (Region.ready .any ops listed).contains i && !Region.wanted (opAt ops i) (yielded ops a.tmps)) = true) (hd : (opAt ops i).dst = d)
    (h : wpAnyH P .any ops Q S fuel (listed.setIfInBounds i true) (a.put d undef) w) : wpAnyH P .any ops Q S (fuel + 1) listed a w := by
  simp only [Bool.and_eq_true, Bool.not_eq_true'] at hi
  obtain ⟨⟨⟨⟨h1, h2⟩, h3⟩, h4⟩, h5⟩ := hi
  subst hd
  exact wpAnyH_take (get_opAt h1) h2 h3 h4 (fun c a w h => hQ c a w _ _ h) (Or.inr ⟨h5, rfl⟩) hS h
/-- The one operation that may come up gives a value, and may change the world. -/
theorem reg_value (i : Nat) (v : Value) (d : Option Tmp) (w' : World) (hi : (ops[i]?.isSome && (Region.ready .any ops listed == [i]) && Region.wanted (opAt ops i) (yielded ops a.tmps)) = true) (hd : (opAt ops i).dst = d)
    (hrun : (execOp a.eval (opAt ops i)).run P w = .ok (.value v) w') (hS : S w') (h : wpAnyH P .any ops Q S fuel (listed.setIfInBounds i true) (a.put d v) w') : wpAnyH P .any ops Q S (fuel + 1) listed a w := by
  simp only [Bool.and_eq_true, beq_iff_eq] at hi
  obtain ⟨⟨h1, h2⟩, h3⟩ := hi
  subst hd
  exact wpAnyH_one h2 (wpOp_value v (get_opAt h1) h3 hrun ⟨hS, h⟩)
/-- .. is a store. -/
theorem reg_store (i : Nat) (w' : World) (hi : (ops[i]?.isSome && (Region.ready .any ops listed == [i]) && Region.wanted (opAt ops i) (yielded ops a.tmps)) = true) (hd : (opAt ops i).dst = none)
    (hrun : (execOp a.eval (opAt ops i)).run P w = .ok .skip w') (hS : S w') (h : wpAnyH P .any ops Q S fuel (listed.setIfInBounds i true) (a.put none undef) w') : wpAnyH P .any ops Q S (fuel + 1) listed a w := by
  simp only [Bool.and_eq_true, beq_iff_eq] at hi
  obtain ⟨⟨h1, h2⟩, h3⟩ := hi
  exact wpAnyH_one h2 (wpOp_skip (get_opAt h1) h3 hrun ⟨hS, by rw [hd]; exact h⟩)
/-- .. is a call by a contract. -/
theorem reg_call (i : Nat) (f : FuncId) (args : Array Value) (d : Option Tmp) (R : Ending → World → Prop) (hi : (ops[i]?.isSome && (Region.ready .any ops listed == [i]) && Region.wanted (opAt ops i) (yielded ops a.tmps)) = true) (hd : (opAt ops i).dst = d)
    (hrun : (execOp a.eval (opAt ops i)).run P w = .ok (.enter f args) w) (hc : Calls P f args w R)
    (h : ∀ e w', R e w' → ∃ v, e = .returned v ∧ S w' ∧ wpAnyH P .any ops Q S fuel (listed.setIfInBounds i true) (a.put d v) w') : wpAnyH P .any ops Q S (fuel + 1) listed a w := by
  simp only [Bool.and_eq_true, beq_iff_eq] at hi
  obtain ⟨⟨h1, h2⟩, h3⟩ := hi
  subst hd
  exact wpAnyH_one h2 (wpOp_callE f args R (get_opAt h1) h3 hrun hc h)
/-- All have come up. -/
theorem reg_done (hr : Region.ready .any ops listed = []) (h : Q .normal a w) : wpAnyH P .any ops Q S fuel listed a w := wpAnyH_done hr h _
end
end Go.Proofs.YtoeilaedpibboaaDoor
/- Steps through a plain region (one that does not draw its order), by the operations' numbers, guarded ones too: each fact about the region's text is one that the kernel reckons. General lemmas on the model; nothing about the program. -/
namespace Go.Proofs.YtoeilaedpibboaaDoor
open Go Go.RowKit

/-- What is left of a plain region from operation i on (a structure, so that nothing looks into it by itself). -/
structure wpFrom (P : Program) (ops : Array Oper) (Q : Exit → Act → World → Prop) (i : Nat) (a : Act) (w : World) : Prop where
  out : wpList P ops Q (ops.toList.drop i) a w

section
variable {P : Program} {ops : Array Oper} {Q : Exit → Act → World → Prop} {a : Act} {w : World}

theorem drop_opAt {i : Nat} (hi : ops[i]?.isSome = true) : ops.toList.drop i = opAt ops i :: ops.toList.drop (i + 1) := by
  have h := get_opAt hi
  obtain ⟨hlt, he⟩ := Array.getElem?_eq_some_iff.1 h
  rw [List.drop_eq_getElem_cons (by simpa using hlt)]
  simp [he]
/-- THE BEGINNING. -/
theorem lin_begin {id : Nat} {ops0 : Array Oper} (ops : Array Oper) (he : ops0 = ops) (h : wpFrom P ops Q 0 a w) : (Code.region id ops0 false).wp P Q a w := by
  subst he
  exact wp_region_list h.out
/-- Operation i gives a value, and may change the world. -/
theorem lin_value (i : Nat) (v : Value) (d : Option Tmp) (w' : World) (hi : (ops[i]?.isSome && Region.wanted (opAt ops i) (yielded ops a.tmps)) = true) (hd : (opAt ops i).dst = d)
    (hrun : (execOp a.eval (opAt ops i)).run P w = .ok (.value v) w') (h : wpFrom P ops Q (i + 1) (a.put d v) w') : wpFrom P ops Q i a w := by
  simp only [Bool.and_eq_true] at hi
  obtain ⟨h1, h2⟩ := hi
  subst hd
  refine ⟨?_⟩
  rw [drop_opAt h1]
  refine wpList_step fun K hK => ?_
  rw [if_pos h2]
  unfold Oper.wp
  rw [hrun]
  exact hK _ _ h.out
/-- .. gives a value, and leaves the world as it is. -/
theorem lin_now (i : Nat) (v : Value) (d : Option Tmp) (hi : (ops[i]?.isSome && Region.wanted (opAt ops i) (yielded ops a.tmps)) = true) (hd : (opAt ops i).dst = d)
    (hrun : (execOp a.eval (opAt ops i)).run P w = .ok (.value v) w) (h : wpFrom P ops Q (i + 1) (a.put d v) w) : wpFrom P ops Q i a w := lin_value i v d w hi hd hrun h
/-- .. is a store. -/
theorem lin_store (i : Nat) (w' : World) (hi : (ops[i]?.isSome && Region.wanted (opAt ops i) (yielded ops a.tmps)) = true) (hd : (opAt ops i).dst = none)
    (hrun : (execOp a.eval (opAt ops i)).run P w = .ok .skip w') (h : wpFrom P ops Q (i + 1) (a.put none undef) w') : wpFrom P ops Q i a w := by
  simp only [Bool.and_eq_true] at hi
  obtain ⟨h1, h2⟩ := hi
  refine ⟨?_⟩
  rw [drop_opAt h1]
  refine wpList_step fun K hK => ?_
  rw [if_pos h2]
  unfold Oper.wp
  rw [hrun]
  refine hK _ _ ?_
  rw [hd]
  exact h.out
/-- .. is not wanted (its guard is false). -/
theorem lin_pass (i : Nat) (d : Option Tmp) (hi : (ops[i]?.isSome && !Region.wanted (opAt ops i) (yielded ops a.tmps)) = true) (hd : (opAt ops i).dst = d)
    (h : wpFrom P ops Q (i + 1) (a.put d undef) w) : wpFrom P ops Q i a w := by
  simp only [Bool.and_eq_true, Bool.not_eq_true'] at hi
  obtain ⟨h1, h2⟩ := hi
  subst hd
  refine ⟨?_⟩
  rw [drop_opAt h1]
  refine wpList_step fun K hK => ?_
  rw [h2, if_neg (by decide)]
  exact hK _ _ h.out
/-- .. is a call by a contract. -/
theorem lin_call (i : Nat) (f : FuncId) (args : Array Value) (d : Option Tmp) (R : Ending → World → Prop) (hi : (ops[i]?.isSome && Region.wanted (opAt ops i) (yielded ops a.tmps)) = true) (hd : (opAt ops i).dst = d)
    (hrun : (execOp a.eval (opAt ops i)).run P w = .ok (.enter f args) w) (hc : Calls P f args w R)
    (h : ∀ e w', R e w' → ∃ v, e = .returned v ∧ wpFrom P ops Q (i + 1) (a.put d v) w') : wpFrom P ops Q i a w := by
  simp only [Bool.and_eq_true] at hi
  obtain ⟨h1, h2⟩ := hi
  subst hd
  refine ⟨?_⟩
  rw [drop_opAt h1]
  refine wpList_step fun K hK => ?_
  rw [if_pos h2]
  unfold Oper.wp
  rw [hrun]
  refine hc.mono fun e w' hR => ?_
  obtain ⟨v, rfl, hk⟩ := h e w' hR
  exact hK _ _ hk.out
/-- All are done. -/
theorem lin_done (i : Nat) (hi : ops.size = i) (h : Q .normal a w) : wpFrom P ops Q i a w := by
  refine ⟨?_⟩
  rw [List.drop_eq_nil_of_le (by simp [hi])]
  exact wpList_nil h
end
end Go.Proofs.YtoeilaedpibboaaDoor
/- Two arrays of integers are equal for the program just if their lists of integers are. General lemmas on the model. -/
namespace Go.Proofs.YtoeilaedpibboaaDoor
open Go Go.RowKit

section
variable {P : Program} (w : World)
theorem run_part_ints {e : TypeId} {k : IntKind} (he : P.underlying e = some (.int k)) (l : List Int) (i : Nat) (hi : i < l.length) : (part e (ints k l).toArray i).run P w = .ok (.int k (l.getD i 0)) w := by
  have hag : (isAgg e).run P w = .ok false w := by unfold isAgg; rw [Sem.run_bind, run_underlying he w]; rfl
  unfold part
  simp only [Sem.run_bind, hag, Result.andThen_ok, Bool.false_eq_true, if_false]
  have : (ints k l).toArray[i]? = some (.int k (l.getD i 0)) := by simpa using ints_getD (k := k) hi
  rw [this]
  rfl
theorem run_eqItems_ints {e : TypeId} {k : IntKind} (d : Nat) (he : P.underlying e = some (.int k)) (xs ys : List Int) : ∀ (is : List Nat), (∀ i ∈ is, i < xs.length ∧ i < ys.length) →
    (Op.eqItems (d + 1) e 1 (ints k xs).toArray (ints k ys).toArray is).run P w = .ok (is.all fun i => xs.getD i 0 == ys.getD i 0) w
  | [], _ => by simp [Op.eqItems]
  | i :: is, h => by
    have hi := h i (by simp)
    have ih := run_eqItems_ints d he xs ys is (fun j hj => h j (by simp [hj]))
    simp only [Op.eqItems, Sem.run_bind, Nat.mul_one, run_part_ints w he xs i hi.1, run_part_ints w he ys i hi.2, Result.andThen_ok, run_equalIn_int w d e k k _ _ he]
    cases hb : (xs.getD i 0 == ys.getD i 0)
    · simp only [List.all_cons, hb, Bool.false_and, Bool.not_false, if_true]
      rfl
    · simp only [List.all_cons, hb, Bool.true_and]
      simpa using ih
theorem all_range (xs ys : List Int) (n : Nat) (hx : xs.length = n) (hy : ys.length = n) : ((List.range n).all fun i => xs.getD i 0 == ys.getD i 0) = decide (xs = ys) := by
  rw [Bool.eq_iff_iff]
  simp only [List.all_eq_true, List.mem_range, beq_iff_eq, decide_eq_true_eq]
  constructor
  · intro h
    apply List.ext_getElem (by omega)
    intro i h1 h2
    have := h i (by omega)
    simpa [List.getD_eq_getElem?_getD, h1, h2] using this
  · rintro rfl i _; rfl
theorem run_equalIn_ints {t e : TypeId} {k : IntKind} {n : Nat} (d : Nat) (ht : P.underlying t = some (.array n e)) (he : P.underlying e = some (.int k)) (hi : (P.info? e).map (·.size) = some 1) (xs ys : List Int) (hx : xs.length = n) (hy : ys.length = n) :
    (Op.equalIn (d + 2) t (.agg (ints k xs).toArray) (.agg (ints k ys).toArray)).run P w = .ok (decide (xs = ys)) w := by
  obtain ⟨i, hi1, hi2⟩ := Option.map_eq_some_iff.1 hi
  have hc : P.cellsOf e = 1 := by simp [Program.cellsOf, hi1, hi2]
  rw [run_equalIn_array w (d + 1) _ _ ht hi1, hc, run_eqItems_ints w d he xs ys _ (fun j hj => by rw [List.mem_range] at hj; omega), all_range xs ys n hx hy]
theorem exec_eql {a : Act} {op : Oper} {t e : TypeId} {k : IntKind} {n : Nat} (x y : Operand) (yt : TypeId) (ho : op.op = .binOp .eql t x y yt) (ht : P.underlying t = some (.array n e)) (he : P.underlying e = some (.int k)) (hi : (P.info? e).map (·.size) = some 1) (hm : P.eqGuardType P.depth t = false)
    (xs ys : List Int) (hx : xs.length = n) (hy : ys.length = n) (ex : a.eval x = .agg (ints k xs).toArray) (ey : a.eval y = .agg (ints k ys).toArray) : (execOp a.eval op).run P w = .ok (.value (.bool (decide (xs = ys)))) w := by
  unfold execOp
  have hq : (Op.equalIn 10000 t (.agg (ints k xs).toArray) (.agg (ints k ys).toArray)).run P w = .ok (decide (xs = ys)) w := run_equalIn_ints w 9998 ht he hi xs ys hx hy
  simp only [ho, ex, ey, Sem.run_bind, run_eql_struct, run_eqGuard_agg w _ t x y _ _ hm, hq, Result.andThen_ok]
  rfl
theorem exec_neq {a : Act} {op : Oper} {t e : TypeId} {k : IntKind} {n : Nat} (x y : Operand) (yt : TypeId) (ho : op.op = .binOp .neq t x y yt) (ht : P.underlying t = some (.array n e)) (he : P.underlying e = some (.int k)) (hi : (P.info? e).map (·.size) = some 1) (hm : P.eqGuardType P.depth t = false)
    (xs ys : List Int) (hx : xs.length = n) (hy : ys.length = n) (ex : a.eval x = .agg (ints k xs).toArray) (ey : a.eval y = .agg (ints k ys).toArray) : (execOp a.eval op).run P w = .ok (.value (.bool (!decide (xs = ys)))) w := by
  unfold execOp
  have hq : (Op.equalIn 10000 t (.agg (ints k xs).toArray) (.agg (ints k ys).toArray)).run P w = .ok (decide (xs = ys)) w := run_equalIn_ints w 9998 ht he hi xs ys hx hy
  simp only [ho, ex, ey, Sem.run_bind, run_neq_struct, run_eqGuard_agg w _ t x y _ _ hm, hq, Result.andThen_ok]
  rfl
end
end Go.Proofs.YtoeilaedpibboaaDoor
/- Rows of digests, each of 32 bytes, in one block: what reading and writing one of them does. Plain lemmas; nothing about the program. -/
namespace Go.Proofs.YtoeilaedpibboaaDoor
open Go Go.RowKit

def all32 (ds : List (List Int)) : Prop := ∀ d ∈ ds, d.length = 32
theorem all32.set {ds : List (List Int)} (h : all32 ds) (j : Nat) {x : List Int} (hx : x.length = 32) : all32 (ds.set j x) := fun d hd => by
  rcases List.mem_or_eq_of_mem_set hd with h1 | h1
  · exact h d h1
  · rw [h1]; exact hx
theorem flat32_length {ds : List (List Int)} (h : all32 ds) : ds.flatten.length = 32 * ds.length := by
  induction ds with
  | nil => rfl
  | cons d ds ih =>
    have h1 := h d (by simp)
    have h2 := ih (fun x hx => h x (by simp [hx]))
    simp only [List.flatten_cons, List.length_append, List.length_cons]
    omega
theorem flat32_drop {ds : List (List Int)} (h : all32 ds) (j : Nat) : ds.flatten.drop (32 * j) = (ds.drop j).flatten := by
  induction j generalizing ds with
  | zero => simp
  | succ j ih =>
    cases ds with
    | nil => simp
    | cons d ds =>
      have h1 := h d (by simp)
      rw [List.flatten_cons, show 32 * (j + 1) = d.length + 32 * j by omega, ← List.drop_drop, List.drop_left, ih (fun x hx => h x (by simp [hx]))]
      rfl
theorem flat32_take {ds : List (List Int)} (h : all32 ds) (j : Nat) : ds.flatten.take (32 * j) = (ds.take j).flatten := by
  induction j generalizing ds with
  | zero => simp
  | succ j ih =>
    cases ds with
    | nil => simp
    | cons d ds =>
      have h1 := h d (by simp)
      rw [List.flatten_cons, show 32 * (j + 1) = d.length + 32 * j by omega, List.take_length_add_append, ih (fun x hx => h x (by simp [hx]))]
      rfl
theorem flat32_at {ds : List (List Int)} (h : all32 ds) {j : Nat} {d : List Int} (hj : ds[j]? = some d) : (ds.flatten.drop (32 * j)).take 32 = d := by
  obtain ⟨hl, rfl⟩ := List.getElem?_eq_some_iff.1 hj
  have h1 := h ds[j] (List.getElem_mem hl)
  rw [flat32_drop h, List.drop_eq_getElem_cons hl, List.flatten_cons, List.take_append_of_le_length (by omega), List.take_of_length_le (by omega)]
theorem flat32_set {ds : List (List Int)} (h : all32 ds) {j : Nat} (hj : j < ds.length) (x : List Int) : ds.flatten.take (32 * j) ++ x ++ ds.flatten.drop (32 * j + 32) = (ds.set j x).flatten := by
  rw [flat32_take h, show 32 * j + 32 = 32 * (j + 1) by omega, flat32_drop h, List.set_eq_take_append_cons_drop, if_pos hj]
  simp
/-- Block D begins with just these digests. -/
def Dg (w : World) (D : Nat) (t : TypeId) (ds : List (List Int)) (rest : List Value) : Prop := Blk w D t (ints .u8 ds.flatten ++ rest)
theorem ints_append (k : IntKind) (a b : List Int) : ints k (a ++ b) = ints k a ++ ints k b := by simp [ints]
theorem ints_take (k : IntKind) (a : List Int) (n : Nat) : (ints k a).take n = ints k (a.take n) := by simp [ints]
theorem ints_drop (k : IntKind) (a : List Int) (n : Nat) : (ints k a).drop n = ints k (a.drop n) := by simp [ints]
theorem Dg.range {w : World} {D : Nat} {t : TypeId} {ds : List (List Int)} {rest : List Value} (h : Dg w D t ds rest) (h32 : all32 ds) {j : Nat} {d : List Int} (hj : ds[j]? = some d) : w.rangeAt D (32 * j) (ints .u8 d) := by
  have hl := (List.getElem?_eq_some_iff.1 hj).1
  have hr := Blk.range h (32 * j) 32
  have e : ((ints .u8 ds.flatten ++ rest).drop (32 * j)).take 32 = ints .u8 d := by
    rw [List.drop_append_of_le_length (by rw [ints_length, flat32_length h32]; omega), List.take_append_of_le_length (by rw [List.length_drop, ints_length, flat32_length h32]; omega), ints_drop, ints_take, flat32_at h32 hj]
  rwa [e] at hr
theorem Dg.there {w : World} {D : Nat} {t : TypeId} {ds : List (List Int)} {rest : List Value} (h : Dg w D t ds rest) (h32 : all32 ds) {j : Nat} (hj : j < ds.length) : w.there D (32 * j) 32 :=
  Blk.there h (32 * j) 32 (by rw [List.length_append, ints_length, flat32_length h32]; omega)
theorem Dg.store {w : World} {D : Nat} {t : TypeId} {ds : List (List Int)} {rest : List Value} (h : Dg w D t ds rest) (h32 : all32 ds) {j : Nat} (hj : j < ds.length) (x : List Int) (hx : x.length = 32) : Dg (w.setCells D (32 * j) (ints .u8 x)) D t (ds.set j x) rest := by
  have hs := Blk.setCells (ints .u8 x) h (32 * j) (by rw [List.length_append, ints_length, ints_length, flat32_length h32]; omega)
  have e : splice (ints .u8 ds.flatten ++ rest) (32 * j) (ints .u8 x) = ints .u8 (ds.set j x).flatten ++ rest := by
    unfold splice
    rw [ints_length, hx, List.take_append_of_le_length (by rw [ints_length, flat32_length h32]; omega), List.drop_append_of_le_length (by rw [ints_length, flat32_length h32]; omega), ints_take, ints_drop, ← flat32_set h32 hj, ints_append, ints_append]
    simp
  rw [e] at hs
  exact hs
theorem Dg.upd {w w' : World} {D b : Nat} {t : TypeId} {ds : List (List Int)} {rest : List Value} (h : Dg w D t ds rest) (hu : Upd b w w') (hb : D ≠ b) : Dg w' D t ds rest := hu.blk h hb
theorem Dg.below {w w' : World} {D B : Nat} {t : TypeId} {ds : List (List Int)} {rest : List Value} (h : Dg w D t ds rest) (hb : Below B w w') (hB : D < B) : Dg w' D t ds rest := Blk.below h hb hB
end Go.Proofs.YtoeilaedpibboaaDoor
