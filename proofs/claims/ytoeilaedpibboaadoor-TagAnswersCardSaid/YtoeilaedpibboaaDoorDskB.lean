/- A disk in memory: its blocks, and what a step that touches only them leaves. -/
import Derived.Test.YtoeilaedpibboaaDoorDskM
namespace Go.Proofs.YtoeilaedpibboaaDoor
open Go Go.RowKit
set_option maxRecDepth 100000

/-- Of all that was there only the blocks F may have changed; what is F' then is F, or new. -/
structure Step (F : List Nat) (w : World) (F' : List Nat) (w' : World) : Prop where
  os : w'.os = w.os
  tape : w'.tape = w.tape
  output : w'.output = w.output
  size : w.heap.size ≤ w'.heap.size
  block : ∀ k, k < w.heap.size → k ∉ F → w'.heap[k]? = w.heap[k]?
  fresh : ∀ k ∈ F', k ∈ F ∨ w.heap.size ≤ k
theorem Step.refl (F : List Nat) (w : World) : Step F w F w := ⟨rfl, rfl, rfl, Nat.le_refl _, fun _ _ _ => rfl, fun _ h => .inl h⟩
theorem Step.off {F F' : List Nat} {w w' : World} (h : Step F w F' w') {k : Nat} (hk : k < w.heap.size) (hF : k ∉ F) : k ∉ F' := fun hc => by
  rcases h.fresh k hc with h1 | h1
  · exact hF h1
  · omega
theorem Step.trans {F F' F'' : List Nat} {w w' w'' : World} (h : Step F w F' w') (k : Step F' w' F'' w'') : Step F w F'' w'' :=
  ⟨k.os.trans h.os, k.tape.trans h.tape, k.output.trans h.output, Nat.le_trans h.size k.size,
    fun i hi hF => (k.block i (Nat.lt_of_lt_of_le hi h.size) (h.off hi hF)).trans (h.block i hi hF),
    fun i hi => by
      rcases k.fresh i hi with h1 | h1
      · exact h.fresh i h1
      · exact .inr (Nat.le_trans h.size h1)⟩
theorem Step.of_below {F : List Nat} {B : Nat} {w w' : World} (h : Below B w w') (hB : w.heap.size ≤ B) : Step F w F w' :=
  ⟨h.os, h.tape, h.output, h.size, fun k hk _ => h.block k (by omega), fun _ h => .inl h⟩
theorem Step.of_upd {F : List Nat} {b : Nat} {w w' : World} (h : Upd b w w') (hb : b ∈ F) : Step F w F w' :=
  ⟨h.os, h.tape, h.output, h.size, fun k hk hF => h.block k hk (fun e => hF (e ▸ hb)), fun _ h => .inl h⟩
theorem Step.below {F : List Nat} {w w' : World} (h : Step [] w F w') : Below w.heap.size w w' := ⟨h.os, h.tape, h.output, h.size, fun k hk => h.block k hk (by simp)⟩
theorem Step.blk {F F' : List Nat} {w w' : World} (h : Step F w F' w') {k : Nat} {t : TypeId} {cs : List Value} (hk : Blk w k t cs) (hF : k ∉ F) : Blk w' k t cs := by
  unfold Blk; rw [h.block k hk.lt hF]; exact hk
theorem Step.sub {F F' G : List Nat} {w w' : World} (h : Step F w F' w') (hG : ∀ k ∈ G, k ∈ F') : Step F w G w' :=
  ⟨h.os, h.tape, h.output, h.size, h.block, fun k hk => h.fresh k (hG k hk)⟩
/-- Bytes that lie in none of the blocks F. -/
def BytesOff (F : List Nat) (w : World) (v : Value) (zs : List Int) : Prop :=
  ∃ a cap, v = .slice a zs.length cap ∧ zs.length ≤ cap ∧ (0 < zs.length → ∃ pb po, a = some ⟨pb, po, none⟩ ∧ pb ∉ F ∧ pb < w.heap.size ∧ w.rangeAt pb po (ints .u8 zs))
theorem BytesOff.in {F : List Nat} {w : World} {v : Value} {zs : List Int} (h : BytesOff F w v zs) : BytesIn w v zs := by
  obtain ⟨a, cap, h1, h2, h3⟩ := h
  refine ⟨a, cap, h1, h2, fun hp => ?_⟩
  obtain ⟨pb, po, h4, _, h5, h6⟩ := h3 hp
  exact ⟨pb, po, h4, h5, h6⟩
theorem BytesOff.step {F F' : List Nat} {w w' : World} {v : Value} {zs : List Int} (h : BytesOff F w v zs) (hs : Step F w F' w') : BytesOff F' w' v zs := by
  obtain ⟨a, cap, h1, h2, h3⟩ := h
  refine ⟨a, cap, h1, h2, fun hp => ?_⟩
  obtain ⟨pb, po, h4, h5, h6, h7⟩ := h3 hp
  exact ⟨pb, po, h4, hs.off h6 h5, Nat.lt_of_lt_of_le h6 hs.size, fun j u hu => by
    rw [World.cell?_of_block (w := w) (a := ⟨pb, po + j, none⟩) (hs.block pb h6 h5)]; exact h7 j u hu⟩
/-- Bytes that were there before all of F was. -/
theorem BytesIn.off {F : List Nat} {w w' : World} {v : Value} {zs : List Int} (h : BytesIn w v zs) (hb : Below w.heap.size w w') (hF : ∀ k ∈ F, w.heap.size ≤ k) : BytesOff F w' v zs := by
  obtain ⟨a, cap, h1, h2, h3⟩ := h
  refine ⟨a, cap, h1, h2, fun hp => ?_⟩
  obtain ⟨pb, po, h4, h5, h6⟩ := h3 hp
  refine ⟨pb, po, h4, fun hc => ?_, Nat.lt_of_lt_of_le h5 hb.size, fun j u hu => by rw [hb.cell (p := ⟨pb, po + j, none⟩) h5]; exact h6 j u hu⟩
  have := hF pb hc
  omega
/-- Bytes of new memory. -/
theorem owns_off {F : List Nat} {w w' : World} {v : Value} {n : Nat} {zs : List Int} (h : w'.ownsRow w.heap.size 5 1 v n (ints .u8 zs)) (hF : ∀ k ∈ F, k < w.heap.size) : BytesOff F w' v zs := by
  obtain ⟨a, cap, h1, h2, h3⟩ := owns_bytes h
  refine ⟨a, cap, h1, h2, fun hp => ?_⟩
  obtain ⟨pb, po, h4, h5, h6⟩ := h3 hp
  refine ⟨pb, po, h4, fun hc => ?_, h5, h6⟩
  have := owns_row h pb (by rw [h1, h4]; rfl)
  have := hF pb hc
  omega

def foot (d sB dB : Nat) (pv : Value) : List Nat := d :: sB :: dB :: pv.ownBlock.toList
def dcells (sz sB dB sc dc : Nat) (pv : Value) (left : Int) : List Value := [.slice (some ⟨sB, 0, none⟩) sz sc, .slice (some ⟨dB, 0, none⟩) sz dc, pv, .int .i64 left]
theorem own_upd {w w' : World} {b base s n : Nat} {e : TypeId} {v : Value} {xs : List Value} (h : w.ownsRow base e s v n xs) (hu : Upd b w w') (hv : ∀ g, v.ownBlock = some g → g ≠ b) : w'.ownsRow base e s v n xs :=
  h.kept (row := some b) ⟨hu.os, hu.tape, hu.output, hu.size, fun k hk hb => hu.block k hk (fun e => hb (by rw [e]))⟩ (by
    cases hc : v.ownBlock with
    | none => exact .inl rfl
    | some g => exact .inr (by rw [Ne, Option.some.injEq]; exact hv g hc))
theorem own_step {F F' : List Nat} {w w' : World} {base s n : Nat} {e : TypeId} {v : Value} {xs : List Value} (h : w.ownsRow base e s v n xs) (hu : Step F w F' w') (hv : ∀ g, v.ownBlock = some g → g ∉ F) : w'.ownsRow base e s v n xs := by
  refine ⟨h.1, ?_⟩
  rcases h.2 with ⟨rfl, h0⟩ | ⟨g, cap, cur, rfl, h1, h2, h3⟩
  · exact .inl ⟨rfl, h0⟩
  · refine .inr ⟨g, cap, cur, rfl, h1, ?_, h3⟩
    rw [hu.block g (Array.getElem?_eq_some_iff.1 h2).1 (hv g rfl)]
    exact h2
/-- A new variable of a type whose zero value is known. -/
theorem exec_alloc {P : Program} {a : Act} {w : World} {op : Oper} (ty : TypeId) (ho : op.op = .alloc ty) (z : Value) (hz : (P.info? ty).map (·.zero) = some (some z)) :
    (execOp a.eval op).run P w = .ok (.value (.pointer (some ⟨w.heap.size, 0, none⟩))) (w.alloc (.cells z.cells ty)) := by
  obtain ⟨i, hi, hz'⟩ := Option.map_eq_some_iff.1 hz
  have hr : (zeroValue ty).run P w = .ok z w := by
    simp [zeroValue, typeInfo, hi, hz']
  unfold execOp
  simp only [ho, Instr.alloc, Sem.run_bind, hr, Result.andThen_ok]
  rfl
/-- One cell. -/
theorem exec_load_cell {P : Program} {a : Act} {w : World} {op : Oper} (ty : TypeId) (x : Operand) (ho : op.op = .load ty x) (b o : Nat) (hx : a.eval x = .pointer (some ⟨b, o, none⟩)) (v : Value) (hc : w.cell? ⟨b, o, none⟩ = some v)
    (d : TypeDesc) (hd : P.underlying ty = some d) (hr : d.isRow = false) : (execOp a.eval op).run P w = .ok (.value v) w := by
  have hagg : (isAgg ty).run P w = .ok false w := by
    unfold isAgg
    rw [Sem.run_bind, run_underlying hd w]
    cases d <;> simp_all
  have hl : (loadVar ty ⟨b, o, none⟩).run P w = .ok v w := by
    simp [loadVar, Sem.run_bind, hagg, hc]
  unfold execOp
  simp only [ho, hx, Instr.loadAt, Instr.sureAddr, Sem.run_bind, Sem.run_pure, Result.andThen_ok, hl]
/-- One cell is stored. -/
theorem exec_store_cell {P : Program} {a : Act} {w : World} {op : Oper} (ty : TypeId) (x y : Operand) (ho : op.op = .store ty x y) (b o : Nat) (v : Value) (hx : a.eval x = .pointer (some ⟨b, o, none⟩)) (hy : a.eval y = v) (t : TypeId) (cs : List Value) (hb : Blk w b t cs) (hl : o < cs.length)
    (hi : (P.info? ty).map (·.size) = some 1) (h1 : v.cells = #[v]) (hone : v.oneCell' = true) : (execOp a.eval op).run P w = .ok .skip (w.setCell ⟨b, o, none⟩ v) := by
  have e : storeVar ty ⟨b, o, none⟩ v = storeVar ty ⟨b, o, none⟩ (.agg #[v]) := by
    unfold storeVar
    rw [h1]
    rfl
  unfold execOp
  simp only [ho, hx, hy, Instr.storeAt, Instr.sureAddr, Sem.run_bind, Sem.run_pure, Result.andThen_ok]
  rw [e, run_storeVar_mid w b o ty #[v] (by simpa using hb.there o 1 (by omega)) (by simpa using hi) (by simp [hone])]
  rfl
/-- Parts laid over cells, one behind the other. -/
theorem foldl_set : ∀ (vs cells : List Value) (off k : Nat), off + k + vs.length ≤ cells.length →
    (vs.zipIdx k).foldl (fun (cs : Array Value) (x : Value × Nat) => cs.setIfInBounds (off + x.2) x.1) cells.toArray = (splice cells (off + k) vs).toArray
  | [], cells, off, k, _ => by simp [splice]
  | v :: vs, cells, off, k, h => by
    simp only [List.length_cons] at h
    rw [List.zipIdx_cons, List.foldl_cons]
    rw [show cells.toArray.setIfInBounds (off + k) v = (cells.set (off + k) v).toArray by simp]
    rw [foldl_set vs (cells.set (off + k) v) off (k + 1) (by rw [List.length_set]; omega), ← Nat.add_assoc off k 1, splice_cons cells (off + k) v vs (by omega)]
theorem fill_one (place : Nat → Option (Nat × Nat)) (cells vs : List Value) (i off size : Nat) (v : Value) (rest : List (Nat × Value)) (hp : place i = some (off, size)) (hv : v.cells = vs.toArray) (hs : vs.length = size) (hl : off + size ≤ cells.length) :
    Instr.fill place cells.toArray ((i, v) :: rest) = Instr.fill place (splice cells off vs).toArray rest := by
  subst hs
  rw [Instr.fill, hp]
  simp only [hv, List.size_toArray]
  rw [if_neg (by simp; omega)]
  have := foldl_set vs cells off 0 (by omega)
  rw [Nat.add_zero] at this
  rw [← this]
  congr 1
  rw [← Array.foldl_toList]
  simp
end Go.Proofs.YtoeilaedpibboaaDoor
