/- The reference's Compress and Sum are the program's. -/
import Derived.Test.YtngpmilojfbpmaaGreatDoorShaRefT
import Derived.Test.YtngpmilojfbpmaaGreatDoorShaRefK
import Derived.Test.YtngpmilojfbpmaaGreatDoorShaSpec
import Derived.Test.YtngpmilojfbpmaaGreatDoorShaParts
namespace Go.Proofs.YtngpmilojfbpmaaGreatDoor
open Go.RowKit
set_option maxRecDepth 100000

theorem Own.table {w : World} {base : Nat} {v : Value} (h : Own w base 137 .u32 v Sha.K) : ∃ g cap, v = .slice (some ⟨g, 0, none⟩) 64 cap ∧ g < w.heap.size ∧ base ≤ g ∧ ∀ i, i < 64 → w.cell? ⟨g, i, none⟩ = some (.int .u32 (Sha.K[i]?.getD 0)) := by
  obtain ⟨g, cap, rfl, ho⟩ := h
  have hl := ho.lt g rfl
  refine ⟨g, cap, rfl, hl.2, hl.1, fun i hi => ?_⟩
  have := Own.cell ho (j := i) hi
  simpa [List.getD_eq_getElem?_getD] using this
/-- What the reference's Compress has in memory. -/
structure Rc (st bs : List Int) (w wr : World) : Prop where
  b0 : Blk wr w.heap.size 138 (ints .u32 st)
  b1 : Blk wr (w.heap.size + 1) 76 (ints .u8 bs)
  bel : Below w.heap.size w wr
theorem Rc.next {st bs : List Int} {w w1 w2 : World} (h : Rc st bs w w1) (hb : Below w1.heap.size w1 w2) : Rc st bs w w2 :=
  ⟨h.b0.below hb h.b0.lt, h.b1.below hb h.b1.lt, h.bel.trans (hb.mono h.bel.size)⟩
/-- What the reference's Sum has in memory while it goes from block to block. -/
structure Rs (w wr : World) (all : Value) (am : List Int) (g S : Nat) (st : List Int) : Prop where
  r : Blk wr w.heap.size 34 (ints .u8 (List.replicate 32 0))
  a : BytesAt wr S all am
  gl : g < wr.heap.size
  gS : g ≠ S
  k : ∀ i, i < 64 → wr.cell? ⟨g, i, none⟩ = some (.int .u32 (Sha.K[i]?.getD 0))
  s : Blk wr S 138 (ints .u32 st)
  bel : Below w.heap.size w wr
  hS : w.heap.size < S
theorem Rs.upd {w wr wr' : World} {all : Value} {am : List Int} {g S : Nat} {st st' : List Int} (h : Rs w wr all am g S st) (hu : Upd S wr wr') (hs : Blk wr' S 138 (ints .u32 st')) : Rs w wr' all am g S st' :=
  ⟨hu.blk h.r (by have := h.hS; omega), h.a.upd hu, Nat.lt_of_lt_of_le h.gl hu.size, h.gS, fun i hi => by rw [hu.cell (p := ⟨g, i, none⟩) h.gl h.gS]; exact h.k i hi, hs, hu.below h.bel (Nat.le_of_lt h.hS) h.bel.size, h.hS⟩
theorem Rs.next {w wr wr' : World} {all : Value} {am : List Int} {g S : Nat} {st : List Int} (h : Rs w wr all am g S st) (hb : Below wr.heap.size wr wr') : Rs w wr' all am g S st :=
  h.upd (Upd.of_below hb (Nat.le_refl _)) (h.s.below hb h.s.lt)

end Go.Proofs.YtngpmilojfbpmaaGreatDoor
