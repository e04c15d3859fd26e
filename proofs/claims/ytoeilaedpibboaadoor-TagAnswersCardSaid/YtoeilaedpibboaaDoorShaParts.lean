/- ShaParts answers true. -/
import Derived.Test.YtoeilaedpibboaaDoorGenB
import Derived.Test.YtoeilaedpibboaaDoorShaRows
namespace Go.Proofs.YtoeilaedpibboaaDoor
open Go.RowKit

theorem owns_same {w w' : World} {base n : Nat} {v : Value} {xs : List Value} (h : w.ownsRow base 5 1 v n xs) (hb : ∀ g, v.ownBlock = some g → w'.heap[g]? = w.heap[g]?) : w'.ownsRow base 5 1 v n xs := by
  obtain ⟨h1, h2⟩ := h
  refine ⟨h1, ?_⟩
  rcases h2 with h2 | ⟨g, cap, cur, rfl, hb2, hg, r⟩
  · exact Or.inl h2
  · exact Or.inr ⟨g, cap, cur, rfl, hb2, by rw [hb g rfl]; exact hg, r⟩
theorem owns_bytes_at {w : World} {base n b : Nat} {v : Value} {zs : List Int} (h : w.ownsRow base 5 1 v n (ints .u8 zs)) (hb : b < base) : BytesAt w b v zs := by
  obtain ⟨a, cap, rfl, h2, h3⟩ := owns_bytes h
  refine ⟨a, cap, rfl, h2, fun hp => ?_⟩
  obtain ⟨pb, po, rfl, h5, h6⟩ := h3 hp
  have := owns_row h pb rfl
  exact ⟨pb, po, rfl, by omega, h5, h6⟩

/-- A hash, and a slice of the call's own, of the same bytes. -/
structure Going (w wr : World) (B h : Nat) (all : Value) (msg : List Int) : Prop where
  hash : HashIs wr h msg
  own : wr.ownsRow B 5 1 all msg.length (ints .u8 msg)
  bel : Below w.heap.size w wr
  hB : h < B
  hw : w.heap.size ≤ h
  BS : B ≤ wr.heap.size
theorem Going.next {w w1 w2 : World} {B h C : Nat} {all : Value} {msg : List Int} (t : Going w w1 B h all msg) (hb : Below C w1 w2) (hC : B ≤ C) (hl : ∀ g, all.ownBlock = some g → g < C) : Going w w2 B h all msg :=
  ⟨t.hash.below hb (by have := t.hB; omega), owns_same t.own (fun g hg => hb.block g (hl g hg)), t.bel.trans (hb.mono (by have := t.hB; have := t.hw; omega)), t.hB, t.hw, Nat.le_trans t.BS hb.size⟩
theorem Going.next' {w w1 w2 : World} {B h : Nat} {all : Value} {msg : List Int} (t : Going w w1 B h all msg) (hb : Below w1.heap.size w1 w2) : Going w w2 B h all msg := t.next hb t.BS (owns_lt t.own)
theorem Going.alloc {w w1 : World} {B h : Nat} {all : Value} {msg : List Int} (t : Going w w1 B h all msg) (o : Obj) : Going w (w1.alloc o) B h all msg := t.next' ((Below.refl _ _).alloc (Nat.le_refl _) _)
theorem Going.upd {w w1 w2 : World} {B h : Nat} {all : Value} {msg msg2 : List Int} (t : Going w w1 B h all msg) (hu : Upd h w1 w2) (hh : HashIs w2 h msg2) :
    HashIs w2 h msg2 ∧ w2.ownsRow B 5 1 all msg.length (ints .u8 msg) ∧ Below w.heap.size w w2 ∧ B ≤ w2.heap.size :=
  ⟨hh, owns_same t.own (fun g hg => hu.block g (owns_lt t.own g hg) (by have := owns_row t.own g hg; have := t.hB; omega)), hu.below t.bel t.hw t.bel.size, Nat.le_trans t.BS hu.size⟩

end Go.Proofs.YtoeilaedpibboaaDoor
