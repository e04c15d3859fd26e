/- ShaForks answers true. -/
import Derived.Test.YtoeilaedpibboaaDoorGenB
import Derived.Test.YtoeilaedpibboaaDoorShaAlive
namespace Go.Proofs.YtoeilaedpibboaaDoor
open Go.RowKit

theorem eq_digest (d : List Int) (hd : d.length = 32) (w : World) : (Op.equalIn 10000 24 (.agg (ints .u8 d).toArray) (.agg (ints .u8 d).toArray)).run Tryd.prog w = .ok true w := by
  have := run_equalIn_ints w 9998 Tryd.underlying24 Tryd.underlying5 sizeByte d d hd hd
  rw [show decide (d = d) = true from decide_eq_true rfl] at this
  exact this

/-- Two hashes, each of its own bytes, in a world that has grown out of w. -/
structure Twins (w w' : World) (h f : Nat) (m1 m2 : List Int) : Prop where
  p : HashIs w' h m1
  q : HashIs w' f m2
  ne : h ≠ f
  bel : Below w.heap.size w w'
  hw : w.heap.size ≤ h
  fw : w.heap.size ≤ f
theorem Twins.next {w w1 w2 : World} {h f : Nat} {m1 m2 : List Int} (t : Twins w w1 h f m1 m2) (hb : Below w1.heap.size w1 w2) : Twins w w2 h f m1 m2 :=
  ⟨t.p.below hb t.p.lt, t.q.below hb t.q.lt, t.ne, t.bel.trans (hb.mono t.bel.size), t.hw, t.fw⟩

theorem Twins.next2 {B : Nat} {w w1 w2 : World} {h f : Nat} {m1 m2 : List Int} (t : Twins w w1 h f m1 m2) (hb : Below B w1 w2) (hB : w.heap.size ≤ B) (hh : h < B) (hf : f < B) : Twins w w2 h f m1 m2 :=
  ⟨t.p.below hb hh, t.q.below hb hf, t.ne, t.bel.trans (hb.mono hB), t.hw, t.fw⟩
theorem BytesIn.below2 {B : Nat} {w w' : World} {v : Value} {zs : List Int} (h : BytesIn w v zs) (hb : Below B w w') (hB : w.heap.size ≤ B) : BytesIn w' v zs := h.below hb hB
end Go.Proofs.YtoeilaedpibboaaDoor
