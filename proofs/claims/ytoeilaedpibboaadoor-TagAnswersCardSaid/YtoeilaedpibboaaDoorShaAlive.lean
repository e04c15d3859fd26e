/- alive answers true. -/
import Derived.Test.YtoeilaedpibboaaDoorGenB
import Derived.Test.YtoeilaedpibboaaDoorShaRef0
import Derived.Test.YtoeilaedpibboaaDoorShaBlk
import Derived.Test.YtoeilaedpibboaaDoorShaSpec
import Derived.Laws.AppendOwnNone
import Derived.OwnWalk
namespace Go.Proofs.YtoeilaedpibboaaDoor
open Go.RowKit

theorem bytes_blk_at {w : World} {b p n : Nat} {zs : List Int} (h : Blk w p 5 (ints .u8 zs)) (hn : zs.length = n) (hp : p ≠ b) : BytesAt w b (.slice (some ⟨p, 0, none⟩) n n) zs := by
  subst hn
  exact ⟨some ⟨p, 0, none⟩, zs.length, rfl, Nat.le_refl _, fun _ => ⟨p, 0, rfl, hp, h.lt, h.whole⟩⟩
theorem parts_two {w : World} {b q : Nat} {v1 v2 : Value} {z1 z2 : List Int} (hq : Blk w q 36 [v1, v2]) (hne : q ≠ b) (h1 : BytesAt w b v1 z1) (h2 : BytesAt w b v2 z2) : PartsAt w b (.slice (some ⟨q, 0, none⟩) 2 2) [z1, z2] :=
  ⟨some ⟨q, 0, none⟩, 2, [v1, v2], rfl, rfl, by simp, fun _ => ⟨q, 0, rfl, hne, hq.lt, hq.whole⟩, fun k u us hu hus => by
    match k with
    | 0 => simp at hu hus; subst hu; subst hus; exact h1
    | 1 => simp at hu hus; subst hu; subst hus; exact h2
    | k + 2 => simp at hu⟩
theorem KW.alloc {w : World} (h : KW w) (o : Obj) : KW (w.alloc o) := h.below ((Below.refl w.heap.size w).alloc (Nat.le_refl _) o) h.lt

/-- What alive has in memory at its last statement. -/
structure Alive (da db : List Int) (A B h f : Nat) (w w' : World) : Prop where
  a : Blk w' A 24 (ints .u8 da)
  b : Blk w' B 24 (ints .u8 db)
  h : HashIs w' h [97, 98, 99]
  f : HashIs w' f [97, 98, 99, 100]
  bel : Below w.heap.size w w'
theorem Alive.next {da db : List Int} {A B h f : Nat} {w w1 w2 : World} (hS : Alive da db A B h f w w1) (hb : Below w1.heap.size w1 w2) : Alive da db A B h f w w2 :=
  ⟨hS.a.below hb hS.a.lt, hS.b.below hb hS.b.lt, hS.h.below hb hS.h.lt, hS.f.below hb hS.f.lt, hS.bel.trans (hb.mono hS.bel.size)⟩
theorem bytes_head {w : World} {b : Nat} {t : TypeId} {ds zs : List Int} (h : Blk w b t (ints .u8 ds)) (h4 : ds.take 4 = zs) (hz : zs.length = 4) : BytesIn w (.slice (some ⟨b, 0, none⟩) 4 32) zs := by
  refine ⟨some ⟨b, 0, none⟩, 32, by rw [hz], by omega, fun _ => ⟨b, 0, rfl, h.lt, fun j v hv => ?_⟩⟩
  refine h.whole j v ?_
  rw [← h4] at hv
  simp only [ints, List.map_take, List.getElem?_take] at hv ⊢
  split at hv
  · exact hv
  · cases hv
theorem guardDigest : Tryd.prog.eqGuardType Tryd.prog.depth 24 = false := by kernel_rfl

end Go.Proofs.YtoeilaedpibboaaDoor
/- CopyBytes gives the same bytes in new memory of its own; append of bytes onto bytes that the call itself owns. -/
namespace Go.Proofs.YtoeilaedpibboaaDoor
open Go.RowKit
set_option maxRecDepth 100000

end Go.Proofs.YtoeilaedpibboaaDoor
