/- Rows of terms and of levels of a call's own; the document's copy of a term. -/
import Derived.Test.YtdacmogedchnaaaQTrmK
import Derived.Test.YtdacmogedchnaaaQLevC
import Derived.Test.YtdacmogedchnaaaQTrmB
import Derived.Maps.AppendAt
namespace Go.Proofs.Ytdacmogedchnaaa
open Go Go.RowKit
set_option maxRecDepth 100000
/-- The block of a row of the call's own. -/
def ownL (v : Value) : List Nat := v.ownBlock.toList
theorem ownL_mem {v : Value} {g : Nat} : g ∈ ownL v ↔ v.ownBlock = some g := by
 unfold ownL
 cases v.ownBlock <;> simp [eq_comm]
theorem own_where {m : Nat} {w : World} {e : TypeId} {n s : Nat} {v : Value} {xs : List Value} (h : w.ownsRow m e s v n xs) : ∀ g, v.ownBlock = some g → m ≤ g ∧ g < w.heap.size := fun g hg => by
 obtain ⟨-, h1⟩ := h
 rcases h1 with ⟨rfl, -⟩ | ⟨k, cap, cur, rfl, hb, hk, -⟩
 ·cases hg
 ·cases hg
  exact ⟨hb, (Array.getElem?_eq_some_iff.1 hk).1⟩
theorem grown_step {m : Nat} {w w' : World} {v v' : Value} (hg : w.grownBy w' v.ownBlock) (ha : v'.ownBlock = v.ownBlock ∨ v'.ownBlock = some w.heap.size) : Step (List.range m ++ ownL v) w (List.range m ++ ownL v') w' :=
 ⟨hg.os, hg.tape, hg.output, hg.size, fun k hk hn => hg.block k hk (fun e => hn (List.mem_append_right _ (ownL_mem.2 e.symm))), fun k hk => by
  rcases List.mem_append.1 hk with hk | hk
  ·exact .inl (List.mem_append_left _ hk)
  ·rcases ha with ha | ha
   ·exact .inl (List.mem_append_right _ (ownL_mem.2 (ha ▸ ownL_mem.1 hk)))
   ·refine .inr ?_
    have := ownL_mem.1 hk
    rw [ha] at this
    exact Nat.le_of_eq (Option.some.inj this)⟩
theorem rng_low {B : Nat} {w w' : World} {pb o : Nat} {cs : List Value} (h : w.rangeAt pb o cs) (hb : Below B w w') (hp : pb < B) : w'.rangeAt pb o cs := fun j u hu => (hb.cell (p := ⟨pb, o + j, none⟩) hp).trans (h j u hu)
section
variable {P : Program} {ops : Array Oper} {Q : Exit → Act → World → Prop} {S : World → Prop} {fuel : Nat} {listed : Array Bool} {a : Act} {w : World}
/-- One cell of a block of five is stored. -/
theorem lin_putF (i off : Nat) (ty : TypeId) (x y : Operand) (b : Nat) (t : TypeId) (cs : List Value) (v : Value) (hi : (ops[i]?.isSome && Region.wanted (opAt ops i) (yielded ops a.tmps)) = true) (hd : (opAt ops i).dst = none)
    (ho : (opAt ops i).op = .store ty x y) (hx : a.eval x = .pointer (some ⟨b, off, none⟩)) (hy : a.eval y = v) (hb : Blk w b t cs) (hl : off < cs.length) (hz : (P.info? ty).map (·.size) = some 1) (hv : v.cells = #[v]) (h1 : v.oneCell' = true)
    (h : ∀ w', Blk w' b t (cs.set off v) → Upd b w w' → wpFrom P ops Q (i + 1) (a.put none undef) w') : wpFrom P ops Q i a w :=
  lin_store i (w.setCell ⟨b, off, none⟩ v) hi hd (exec_store_cell ty x y ho b off v hx hy t cs hb hl hz hv h1) (h _ (hb.set off v) ((Upd.refl b w).setCell off v))
/-- A whole block of a term is stored, in a drawn region. -/
theorem reg_putT (i : Nat) (ty : TypeId) (x y : Operand) (b : Nat) (t : TypeId) (cs vs : List Value) (hi : (ops[i]?.isSome && (Region.ready .any ops listed == [i]) && Region.wanted (opAt ops i) (yielded ops a.tmps)) = true) (hd : (opAt ops i).dst = none)
    (ho : (opAt ops i).op = .store ty x y) (hx : a.eval x = .pointer (some ⟨b, 0, none⟩)) (hy : a.eval y = .agg vs.toArray) (hb : Blk w b t cs) (hl : vs.length = cs.length) (hz : (P.info? ty).map (·.size) = some vs.length) (h1 : vs.toArray.all (·.oneCell') = true)
    (h : ∀ w', Blk w' b t vs → Upd b w w' → S w' ∧ wpAnyH P .any ops Q S fuel (listed.setIfInBounds i true) (a.put none undef) w') : wpAnyH P .any ops Q S (fuel + 1) listed a w := by
  obtain ⟨hS, hk⟩ := h (w.setCells b 0 vs) (hb.setWhole vs hl) ((Upd.refl b w).setCells vs 0)
  exact reg_store i _ hi hd (exec_store_mid ty x y ho b 0 vs hx hy (hb.there 0 _ (by omega)) hz h1) hS hk
end
end Go.Proofs.Ytdacmogedchnaaa
