/- Rows of terms and of levels of a call's own; the document's copy of a term. -/
import Derived.Test.YtmceocgddaaohaaGreatDoorQTrmK
import Derived.Test.YtmceocgddaaohaaGreatDoorQLevC
import Derived.Test.YtmceocgddaaohaaGreatDoorQTrmB
import Derived.Maps.AppendAt
namespace Go.Proofs.YtmceocgddaaohaaGreatDoor
open Go Go.RowKit
set_option maxRecDepth 100000
/-- The block of a row of the call's own. -/
def ownL (v : Value) : List Nat := v.ownBlock.toList
theorem ownL_mem {v : Value} {g : Nat} : g ∈ ownL v ↔ v.ownBlock = some g := by
 unfold ownL
 cases v.ownBlock <;> simp [eq_comm]
/-- A row of terms of the call's own: what hangs on it lies off the blocks below m, and off the row itself. -/
def RowT (m : Nat) (w : World) (v : Value) (ts : List Tm) : Prop := ∃ ds, w.ownsRow m 25 5 v ts.length ds.flatten ∧ TmCells (List.range m ++ ownL v) w ts ds
theorem own_where {m : Nat} {w : World} {e : TypeId} {n s : Nat} {v : Value} {xs : List Value} (h : w.ownsRow m e s v n xs) : ∀ g, v.ownBlock = some g → m ≤ g ∧ g < w.heap.size := fun g hg => by
 obtain ⟨-, h1⟩ := h
 rcases h1 with ⟨rfl, -⟩ | ⟨k, cap, cur, rfl, hb, hk, -⟩
 ·cases hg
 ·cases hg
  exact ⟨hb, (Array.getElem?_eq_some_iff.1 hk).1⟩
/-- A step that leaves the row, and what hangs on it. -/
theorem RowT.step {m : Nat} {w w' : World} {v : Value} {ts : List Tm} {F : List Nat} (h : RowT m w v ts) (hs : Step F w F w') (hF : ∀ k ∈ F, k < m) : RowT m w' v ts := by
 obtain ⟨ds, h1, h2⟩ := h
 have ho := own_where h1
 refine ⟨ds, own_step h1 hs (fun g hg hgF => by have := hF g hgF; have := (ho g hg).1; omega), ?_⟩
 have hs2 : Step (List.range m ++ ownL v) w (List.range m ++ ownL v) w' := ⟨hs.os, hs.tape, hs.output, hs.size, fun k hk hn => hs.block k hk (fun hc => hn (List.mem_append_left _ (List.mem_range.2 (hF k hc)))), fun k hk => .inl hk⟩
 exact TmCells.step hs2 h2
theorem RowT.upd {m b : Nat} {w w' : World} {v : Value} {ts : List Tm} (h : RowT m w v ts) (hu : Upd b w w') (hb : b < m) : RowT m w' v ts := h.step (F := [b]) (Step.of_upd hu (by simp)) (fun k hk => by simp at hk; omega)
/-- A row of levels of the call's own. -/
def RowL (m : Nat) (w : World) (v : Value) (ls : List Lv) : Prop := w.ownsRow m 80 5 v ls.length (ls.map fun l => ints .i64 l.zs).flatten ∧ ∀ l ∈ ls, l.p.length = 4
theorem RowL.nil (m : Nat) (w : World) : RowL m w (.slice none 0 0) [] := ⟨World.ownsRow_nil w m 80 5, fun l h => by cases h⟩
theorem RowL.step {m : Nat} {w w' : World} {v : Value} {ls : List Lv} {F : List Nat} (h : RowL m w v ls) (hs : Step F w F w') (hF : ∀ k ∈ F, k < m) : RowL m w' v ls :=
 ⟨own_step h.1 hs (fun g hg hgF => by have := hF g hgF; have := (own_where h.1 g hg).1; omega), h.2⟩
theorem RowL.below {m : Nat} {w w' : World} {v : Value} {ls : List Lv} (h : RowL m w v ls) (hb : Below w.heap.size w w') : RowL m w' v ls := h.step (F := []) (Step.of_below hb (Nat.le_refl _)) (fun k hk => by cases hk)
theorem RowL.upd {m b : Nat} {w w' : World} {v : Value} {ls : List Lv} (h : RowL m w v ls) (hu : Upd b w w') (hb : b < m) : RowL m w' v ls := h.step (F := [b]) (Step.of_upd hu (by simp)) (fun k hk => by simp at hk; omega)
theorem flat_at : ∀ (ls : List Lv) (i : Nat) (l : Lv), (∀ x ∈ ls, x.p.length = 4) → ls[i]? = some l → ∀ (j : Nat) (u : Value), (ints .i64 l.zs)[j]? = some u → ((ls.map fun l => ints .i64 l.zs).flatten)[5 * i + j]? = some u
 | [], i, l, _, h, _, _, _ => by simp at h
 | x :: ls, 0, l, h4, h, j, u, hu => by
  obtain rfl : x = l := by simpa using h
  have hj := (List.getElem?_eq_some_iff.1 hu).1
  rw [List.map_cons, List.flatten_cons, List.getElem?_append_left (by omega)]
  simpa using hu
 | x :: ls, i + 1, l, h4, h, j, u, hu => by
  have hx : (ints .i64 x.zs).length = 5 := by rw [ints_length, Lv.zs]; simp [h4 x List.mem_cons_self]
  rw [List.map_cons, List.flatten_cons, List.getElem?_append_right (by omega), hx, show 5 * (i + 1) + j - 5 = 5 * i + j by omega]
  exact flat_at ls i l (fun y hy => h4 y (List.mem_cons_of_mem _ hy)) (by simpa using h) j u hu
theorem RowL.in {m : Nat} {w : World} {v : Value} {ls : List Lv} (h : RowL m w v ls) : LvsOff (List.range m) w v ls := by
 have ho := own_where h.1
 obtain ⟨⟨h0, h1⟩, h2⟩ := h
 rcases h1 with ⟨rfl, hn⟩ | ⟨g, cap, cur, rfl, hg, hb, hc, hm, hs, ht⟩
 ·obtain rfl := List.eq_nil_of_length_eq_zero hn
  exact LvsOff.nil _ _ _ _
 ·refine ⟨some ⟨g, 0, none⟩, cap, rfl, hc, by unfold maxLen at hm; omega, h2, fun _ => ⟨g, 0, rfl, fun hh => by have := List.mem_range.1 hh; omega, (Array.getElem?_eq_some_iff.1 hb).1, fun i l hi j u hu => ?_⟩⟩
  have hB : Blk w g 80 cur.toList := by unfold Blk; simpa using hb
  refine hB.cell ?_
  have h5 := flat_at ls i l h2 hi j u hu
  rw [← ht, List.getElem?_take] at h5
  split at h5
  ·rw [Nat.zero_add]; exact h5
  ·cases h5
theorem rng_low {B : Nat} {w w' : World} {pb o : Nat} {cs : List Value} (h : w.rangeAt pb o cs) (hb : Below B w w') (hp : pb < B) : w'.rangeAt pb o cs := fun j u hu => (hb.cell (p := ⟨pb, o + j, none⟩) hp).trans (h j u hu)
theorem grown_blk {w w' : World} {row : Option Nat} {b : Nat} {t : TypeId} {cs : List Value} (hg : w.grownBy w' row) (h : Blk w b t cs) (hne : row ≠ some b) : Blk w' b t cs := by
 have := hg.block b h.lt (Ne.symm hne)
 unfold Blk at h ⊢
 rw [this, h]
theorem grown_below {m : Nat} {w w' : World} {row : Option Nat} (hg : w.grownBy w' row) (hm : m ≤ w.heap.size) (hr : ∀ g, row = some g → m ≤ g) : Below m w w' := (Below.refl m w).grown hg hm hr
theorem TmAt.range {m n : Nat} {w : World} {t : Tm} {cs : List Value} (h : TmAt (List.range m) w t cs) (hn : n ≤ m) : TmAt (List.range n) w t cs := TmAt.sub (fun k hk => .inl (List.mem_range.2 (by have := List.mem_range.1 hk; omega))) t cs h
/-- New memory lies off every block that was there. -/
theorem TmAt.off {G : List Nat} {m : Nat} {w : World} {t : Tm} {cs : List Value} (h : TmAt (List.range m) w t cs) (hG : ∀ k ∈ G, k < m ∨ w.heap.size ≤ k) : TmAt G w t cs := TmAt.sub (fun k hk => (hG k hk).imp (fun h => List.mem_range.2 h) id) t cs h
/-- What a function that makes a term answers: new memory. -/
def NewTm (t : Tm) (w : World) (e : Ending) (w' : World) : Prop := ∃ cs, e = .returned (.agg cs.toArray) ∧ TmAt (List.range w.heap.size) w' t cs ∧ Below w.heap.size w w'
section
variable {P : Program} {ops : Array Oper} {Q : Exit → Act → World → Prop} {S : World → Prop} {fuel : Nat} {listed : Array Bool} {a : Act} {w : World}
/-- One cell of a block of five is stored. -/
theorem lin_putF (i off : Nat) (ty : TypeId) (x y : Operand) (b : Nat) (t : TypeId) (cs : List Value) (v : Value) (hi : (ops[i]?.isSome && Region.wanted (opAt ops i) (yielded ops a.tmps)) = true) (hd : (opAt ops i).dst = none)
    (ho : (opAt ops i).op = .store ty x y) (hx : a.eval x = .pointer (some ⟨b, off, none⟩)) (hy : a.eval y = v) (hb : Blk w b t cs) (hl : off < cs.length) (hz : (P.info? ty).map (·.size) = some 1) (hv : v.cells = #[v]) (h1 : v.oneCell' = true)
    (h : ∀ w', Blk w' b t (cs.set off v) → Upd b w w' → wpFrom P ops Q (i + 1) (a.put none undef) w') : wpFrom P ops Q i a w :=
  lin_store i (w.setCell ⟨b, off, none⟩ v) hi hd (exec_store_cell ty x y ho b off v hx hy t cs hb hl hz hv h1) (h _ (hb.set off v) ((Upd.refl b w).setCell off v))
/-- A whole block of a term is stored, in a drawn region. -/
theorem reg_putT (i : Nat) (ty : TypeId) (x y : Operand) (b : Nat) (t : TypeId) (cs vs : List Value) (hi : (ops[i]?.isSome && (Region.ready .any ops listed == [i]) && Region.wanted (opAt ops i) (yielded ops a.tmps)) = true) (hd : (opAt ops i).dst = none)
    (ho : (opAt ops i).op = .store ty x y) (hx : a.eval x = .pointer (some ⟨b, 0, none⟩)) (hy : a.eval y = .agg vs.toArray) (hb : Blk w b t cs) (hl : vs.length = cs.length) (hz : (P.info? ty).map (·.size) = some vs.length) (h1 : vs.toArray.all (·.oneCell') = true)
    (h : ∀ w', Blk w' b t vs → Upd b w w' → S w' ∧ wpAnyH P .any ops Q S fuel (listed.setIfInBounds i true) (a.put none undef) w') : wpAnyH P .any ops Q S (fuel + 1) listed a w := by
  obtain ⟨hS, hk⟩ := h (w.setCells b 0 vs) (hb.setWhole vs hl) ((Upd.refl b w).setCells vs 0)
  exact reg_store i _ hi hd (exec_store_mid ty x y ho b 0 vs hx hy (hb.there 0 _ (by omega)) hz h1) hS hk
end
theorem run_build_tm1 {F : List Nat} {w : World} {t : Tm} {cs : List Value} (h : TmAt F w t cs) (w' : World) : (Instr.buildSlice 23 1 #[(0, .agg cs.toArray)]).run Tryz.prog w' = .ok (.slice (some ⟨w'.heap.size, 0, none⟩) 1 1) (w'.alloc (.cells cs.toArray 25)) := by
 obtain ⟨lv, av, rfl, h1, h2⟩ := h.open
 obtain ⟨la, lc, rfl⟩ := h1.slice
 obtain ⟨aa, ac, rfl⟩ := h2.slice
 exact run_build_tm _ _ _ _ _ _ _ _ _ _
theorem slice_one {v : Value} (h : ∃ a n c, v = .slice a n c) : v.cells = #[v] ∧ v.oneCell' = true := by
 obtain ⟨a, n, c, rfl⟩ := h
 exact ⟨rfl, rfl⟩
theorem RowL.slice {m : Nat} {w : World} {v : Value} {ls : List Lv} (h : RowL m w v ls) : ∃ a n c, v = .slice a n c := by
 obtain ⟨a, c, rfl⟩ := h.in.slice
 exact ⟨a, _, c, rfl⟩
theorem sizeLvs : (Tryz.prog.info? 22).map (·.size) = some 1 := by kernel_rfl
theorem sizeTms : (Tryz.prog.info? 23).map (·.size) = some 1 := by kernel_rfl
end Go.Proofs.YtmceocgddaaohaaGreatDoor
