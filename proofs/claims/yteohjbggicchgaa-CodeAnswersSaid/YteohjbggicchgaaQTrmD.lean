/- Rows of terms and of levels of a call's own; the document's copy of a term. -/
import Derived.Test.YteohjbggicchgaaQGenT
import Derived.Test.YteohjbggicchgaaQTrmK
import Derived.Test.YteohjbggicchgaaQLevC
import Derived.Test.YteohjbggicchgaaQTrmB
import Derived.Maps.AppendAt
namespace Go.Proofs.Yteohjbggicchgaa
open Go Go.RowKit
set_option maxRecDepth 100000
/-- The block of a row of the call's own. -/
def ownL (v : Value) : List Nat := v.ownBlock.toList
theorem ownL_mem {v : Value} {g : Nat} : g ∈ ownL v ↔ v.ownBlock = some g := by
 unfold ownL
 cases v.ownBlock <;> simp [eq_comm]
/-- A row of terms of the call's own: what hangs on it lies off the blocks below m, and off the row itself. -/
def RowT (m : Nat) (w : World) (v : Value) (ts : List Tm) : Prop := ∃ ds, w.ownsRow m 25 5 v ts.length ds.flatten ∧ TmCells (List.range m ++ ownL v) w ts ds
theorem RowT.nil (m : Nat) (w : World) : RowT m w (.slice none 0 0) [] := ⟨[], World.ownsRow_nil w m 25 5, trivial⟩
theorem own_where {m : Nat} {w : World} {e : TypeId} {n s : Nat} {v : Value} {xs : List Value} (h : w.ownsRow m e s v n xs) : ∀ g, v.ownBlock = some g → m ≤ g ∧ g < w.heap.size := fun g hg => by
 obtain ⟨-, h1⟩ := h
 rcases h1 with ⟨rfl, -⟩ | ⟨k, cap, cur, rfl, hb, hk, -⟩
 ·cases hg
 ·cases hg
  exact ⟨hb, (Array.getElem?_eq_some_iff.1 hk).1⟩
theorem RowT.own {m : Nat} {w : World} {v : Value} {ts : List Tm} (h : RowT m w v ts) : ∀ g, v.ownBlock = some g → m ≤ g ∧ g < w.heap.size := by
 obtain ⟨ds, h1, -⟩ := h
 exact own_where h1
/-- A step that leaves the row, and what hangs on it. -/
theorem RowT.step {m : Nat} {w w' : World} {v : Value} {ts : List Tm} {F : List Nat} (h : RowT m w v ts) (hs : Step F w F w') (hF : ∀ k ∈ F, k < m) : RowT m w' v ts := by
 obtain ⟨ds, h1, h2⟩ := h
 have ho := own_where h1
 refine ⟨ds, own_step h1 hs (fun g hg hgF => by have := hF g hgF; have := (ho g hg).1; omega), ?_⟩
 have hs2 : Step (List.range m ++ ownL v) w (List.range m ++ ownL v) w' := ⟨hs.os, hs.tape, hs.output, hs.size, fun k hk hn => hs.block k hk (fun hc => hn (List.mem_append_left _ (List.mem_range.2 (hF k hc)))), fun k hk => .inl hk⟩
 exact TmCells.step hs2 h2
theorem RowT.below {m : Nat} {w w' : World} {v : Value} {ts : List Tm} (h : RowT m w v ts) (hb : Below w.heap.size w w') : RowT m w' v ts := h.step (F := []) (Step.of_below hb (Nat.le_refl _)) (fun k hk => by cases hk)
theorem RowT.upd {m b : Nat} {w w' : World} {v : Value} {ts : List Tm} (h : RowT m w v ts) (hu : Upd b w w') (hb : b < m) : RowT m w' v ts := h.step (F := [b]) (Step.of_upd hu (by simp)) (fun k hk => by simp at hk; omega)
theorem RowT.in {m : Nat} {w : World} {v : Value} {ts : List Tm} (h : RowT m w v ts) : TmsAt (List.range m) w ts v := by
 obtain ⟨ds, h1, h2⟩ := h
 have ho := own_where h1
 exact OwnT.in (ty := 25) (base := m) ⟨ds, h1, TmCells.sub (fun k hk => .inl (List.mem_append_left _ hk)) h2⟩ (fun g hg hc => by have := (ho g hg).1; have := List.mem_range.1 hc; omega)
theorem grown_step {m : Nat} {w w' : World} {v v' : Value} (hg : w.grownBy w' v.ownBlock) (ha : v'.ownBlock = v.ownBlock ∨ v'.ownBlock = some w.heap.size) : Step (List.range m ++ ownL v) w (List.range m ++ ownL v') w' :=
 ⟨hg.os, hg.tape, hg.output, hg.size, fun k hk hn => hg.block k hk (fun e => hn (List.mem_append_right _ (ownL_mem.2 e.symm))), fun k hk => by
  rcases List.mem_append.1 hk with hk | hk
  ·exact .inl (List.mem_append_left _ hk)
  ·rcases ha with ha | ha
   ·exact .inl (List.mem_append_right _ (ownL_mem.2 (ha ▸ ownL_mem.1 hk)))
   ·refine .inr ?_
    have := ownL_mem.1 hk
    rw [ha] at this
    exact Nat.le_of_eq (Option.some.inj this)⟩
/-- A term that lies in a block of its own, behind such a row. -/
theorem RowT.append {m : Nat} {w : World} {v : Value} {ts : List Tm} {t : Tm} {g : Nat} {cs : List Value} (h : RowT m w v ts) (hb : Blk w g 25 cs) (ht : TmAt (List.range m ++ ownL v) w t cs) (hn : (ts.length + 1) * 80 ≤ 140737488355328) (hm : m ≤ w.heap.size) :
    ∃ v' w', (Builtin.append_ #[23, 23] 23 #[v, .slice (some ⟨g, 0, none⟩) 1 1]).run Try.prog w = .ok v' w' ∧ RowT m w' v' (ts ++ [t]) ∧ w.grownBy w' v.ownBlock ∧ (v'.ownBlock = v.ownBlock ∨ v'.ownBlock = some w.heap.size) := by
  obtain ⟨ds, h1, h2⟩ := h
  obtain ⟨i0, hi0, hz0, hz1, hz2⟩ := info_parts infoTm
  have hl : cs.length = 5 := ht.len
  obtain ⟨v', w', e1, e2, e3, -, e5⟩ := run_append_own_at w m 23 23 25 i0 _ 5 80 elemTms1 hi0 hz0 hz1 hz2 (by rfl) (by decide) v ts.length ds.flatten h1 ⟨g, 0, none⟩ 1 1 cs (by rw [hl]) (fun j u hj => by rw [Addr.add_mid]; exact hb.whole j u hj) (fun u hu => ht.one u hu) (by unfold maxLen; omega) hn hm
  have hs := grown_step (m := m) e3 e5
  exact ⟨v', w', e1, ⟨ds ++ [cs], by rw [List.flatten_append, List.length_append]; simpa using e2, TmCells.snoc (TmAt.step hs _ _ ht) (TmCells.step hs h2)⟩, e3, e5⟩
/-- A row of levels of the call's own. -/
def RowL (m : Nat) (w : World) (v : Value) (ls : List Lv) : Prop := w.ownsRow m 80 5 v ls.length (ls.map fun l => ints .i64 l.zs).flatten ∧ ∀ l ∈ ls, l.p.length = 4
theorem RowL.nil (m : Nat) (w : World) : RowL m w (.slice none 0 0) [] := ⟨World.ownsRow_nil w m 80 5, fun l h => by cases h⟩
theorem RowL.own {m : Nat} {w : World} {v : Value} {ls : List Lv} (h : RowL m w v ls) : ∀ g, v.ownBlock = some g → m ≤ g ∧ g < w.heap.size := own_where h.1
theorem RowL.step {m : Nat} {w w' : World} {v : Value} {ls : List Lv} {F : List Nat} (h : RowL m w v ls) (hs : Step F w F w') (hF : ∀ k ∈ F, k < m) : RowL m w' v ls :=
 ⟨own_step h.1 hs (fun g hg hgF => by have := hF g hgF; have := (own_where h.1 g hg).1; omega), h.2⟩
theorem RowL.below {m : Nat} {w w' : World} {v : Value} {ls : List Lv} (h : RowL m w v ls) (hb : Below w.heap.size w w') : RowL m w' v ls := h.step (F := []) (Step.of_below hb (Nat.le_refl _)) (fun k hk => by cases hk)
theorem RowL.upd {m b : Nat} {w w' : World} {v : Value} {ls : List Lv} (h : RowL m w v ls) (hu : Upd b w w') (hb : b < m) : RowL m w' v ls := h.step (F := [b]) (Step.of_upd hu (by simp)) (fun k hk => by simp at hk; omega)
theorem flat_at : ∀ (ls : List Lv) (i : Nat) (l : Lv), (∀ x ∈ ls, x.p.length = 4) → ls[i]? = some l → ∀ (j : Nat) (u : Value), (ints .i64 l.zs)[j]? = some u → ((ls.map fun l => ints .i64 l.zs).flatten)[5 * i + j]? = some u
 | [], i, l, _, h, _, _, _ => by simp at h
 | x :: ls, 0, l, h4, h, j, u, hu => by
  obtain rfl : x = l := by simpa using h
  have hj := (List.getElem?_eq_some_iff.1 hu).1
  rw [List.map_cons, List.flatten_cons, List.getElem?_append_left (by omega)]
  simpa using hu
 | x :: ls, i + 1, l, h4, h, j, u, hu => by
  have hx : (ints .i64 x.zs).length = 5 := by rw [ints_length, Lv.zs]; simp [h4 x List.mem_cons_self]
  rw [List.map_cons, List.flatten_cons, List.getElem?_append_right (by omega), hx, show 5 * (i + 1) + j - 5 = 5 * i + j by omega]
  exact flat_at ls i l (fun y hy => h4 y (List.mem_cons_of_mem _ hy)) (by simpa using h) j u hu
theorem RowL.in {m : Nat} {w : World} {v : Value} {ls : List Lv} (h : RowL m w v ls) : LvsOff (List.range m) w v ls := by
 have ho := own_where h.1
 obtain ⟨⟨h0, h1⟩, h2⟩ := h
 rcases h1 with ⟨rfl, hn⟩ | ⟨g, cap, cur, rfl, hg, hb, hc, hm, hs, ht⟩
 ·obtain rfl := List.eq_nil_of_length_eq_zero hn
  exact LvsOff.nil _ _ _ _
 ·refine ⟨some ⟨g, 0, none⟩, cap, rfl, hc, by unfold maxLen at hm; omega, h2, fun _ => ⟨g, 0, rfl, fun hh => by have := List.mem_range.1 hh; omega, (Array.getElem?_eq_some_iff.1 hb).1, fun i l hi j u hu => ?_⟩⟩
  have hB : Blk w g 80 cur.toList := by unfold Blk; simpa using hb
  refine hB.cell ?_
  have h5 := flat_at ls i l h2 hi j u hu
  rw [← ht, List.getElem?_take] at h5
  split at h5
  ·rw [Nat.zero_add]; exact h5
  ·cases h5
theorem RowL.append {m : Nat} {w : World} {v : Value} {ls : List Lv} {l : Lv} {g : Nat} (h : RowL m w v ls) (hl : l.p.length = 4) (hb : Blk w g 80 (ints .i64 l.zs)) (hn : (ls.length + 1) * 40 ≤ 140737488355328) (hm : m ≤ w.heap.size) :
    ∃ v' w', (Builtin.append_ #[22, 22] 22 #[v, .slice (some ⟨g, 0, none⟩) 1 1]).run Try.prog w = .ok v' w' ∧ RowL m w' v' (ls ++ [l]) ∧ w.grownBy w' v.ownBlock := by
  obtain ⟨i0, hi0, hz0, hz1, hz2⟩ := info_parts infoLvS
  have h5 : (ints .i64 l.zs).length = 5 := by rw [ints_length, Lv.zs]; simp [hl]
  obtain ⟨v', w', e1, e2, e3, -⟩ := run_append_own_at w m 22 22 80 i0 _ 5 40 elemLvs1 hi0 hz0 hz1 hz2 (by rfl) (by decide) v ls.length _ h.1 ⟨g, 0, none⟩ 1 1 (ints .i64 l.zs) (by rw [h5]) (fun j u hj => by rw [Addr.add_mid]; exact hb.whole j u hj) (ints_one _ _) (by unfold maxLen; omega) hn hm
  refine ⟨v', w', e1, ⟨by rw [List.map_append, List.flatten_append, List.length_append]; simpa using e2, fun x hx => ?_⟩, e3⟩
  rcases List.mem_append.1 hx with hx | hx
  · exact h.2 x hx
  · rw [List.mem_singleton.1 hx]
    exact hl
theorem rng_low {B : Nat} {w w' : World} {pb o : Nat} {cs : List Value} (h : w.rangeAt pb o cs) (hb : Below B w w') (hp : pb < B) : w'.rangeAt pb o cs := fun j u hu => (hb.cell (p := ⟨pb, o + j, none⟩) hp).trans (h j u hu)
theorem own_grown {w w' : World} {base s n : Nat} {e : TypeId} {v : Value} {xs : List Value} {row : Option Nat} (h : w.ownsRow base e s v n xs) (hg : w.grownBy w' row) (hv : ∀ g, v.ownBlock = some g → some g ≠ row) : w'.ownsRow base e s v n xs := by
 refine ⟨h.1, ?_⟩
 rcases h.2 with ⟨rfl, h0⟩ | ⟨g, cap, cur, rfl, h1, h2, h3⟩
 ·exact .inl ⟨rfl, h0⟩
 ·refine .inr ⟨g, cap, cur, rfl, h1, ?_, h3⟩
  rw [hg.block g (Array.getElem?_eq_some_iff.1 h2).1 (hv g rfl)]
  exact h2
theorem grown_blk {w w' : World} {row : Option Nat} {b : Nat} {t : TypeId} {cs : List Value} (hg : w.grownBy w' row) (h : Blk w b t cs) (hne : row ≠ some b) : Blk w' b t cs := by
 have := hg.block b h.lt (Ne.symm hne)
 unfold Blk at h ⊢
 rw [this, h]
theorem TmAt.range {m n : Nat} {w : World} {t : Tm} {cs : List Value} (h : TmAt (List.range m) w t cs) (hn : n ≤ m) : TmAt (List.range n) w t cs := TmAt.sub (fun k hk => .inl (List.mem_range.2 (by have := List.mem_range.1 hk; omega))) t cs h
/-- New memory lies off every block that was there. -/
theorem TmAt.off {G : List Nat} {m : Nat} {w : World} {t : Tm} {cs : List Value} (h : TmAt (List.range m) w t cs) (hG : ∀ k ∈ G, k < m ∨ w.heap.size ≤ k) : TmAt G w t cs := TmAt.sub (fun k hk => (hG k hk).imp (fun h => List.mem_range.2 h) id) t cs h
/-- What a function that makes a term answers: new memory. -/
def NewTm (t : Tm) (w : World) (e : Ending) (w' : World) : Prop := ∃ cs, e = .returned (.agg cs.toArray) ∧ TmAt (List.range w.heap.size) w' t cs ∧ Below w.heap.size w w'
section
variable {P : Program} {ops : Array Oper} {Q : Exit → Act → World → Prop} {S : World → Prop} {fuel : Nat} {listed : Array Bool} {a : Act} {w : World}
/-- One cell of a block of five is stored. -/
theorem lin_putF (i off : Nat) (ty : TypeId) (x y : Operand) (b : Nat) (t : TypeId) (cs : List Value) (v : Value) (hi : (ops[i]?.isSome && Region.wanted (opAt ops i) (yielded ops a.tmps)) = true) (hd : (opAt ops i).dst = none)
    (ho : (opAt ops i).op = .store ty x y) (hx : a.eval x = .pointer (some ⟨b, off, none⟩)) (hy : a.eval y = v) (hb : Blk w b t cs) (hl : off < cs.length) (hz : (P.info? ty).map (·.size) = some 1) (hv : v.cells = #[v]) (h1 : v.oneCell' = true)
    (h : ∀ w', Blk w' b t (cs.set off v) → Upd b w w' → wpFrom P ops Q (i + 1) (a.put none undef) w') : wpFrom P ops Q i a w :=
  lin_store i (w.setCell ⟨b, off, none⟩ v) hi hd (exec_store_cell ty x y ho b off v hx hy t cs hb hl hz hv h1) (h _ (hb.set off v) ((Upd.refl b w).setCell off v))
theorem reg_putF (i off : Nat) (ty : TypeId) (x y : Operand) (b : Nat) (t : TypeId) (cs : List Value) (v : Value) (hi : (ops[i]?.isSome && (Region.ready .any ops listed == [i]) && Region.wanted (opAt ops i) (yielded ops a.tmps)) = true) (hd : (opAt ops i).dst = none)
    (ho : (opAt ops i).op = .store ty x y) (hx : a.eval x = .pointer (some ⟨b, off, none⟩)) (hy : a.eval y = v) (hb : Blk w b t cs) (hl : off < cs.length) (hz : (P.info? ty).map (·.size) = some 1) (hv : v.cells = #[v]) (h1 : v.oneCell' = true)
    (h : ∀ w', Blk w' b t (cs.set off v) → Upd b w w' → S w' ∧ wpAnyH P .any ops Q S fuel (listed.setIfInBounds i true) (a.put none undef) w') : wpAnyH P .any ops Q S (fuel + 1) listed a w := by
  obtain ⟨hS, hk⟩ := h _ (hb.set off v) ((Upd.refl b w).setCell off v)
  exact reg_store i _ hi hd (exec_store_cell ty x y ho b off v hx hy t cs hb hl hz hv h1) hS hk
/-- A whole block of a term is stored, in a drawn region. -/
theorem reg_putT (i : Nat) (ty : TypeId) (x y : Operand) (b : Nat) (t : TypeId) (cs vs : List Value) (hi : (ops[i]?.isSome && (Region.ready .any ops listed == [i]) && Region.wanted (opAt ops i) (yielded ops a.tmps)) = true) (hd : (opAt ops i).dst = none)
    (ho : (opAt ops i).op = .store ty x y) (hx : a.eval x = .pointer (some ⟨b, 0, none⟩)) (hy : a.eval y = .agg vs.toArray) (hb : Blk w b t cs) (hl : vs.length = cs.length) (hz : (P.info? ty).map (·.size) = some vs.length) (h1 : vs.toArray.all (·.oneCell') = true)
    (h : ∀ w', Blk w' b t vs → Upd b w w' → S w' ∧ wpAnyH P .any ops Q S fuel (listed.setIfInBounds i true) (a.put none undef) w') : wpAnyH P .any ops Q S (fuel + 1) listed a w := by
  obtain ⟨hS, hk⟩ := h (w.setCells b 0 vs) (hb.setWhole vs hl) ((Upd.refl b w).setCells vs 0)
  exact reg_store i _ hi hd (exec_store_mid ty x y ho b 0 vs hx hy (hb.there 0 _ (by omega)) hz h1) hS hk
end
/-- A load beside a new row. -/
theorem reg_ldrow {P : Program} {ops : Array Oper} {Q : Exit → Act → World → Prop} {S : World → Prop} {fuel : Nat} {listed : Array Bool} {a : Act} {w : World} (i j : Nat) (vi : Value) (di dj : Tmp) (t : TypeId) (cs : List Value) (q n : Nat) (hq : Hid (w.heap.size = q)) (hS : S w) (hSn : ∀ w1, Below w.heap.size w w1 → S w1)
    (hst : (ops[i]?.isSome && ops[j]?.isSome && (Region.ready .any ops listed == [i, j]) && (Region.ready .any ops (listed.setIfInBounds i true) == [j]) && (Region.ready .any ops (listed.setIfInBounds j true) == [i]) && (opAt ops i).guard.isNone && (opAt ops j).guard.isNone) = true) (hij : i ≠ j)
    (hdi : (opAt ops i).dst = some di) (hdj : (opAt ops j).dst = some dj) (hne : di ≠ dj)
    (hi0 : (execOp a.eval (opAt ops i)).run P w = .ok (.value vi) w) (hi1 : ∀ vj w1, Below w.heap.size w w1 → (execOp (a.put (some dj) vj).eval (opAt ops i)).run P w1 = .ok (.value vi) w1)
    (hj0 : (execOp a.eval (opAt ops j)).run P w = .ok (.value (.slice (some ⟨w.heap.size, 0, none⟩) n n)) (w.alloc (.cells cs.toArray t))) (hj1 : (execOp (a.put (some di) vi).eval (opAt ops j)).run P w = .ok (.value (.slice (some ⟨w.heap.size, 0, none⟩) n n)) (w.alloc (.cells cs.toArray t)))
    (h : ∀ w', Blk w' q t cs → Below q w w' → Hid (w'.heap.size = q + 1) → wpAnyH P .any ops Q S fuel ((listed.setIfInBounds i true).setIfInBounds j true) ((a.put (some di) vi).put (some dj) (.slice (some ⟨q, 0, none⟩) n n)) w') : wpAnyH P .any ops Q S (fuel + 2) listed a w := by
  obtain rfl := hq.out
  have hb : Below w.heap.size w (w.alloc (.cells cs.toArray t)) := (Below.refl _ _).alloc (Nat.le_refl _) _
  exact reg_swap i j vi _ (some di) (some dj) hS (hSn _ hb) hst hij hdi hdj hi0 hj1 hj0 (hi1 _ _ hb) (fun d hd => by cases hd; intro e; exact hne (Option.some.inj e)) (h _ (Blk.new w t cs) hb (by unfold Hid; simp))
/-- A load beside a call and what is made of its result. -/
theorem reg_lck {P : Program} {ops : Array Oper} {Q : Exit → Act → World → Prop} {S : World → Prop} {fuel : Nat} {listed : Array Bool} {a : Act} {w : World} (i j k : Nat) (vi : Value) (di dj dk : Tmp) (f : FuncId) (args : Array Value) (R : Ending → World → Prop) (hS : S w) (hSn : ∀ w1, Below w.heap.size w w1 → S w1)
    (hst : (ops[i]?.isSome && ops[j]?.isSome && ops[k]?.isSome && (opAt ops i).guard.isNone && (opAt ops j).guard.isNone && (opAt ops k).guard.isNone && (Region.ready .any ops listed == [i, j]) && (Region.ready .any ops (listed.setIfInBounds i true) == [j]) && (Region.ready .any ops (listed.setIfInBounds j true) == [i, k])
      && (Region.ready .any ops ((listed.setIfInBounds i true).setIfInBounds j true) == [k]) && (Region.ready .any ops ((listed.setIfInBounds j true).setIfInBounds i true) == [k]) && (Region.ready .any ops ((listed.setIfInBounds j true).setIfInBounds k true) == [i])) = true)
    (hdi : (opAt ops i).dst = some di) (hdj : (opAt ops j).dst = some dj) (hdk : (opAt ops k).dst = some dk) (nij : di ≠ dj) (nik : di ≠ dk) (eij : i ≠ j) (eik : i ≠ k)
    (hi0 : (execOp a.eval (opAt ops i)).run P w = .ok (.value vi) w) (hi1 : ∀ vj w1, Below w.heap.size w w1 → (execOp (a.put (some dj) vj).eval (opAt ops i)).run P w1 = .ok (.value vi) w1) (hi2 : ∀ vj vk w1, Below w.heap.size w w1 → (execOp ((a.put (some dj) vj).put (some dk) vk).eval (opAt ops i)).run P w1 = .ok (.value vi) w1)
    (hj0 : (execOp a.eval (opAt ops j)).run P w = .ok (.enter f args) w) (hj1 : (execOp (a.put (some di) vi).eval (opAt ops j)).run P w = .ok (.enter f args) w) (hc : Calls P f args w R)
    (h : ∀ e w5, R e w5 → Below w.heap.size w w5 ∧ ∃ vj, e = .returned vj ∧ ∃ vk w6, Below w.heap.size w w6 ∧ (execOp (a.put (some dj) vj).eval (opAt ops k)).run P w5 = .ok (.value vk) w6 ∧ (execOp ((a.put (some di) vi).put (some dj) vj).eval (opAt ops k)).run P w5 = .ok (.value vk) w6 ∧
      wpAnyH P .any ops Q S fuel (((listed.setIfInBounds i true).setIfInBounds j true).setIfInBounds k true) (((a.put (some di) vi).put (some dj) vj).put (some dk) vk) w6) : wpAnyH P .any ops Q S (fuel + 3) listed a w := by
  simp only [Bool.and_eq_true, beq_iff_eq] at hst
  obtain ⟨⟨⟨⟨⟨⟨⟨⟨⟨⟨⟨g1, g2⟩, g3⟩, n1⟩, n2⟩, n3⟩, r0⟩, ri⟩, rj⟩, rij⟩, rji⟩, rjk⟩ := hst
  have wi : ∀ y, Region.wanted (opAt ops i) y = true := fun y => by simp [Region.wanted, Option.isNone_iff_eq_none.1 n1]
  have wj : ∀ y, Region.wanted (opAt ops j) y = true := fun y => by simp [Region.wanted, Option.isNone_iff_eq_none.1 n2]
  have wk : ∀ y, Region.wanted (opAt ops k) y = true := fun y => by simp [Region.wanted, Option.isNone_iff_eq_none.1 n3]
  have cij : ∀ (b : Act) (v u : Value), (b.put (some dj) u).put (some di) v = (b.put (some di) v).put (some dj) u := fun b v u => Act.put_comm b u v (fun d h1 h2 => nij (by cases h1; cases h2; rfl))
  have cik : ∀ (b : Act) (v u : Value), (b.put (some dk) u).put (some di) v = (b.put (some di) v).put (some dk) u := fun b v u => Act.put_comm b u v (fun d h1 h2 => nik (by cases h1; cases h2; rfl))
  refine wpAnyH_two r0 ?_ ?_
  · refine wpOp_value vi (get_opAt g1) (wi _) hi0 ⟨hS, wpAnyH_one ri ?_⟩
    rw [hdi]
    refine wpOp_callE f args R (get_opAt g2) (wj _) hj1 hc (fun e w5 hR => ?_)
    obtain ⟨hb5, vj, rfl, vk, w6, hb6, _, h2, h3⟩ := h e w5 hR
    refine ⟨vj, rfl, hSn _ hb5, wpAnyH_one rij ?_⟩
    rw [hdj]
    refine wpOp_value vk (get_opAt g3) (wk _) h2 ⟨hSn _ hb6, ?_⟩
    rw [hdk]
    exact h3
  · refine wpOp_callE f args R (get_opAt g2) (wj _) hj0 hc (fun e w5 hR => ?_)
    obtain ⟨hb5, vj, rfl, vk, w6, hb6, h1, h2, h3⟩ := h e w5 hR
    refine ⟨vj, rfl, hSn _ hb5, ?_⟩
    rw [hdj]
    refine wpAnyH_two rj ?_ ?_
    · refine wpOp_value vi (get_opAt g1) (wi _) (hi1 vj w5 hb5) ⟨hSn _ hb5, wpAnyH_one rji ?_⟩
      rw [hdi, cij]
      refine wpOp_value vk (get_opAt g3) (wk _) h2 ⟨hSn _ hb6, ?_⟩
      rw [hdk, Array.setIfInBounds_comm _ _ (Ne.symm eij)]
      exact h3
    · refine wpOp_value vk (get_opAt g3) (wk _) h1 ⟨hSn _ hb6, wpAnyH_one rjk ?_⟩
      rw [hdk]
      refine wpOp_value vi (get_opAt g1) (wi _) (hi2 vj vk w6 hb6) ⟨hSn _ hb6, ?_⟩
      rw [hdi, cik, cij, Array.setIfInBounds_comm _ _ (Ne.symm eik), Array.setIfInBounds_comm _ _ (Ne.symm eij)]
      exact h3
theorem run_build_tm1 {F : List Nat} {w : World} {t : Tm} {cs : List Value} (h : TmAt F w t cs) (w' : World) : (Instr.buildSlice 23 1 #[(0, .agg cs.toArray)]).run Try.prog w' = .ok (.slice (some ⟨w'.heap.size, 0, none⟩) 1 1) (w'.alloc (.cells cs.toArray 25)) := by
 obtain ⟨lv, av, rfl, h1, h2⟩ := h.open
 obtain ⟨la, lc, rfl⟩ := h1.slice
 obtain ⟨aa, ac, rfl⟩ := h2.slice
 exact run_build_tm _ _ _ _ _ _ _ _ _ _
theorem slice_one {v : Value} (h : ∃ a n c, v = .slice a n c) : v.cells = #[v] ∧ v.oneCell' = true := by
 obtain ⟨a, n, c, rfl⟩ := h
 exact ⟨rfl, rfl⟩
theorem RowL.slice {m : Nat} {w : World} {v : Value} {ls : List Lv} (h : RowL m w v ls) : ∃ a n c, v = .slice a n c := by
 obtain ⟨a, c, rfl⟩ := h.in.slice
 exact ⟨a, _, c, rfl⟩
theorem RowT.slice {m : Nat} {w : World} {v : Value} {ts : List Tm} (h : RowT m w v ts) : ∃ a n c, v = .slice a n c := by
 obtain ⟨a, c, rfl⟩ := h.in.slice
 exact ⟨a, _, c, rfl⟩
theorem sizeLvs : (Try.prog.info? 22).map (·.size) = some 1 := by kernel_rfl
theorem sizeTms : (Try.prog.info? 23).map (·.size) = some 1 := by kernel_rfl
set_option maxHeartbeats 8000000 in
theorem copy_walk : ∀ (t : Tm) (cs : List Value) (w : World) (F : List Nat), TmAt F w t cs → SmT t → Calls Try.prog 40 #[.agg cs.toArray] w (NewTm t w) := by
 refine Tm.byParts fun k n s ls a ih cs w F ht hs => ?_
 obtain ⟨lv, av, rfl, h1, h2⟩ := ht.open
 obtain ⟨-, sl, sa, ss⟩ := hs.open
 dsimp only [Tm.kind, Tm.n, Tm.name, Tm.levels, Tm.args] at ht h1 h2 sl sa ss ⊢
 obtain ⟨la, lc, rfl⟩ := h1.slice
 obtain ⟨aa, ac, rfl⟩ := h2.slice
 have hr : reachBytes = 140737488351232 := rfl
 obtain ⟨L, hL⟩ : ∃ L, Hid (ls.length = L) := ⟨_, rfl⟩
 obtain ⟨N, hAN⟩ : ∃ N, Hid (a.length = N) := ⟨_, rfl⟩
 rw [hL.out] at sl h1 ht ⊢
 rw [hAN.out] at sa h2 ht ⊢
 rw [hr] at sl sa
 have H1 := Lib.hid h1
 have H2 := Lib.hid h2
 have SS := Lib.hid ss
 have SL := Lib.hid sl
 have SA := Lib.hid sa
 obtain ⟨q, hq⟩ : ∃ q, Hid (w.heap.size = q) := ⟨_, rfl⟩
 obtain ⟨CS, hCS⟩ : ∃ x, Hid ([.int .i64 k, .int .i64 n, strT s, .slice la L lc, .slice aa N ac] = x) := ⟨_, rfl⟩
 have C5 : Hid (CS.length = 5) := by rw [Hid, ← hCS.out]; rfl
 unfold NewTm
 rw [hCS.out, hq.out]
 clear ht h1 h2 ss hs sl sa
 go_enter Try.func40, Try.ntmps40
 go_upto_region 0 with (fail)
 refine lbeg (opsOf Try.f40 0) ?_
 refine lbox 0 25 (.tmp 0) (CS) (q) (some 1) hq ?_
 intro w1 bw1 bew1 hsw1
 refine lall 1 25 z5T (q + 1) (some 2) hsw1 ?_
 intro w2 bw2 bew2 hsw2
 refine ldn 2 ?_
 generalize hact : Act.put _ (some 2) _ = act
 simp only [Act.put, sA, sC, sZ] at hact
 subst hact
 have B1 : Hid (Blk w2 q 25 CS) := bw1.below bew2 (by omega)
 have B2 : Hid (Blk w2 (q + 1) 25 z5T) := bw2
 have BE : Hid (Below q w w2) := bew1.trans (bew2.mono (by omega))
 have S2 : Hid (w2.heap.size = q + 1 + 1) := hsw2
 clear bw1 bew1 hsw1 bw2 bew2 hsw2
 have k0 : w2.cell? ⟨q, 0, none⟩ = some (.int .i64 k) := B1.out.cell (by rw [← hCS.out]; rfl)
 have k1 : w2.cell? ⟨q, 1, none⟩ = some (.int .i64 n) := B1.out.cell (by rw [← hCS.out]; rfl)
 have k2 : w2.cell? ⟨q, 2, none⟩ = some (strT s) := B1.out.cell (by rw [← hCS.out]; rfl)
 go_upto_region 1 with (fail)
 refine lbeg (opsOf Try.f40 1) ?_
 refine lnow 0 (.pointer (some ⟨q, 0, none⟩)) (some 6) ?_
 refine lcl 1 (.int .i64 k) (some 7) 3 6 (q) 0 (k0) Try.underlying3 ?_
 refine lnow 2 (.pointer (some ⟨q, 1, none⟩)) (some 8) ?_
 refine lcl 3 (.int .i64 n) (some 9) 3 8 (q) 1 (k1) Try.underlying3 ?_
 refine lnow 4 (.pointer (some ⟨q, 2, none⟩)) (some 10) ?_
 refine lcl 5 (strT s) (some 11) 9 10 (q) 2 (k2) Try.underlying9 ?_
 refine lnow 6 (.agg ([.int .i64 k, .int .i64 n, strT s, .slice none 0 0, .slice none 0 0] : List Value).toArray) (some 12) ?_
 refine lall 7 25 z5T (q + 1 + 1) (some 3) S2 ?_
 intro w3 bw3 bew3 hsw3
 refine lput 8 25 (.tmp 3) (.tmp 12) (q + 1 + 1) _ (z5T) ([.int .i64 k, .int .i64 n, strT s, .slice none 0 0, .slice none 0 0]) bw3 ((rfl : ([.int .i64 k, .int .i64 n, strT s, .slice none 0 0, .slice none 0 0] : List Value).length = 5).trans (rfl : z5T.length = 5).symm) (t5Size (rfl : ([.int .i64 k, .int .i64 n, strT s, .slice none 0 0, .slice none 0 0] : List Value).length = 5)) (by simpa using (by intro u hu; simp only [List.mem_cons, List.not_mem_nil, or_false] at hu; rcases hu with rfl | rfl | rfl | rfl | rfl <;> rfl : ∀ u ∈ ([.int .i64 k, .int .i64 n, strT s, .slice none 0 0, .slice none 0 0] : List Value), u.oneCell' = true)) ?_
 intro w4 bw4 uw4
 refine ldn 9 ?_
 generalize hact : Act.put _ none _ = act
 simp only [Act.put, sA, sC, sZ] at hact
 subst hact
 have B1b : Hid (Blk w4 q 25 CS) := uw4.blk (B1.out.below bew3 (by omega)) (by omega)
 have B2b : Hid (Blk w4 (q + 1) 25 z5T) := uw4.blk (B2.out.below bew3 (by omega)) (by omega)
 have B3b : Hid (Blk w4 (q + 2) 25 [.int .i64 k, .int .i64 n, strT s, .slice none 0 0, .slice none 0 0]) := bw4
 have BEb : Hid (Below q w w4) := uw4.below (BE.out.trans (bew3.mono (by omega))) (by omega) (by have := hsw3.out; omega)
 have S4 : Hid (q + 3 ≤ w4.heap.size) := by have := uw4.size; have := hsw3.out; rw [Hid]; omega
 clear bw3 bew3 hsw3 bw4 uw4 B1 B2 BE S2 k0 k1 k2
 go_upto_region 2 with (fail)
 refine lbeg (opsOf Try.f40 2) ?_
 refine lnow 0 (.int .i64 0) (some 4) ?_
 refine ldn 1 ?_
 generalize hact : Act.put _ (some 4) _ = act
 simp only [Act.put, sA, sC, sZ] at hact
 subst hact
 go_wp2
 go_loopw [4] (fun iv wr => ∃ (i : Nat) (lv : Value), i ≤ L ∧ iv = .int .i64 (i : Int) ∧ Hid (RowL (q + 3) wr lv (ls.take i)) ∧ Hid (Blk wr (q + 2) 25 [.int .i64 k, .int .i64 n, strT s, lv, .slice none 0 0]) ∧ Hid (Blk wr q 25 CS) ∧ Hid (Blk wr (q + 1) 25 z5T) ∧ Hid (Below q w wr) ∧ Hid (q + 3 ≤ wr.heap.size)) (fun iv _ => L - (intOf iv).toNat)
 case atStart => exact ⟨0, .slice none 0 0, Nat.zero_le _, rfl, by rw [Hid, List.take_zero]; exact RowL.nil _ _, B3b, B1b, B2b, BEb, S4⟩
 case round =>
  obtain ⟨i, lv, hi, rfl, RL, B3, B1, B2, BE, SR⟩ := hrel
  have k3 : wr.cell? ⟨q, 3, none⟩ = some (.slice la L lc) := B1.out.cell (by rw [← hCS.out]; rfl)
  have K3 := Lib.hid k3
  by_cases hlt : i < L
  rotate_left
  ·have r1 : decide ((i : Int) < (L : Int)) = false := decide_eq_false (by omega)
   go_upto_region 3 with (fail)
   refine lbeg (opsOf Try.f40 3) ?_
   refine lnow 0 (.int .i64 (i : Int)) (some 13) ?_
   refine lnow 1 (.pointer (some ⟨q, 3, none⟩)) (some 14) ?_
   refine lcl 2 (.slice la L lc) (some 15) 22 14 (q) 3 (K3.out) Try.underlying22 ?_
   refine lnow 3 (.int .i64 (L : Int)) (some 16) ?_
   refine lnow 4 (.bool (decide ((i : Int) < (L : Int)))) (some 17) ?_
   rw [r1]
   refine ldn 5 ?_
   generalize hact : Act.put _ (some 17) _ = act
   simp only [Act.put, sA, sC, sZ] at hact
   subst hact
   have RL2 : Hid (RowL (q + 3) wr lv ls) := by have h := RL.out; rw [List.take_of_length_le (by have := hL.out; omega)] at h; exact h
   clear RL k3
   go_upto_region 6 with (fail)
   refine lbeg (opsOf Try.f40 6) ?_
   refine lnow 0 (.int .i64 0) (some 5) ?_
   refine ldn 1 ?_
   generalize hact : Act.put _ (some 5) _ = act
   simp only [Act.put, sA, sC, sZ] at hact
   subst hact
   go_wp2
   go_loopw [5] (fun iv wr => ∃ (j : Nat) (av : Value), j ≤ N ∧ iv = .int .i64 (j : Int) ∧ Hid (RowL (q + 3) wr lv ls) ∧ Hid (RowT (q + 3) wr av (a.take j)) ∧ Hid (Blk wr (q + 2) 25 [.int .i64 k, .int .i64 n, strT s, lv, av]) ∧ Hid (Blk wr q 25 CS) ∧ Hid (Blk wr (q + 1) 25 z5T) ∧ Hid (Below q w wr) ∧ Hid (q + 3 ≤ wr.heap.size) ∧ Hid (∀ g, lv.ownBlock = some g → some g ≠ av.ownBlock)) (fun iv _ => N - (intOf iv).toNat)
   case atStart => exact ⟨0, .slice none 0 0, Nat.zero_le _, rfl, RL2, by rw [Hid, List.take_zero]; exact RowT.nil _ _, B3, B1, B2, BE, SR, fun g _ e => by cases e⟩
   case round =>
    obtain ⟨j, av, hj, rfl, RL3, RT, D3, D1, D2, DE, SZ, SEP⟩ := hrel
    have k4 : wr.cell? ⟨q, 4, none⟩ = some (.slice aa N ac) := D1.out.cell (by rw [← hCS.out]; rfl)
    have K4 := Lib.hid k4
    by_cases hltj : j < N
    rotate_left
    ·have r2 : decide ((j : Int) < (N : Int)) = false := decide_eq_false (by omega)
     go_upto_region 7 with (fail)
     refine lbeg (opsOf Try.f40 7) ?_
     refine lnow 0 (.int .i64 (j : Int)) (some 30) ?_
     refine lnow 1 (.pointer (some ⟨q, 4, none⟩)) (some 31) ?_
     refine lcl 2 (.slice aa N ac) (some 32) 23 31 (q) 4 (K4.out) Try.underlying23 ?_
     refine lnow 3 (.int .i64 (N : Int)) (some 33) ?_
     refine lnow 4 (.bool (decide ((j : Int) < (N : Int)))) (some 34) ?_
     rw [r2]
     refine ldn 5 ?_
     generalize hact : Act.put _ (some 34) _ = act
     simp only [Act.put, sA, sC, sZ] at hact
     subst hact
     have RT2 : Hid (RowT (q + 3) wr av a) := by have h := RT.out; rw [List.take_of_length_le (by have := hAN.out; omega)] at h; exact h
     obtain ⟨l1, l2, l3, hlv⟩ := RL3.out.slice
     obtain ⟨a1, a2, a3, hav⟩ := RT2.out.slice
     have ONE : Hid (∀ u ∈ ([.int .i64 k, .int .i64 n, strT s, lv, av] : List Value), u.oneCell' = true) := by
      intro u hu
      simp only [List.mem_cons, List.not_mem_nil, or_false] at hu
      rcases hu with rfl | rfl | rfl | rfl | rfl
      ·rfl
      ·rfl
      ·rfl
      ·rw [hlv]; rfl
      ·rw [hav]; rfl
     have FIN : Hid (TmAt (List.range (q + 3)) wr (.mk k n s ls a) [.int .i64 k, .int .i64 n, strT s, lv, av]) := TmAt.mk (t := .mk k n s ls a) RL3.out.in RT2.out.in
     obtain ⟨DS, hDS⟩ : ∃ x, Hid ([.int .i64 k, .int .i64 n, strT s, lv, av] = x) := ⟨_, rfl⟩
     rw [hDS.out] at FIN D3 ONE
     have DS5 : Hid (DS.length = 5) := FIN.out.len
     clear hlv hav RT RL3 SEP
     go_upto_region 10 with (fail)
     refine lbeg (opsOf Try.f40 10) ?_
     refine lrl 0 (DS) (some 48) 25 3 (q + 2) 0 (D3.out).whole Try.underlying25 (t5Size DS5.out) ?_
     refine lput 1 25 (.tmp 2) (.tmp 48) (q + 1) _ (z5T) (DS) D2.out (DS5.out.trans (rfl : z5T.length = 5).symm) (t5Size DS5.out) (by simpa using ONE.out) ?_
     intro w9 bw9 uw9
     refine ldn 2 ?_
     generalize hact : Act.put _ none _ = act
     simp only [Act.put, sA, sC, sZ] at hact
     subst hact
     go_wp2
     refine bodyPost_ret (v := .agg DS.toArray) ?_ rfl ⟨DS, rfl, ?_, uw9.below DE.out (by omega) (by have := SZ.out; omega)⟩
     ·exact results_cell_row (g := q + 1) (t := 25) (cs := DS.toArray) (fr := (0, 0)) Try.results40 _ _ _ rfl bw9 Try.underlying25 rfl (t5Size DS5.out)
     ·exact (TmAt.step (Step.of_upd uw9 (List.mem_range.2 (by omega))) _ _ FIN.out).range (by omega)
    have r2 : decide ((j : Int) < (N : Int)) = true := decide_eq_true (by omega)
    go_upto_region 7 with (fail)
    refine lbeg (opsOf Try.f40 7) ?_
    refine lnow 0 (.int .i64 (j : Int)) (some 30) ?_
    refine lnow 1 (.pointer (some ⟨q, 4, none⟩)) (some 31) ?_
    refine lcl 2 (.slice aa N ac) (some 32) 23 31 (q) 4 (K4.out) Try.underlying23 ?_
    refine lnow 3 (.int .i64 (N : Int)) (some 33) ?_
    refine lnow 4 (.bool (decide ((j : Int) < (N : Int)))) (some 34) ?_
    rw [r2]
    refine ldn 5 ?_
    generalize hact : Act.put _ (some 34) _ = act
    simp only [Act.put, sA, sC, sZ] at hact
    subst hact
    obtain ⟨x, pb, po, ci, hxj, hxm, haa, -, hpb, -, hcr, hct⟩ := H2.out.get hAN.out hltj
    subst haa
    have XS := SmTs.mem SS.out hxm
    have IH := ih x hxm ci
    have HCR : Hid (wr.rangeAt pb (po + 5 * j) ci) := rng_low hcr DE.out (by have := hq.out; omega)
    have HCT : Hid (TmAt F wr x ci) := TmAt.step (Step.of_below DE.out (by have := hq.out; omega)) _ _ hct
    have CI5 := Lib.hid hct.len
    have TK : Hid (a.take (j + 1) = a.take j ++ [x]) := by rw [Hid, List.take_add_one, hxj]; rfl
    have TL : Hid ((a.take j).length ≤ N) := by have := List.length_take_le j a; rw [Hid]; omega
    have PBQ : Hid (pb < q + 2) := by have := hq.out; rw [Hid]; omega
    clear hxj hxm hpb hcr hct k4
    go_upto_region 9 with (fail)
    refine region_begin (opsOf Try.f40 9) (fun W' => Below (q + 2) wr W') (by kernel_rfl) (by kernel_rfl) 12 (by kernel_rfl) ?_
    intro Q' hQN hN
    have HS0 : Below (q + 2) wr wr.drew := (Below.refl _ _).drew
    have E3 : Hid (Blk wr.drew (q + 2) 25 [.int .i64 k, .int .i64 n, strT s, lv, av]) := D3.out
    have ET : Hid (RowT (q + 3) wr.drew av (a.take j)) := RT.out.below (Below.refl _ _).drew
    have EL : Hid (RowL (q + 3) wr.drew lv ls) := RL3.out.below (Below.refl _ _).drew
    have EC : Hid (TmAt F wr.drew x ci) := HCT.out.below (Below.refl _ _).drew
    have SZD : Hid (q + 3 ≤ wr.drew.heap.size) := SZ.out
    generalize wr.drew = wd at HS0 E3 ET EL EC SZD ⊢
    refine reg_now 0 (.pointer (some ⟨q + 2, 4, none⟩)) (some 37) hQN HS0 (by kernel_rfl) (by kernel_rfl) (fun w => by kernel_rfl) ?_
    refine reg_now 2 (.pointer (some ⟨q, 4, none⟩)) (some 39) hQN HS0 (by kernel_rfl) (by kernel_rfl) (fun w => by kernel_rfl) ?_
    refine reg_now 4 (.int .i64 (j : Int)) (some 41) hQN HS0 (by kernel_rfl) (by kernel_rfl) (fun w => by kernel_rfl) ?_
    refine reg_nowIf 3 (.slice (some ⟨pb, po, none⟩) N ac) (some 40) hQN HS0 (by kernel_rfl) (by kernel_rfl) (fun w' hw => exec_load_cell 23 (.tmp 39) (by kernel_rfl) q 4 (by kernel_rfl) _ ((D1.out.below hw (by omega)).cell (by rw [← hCS.out]; rfl)) _ Try.underlying23 rfl) ?_
    refine reg_now 5 (.pointer (some ⟨pb, po + 5 * j, none⟩)) (some 42) hQN HS0 (by kernel_rfl) (by kernel_rfl) (fun w' => exec_indexAt 23 (.tmp 40) (.tmp 41) (by kernel_rfl) _ _ _ (by kernel_rfl) (by kernel_rfl) (run_at_tm pb po N ac j hltj w')) ?_
    refine reg_nowIf 6 (.agg ci.toArray) (some 43) hQN HS0 (by kernel_rfl) (by kernel_rfl) (fun w' hw => exec_load_mid 25 (.tmp 42) (by kernel_rfl) pb (po + 5 * j) (by kernel_rfl) ci _ (rng_low HCR.out hw PBQ.out) Try.underlying25 rfl (t5Size CI5.out)) ?_
    refine reg_lck 1 7 8 av 38 44 45 40 #[.agg ci.toArray] _ HS0 (fun w1 hb1 => HS0.trans (hb1.mono (by have := SZD.out; omega))) (by kernel_rfl) (by kernel_rfl) (by kernel_rfl) (by kernel_rfl) (by decide) (by decide) (by decide) (by decide) (exec_load_cell 23 (.tmp 37) (by kernel_rfl) (q + 2) 4 (by kernel_rfl) _ (E3.out.cell rfl) _ Try.underlying23 rfl) (fun vj w1 hb1 => exec_load_cell 23 (.tmp 37) (by kernel_rfl) (q + 2) 4 (by kernel_rfl) _ ((E3.out.below hb1 E3.out.lt).cell rfl) _ Try.underlying23 rfl) (fun vj vk w1 hb1 => exec_load_cell 23 (.tmp 37) (by kernel_rfl) (q + 2) 4 (by kernel_rfl) _ ((E3.out.below hb1 E3.out.lt).cell rfl) _ Try.underlying23 rfl) (by kernel_rfl) (by kernel_rfl) (IH wd F EC.out XS) ?_
    rintro e w6 ⟨c', rfl, hct6, hb6⟩
    have HS6 : Below (q + 2) wr w6 := HS0.trans (hb6.mono (by have := SZD.out; omega))
    have G3 := Lib.hid (E3.out.below hb6 E3.out.lt)
    have GT := Lib.hid (ET.out.below hb6)
    have GL := Lib.hid (EL.out.below hb6)
    have SG : Hid (q + 3 ≤ w6.heap.size) := by have := SZD.out; have := hb6.size; rw [Hid]; omega
    have GC : Hid (TmAt (List.range (q + 3) ++ ownL av) w6 x c') := TmAt.off hct6 (fun k hk => by
     rcases List.mem_append.1 hk with hk | hk
     ·have := List.mem_range.1 hk; have := SZD.out; exact .inl (by omega)
     ·exact .inl (ET.out.own k (ownL_mem.1 hk)).2)
    have RB := run_build_tm1 hct6 w6
    have bw7 := Blk.new w6 25 c'
    have bew7' : Below w6.heap.size w6 (w6.alloc (.cells c'.toArray 25)) := (Below.refl _ _).alloc (Nat.le_refl _) _
    refine ⟨hb6, _, rfl, _, _, hb6.trans (bew7'.mono hb6.size), exec_of _ _ (by kernel_rfl) RB, exec_of _ _ (by kernel_rfl) RB, ?_⟩
    generalize w6.alloc (.cells c'.toArray 25) = w7 at bw7 bew7' ⊢
    obtain ⟨qr, hqr⟩ : ∃ y, Hid (w6.heap.size = y) := ⟨_, rfl⟩
    clear hct6 hb6 HS0 E3 ET EL EC SZD IH RB
    have HS7 : Below (q + 2) wr w7 := HS6.trans (bew7'.mono (by have := SG.out; omega))
    have I3 := Lib.hid (G3.out.below bew7' G3.out.lt)
    have IT := Lib.hid (GT.out.below bew7')
    have IL := Lib.hid (GL.out.below bew7')
    have IC := Lib.hid (GC.out.below bew7')
    have SI : Hid (q + 3 ≤ w7.heap.size) := by have := SG.out; have := bew7'.size; rw [Hid]; omega
    rw [hqr.out] at bw7 ⊢
    obtain ⟨av', w8, hrun, RT8, hg8, hat8⟩ := IT.out.append bw7 IC.out (by have := TL.out; have := SA.out; omega) SI.out
    refine reg_value 9 av' (some 46) w8 (by kernel_rfl) (by kernel_rfl) (exec_of _ _ (by kernel_rfl) hrun) ?_ ?_
    ·exact HS7.grown hg8 (by have := SI.out; omega) (fun g hg => by have := (IT.out.own g hg).1; omega)
    have HS8 : Below (q + 2) wr w8 := HS7.grown hg8 (by have := SI.out; omega) (fun g hg => by have := (IT.out.own g hg).1; omega)
    have J3 : Hid (Blk w8 (q + 2) 25 [.int .i64 k, .int .i64 n, strT s, lv, av]) := grown_blk hg8 I3.out (fun e => by have := (IT.out.own _ e).1; omega)
    have SJ : Hid (q + 3 ≤ w8.heap.size) := by have := SI.out; have := hg8.size; rw [Hid]; omega
    have JL : Hid (RowL (q + 3) w8 lv ls) := ⟨own_grown IL.out.1 hg8 (fun g hg => SEP.out g hg), IL.out.2⟩
    have SEP8 : Hid (∀ g, lv.ownBlock = some g → some g ≠ av'.ownBlock) := fun g hg e => by
     rcases hat8 with h | h
     ·exact SEP.out g hg (h ▸ e)
     ·rw [h] at e
      have := Option.some.inj e
      have := (IL.out.own g hg).2
      omega
    have AV1 := slice_one RT8.slice
    clear hrun hg8 hat8 bw7 bew7' I3 IT IL IC SI G3 GT GL GC SG HS6
    refine reg_now 10 (.pointer (some ⟨q + 2, 4, none⟩)) (some 47) hQN HS8 (by kernel_rfl) (by kernel_rfl) (fun w => by kernel_rfl) ?_
    refine reg_putF 11 4 23 (.tmp 47) (.tmp 46) (q + 2) 25 [.int .i64 k, .int .i64 n, strT s, lv, av] av' (by kernel_rfl) (by kernel_rfl) (by kernel_rfl) (by kernel_rfl) (by kernel_rfl) J3.out (by simp) sizeTms AV1.1 AV1.2 ?_
    intro w9 bw9 uw9
    refine ⟨uw9.below HS8 (Nat.le_refl _) (by have := SJ.out; have := HS8.size; have := SZ.out; omega), ?_⟩
    have HS9 : Below (q + 2) wr w9 := uw9.below HS8 (Nat.le_refl _) (by have := SJ.out; have := HS8.size; have := SZ.out; omega)
    have N3 : Hid (Blk w9 (q + 2) 25 [.int .i64 k, .int .i64 n, strT s, lv, av']) := bw9
    have NL : Hid (RowL (q + 3) w9 lv ls) := JL.out.upd uw9 (by omega)
    have NT : Hid (RowT (q + 3) w9 av' (a.take (j + 1))) := by rw [Hid, TK.out]; exact RowT.upd RT8 uw9 (by omega)
    have N1 : Hid (Blk w9 q 25 CS) := D1.out.below HS9 (by omega)
    have N2 : Hid (Blk w9 (q + 1) 25 z5T) := D2.out.below HS9 (by omega)
    have NE : Hid (Below q w w9) := DE.out.trans (HS9.mono (by omega))
    have NS : Hid (q + 3 ≤ w9.heap.size) := by have := SJ.out; have := uw9.size; rw [Hid]; omega
    clear bw9 uw9 HS8 HS9 J3 JL RT8 SJ HS7 RT RL3 D3 D1 D2 DE SZ SEP HCR HCT TK AV1
    refine reg_done (by kernel_rfl) (hN _ _ ?_)
    generalize hact : Act.put _ none _ = act
    simp only [Act.put, sA, sC, sZ] at hact
    subst hact
    have bl := SA.out
    go_wp2
    go_roundw
    case rel => exact ⟨j + 1, av', by omega, by go_num, NL, NT, N3, N1, N2, NE, NS, SEP8⟩
    case measure => simp [intOf]; omega
  have r1 : decide ((i : Int) < (L : Int)) = true := decide_eq_true (by omega)
  go_upto_region 3 with (fail)
  refine lbeg (opsOf Try.f40 3) ?_
  refine lnow 0 (.int .i64 (i : Int)) (some 13) ?_
  refine lnow 1 (.pointer (some ⟨q, 3, none⟩)) (some 14) ?_
  refine lcl 2 (.slice la L lc) (some 15) 22 14 (q) 3 (K3.out) Try.underlying22 ?_
  refine lnow 3 (.int .i64 (L : Int)) (some 16) ?_
  refine lnow 4 (.bool (decide ((i : Int) < (L : Int)))) (some 17) ?_
  rw [r1]
  refine ldn 5 ?_
  generalize hact : Act.put _ (some 17) _ = act
  simp only [Act.put, sA, sC, sZ] at hact
  subst hact
  obtain ⟨x, hx⟩ : ∃ x, ls[i]? = some x := ⟨_, List.getElem?_eq_getElem (by have := hL.out; omega)⟩
  obtain ⟨x4, pb, po, rfl, hpb⟩ := H1.out.at hx
  have HRX : Hid (wr.rangeAt pb (po + 5 * i) (ints .i64 x.zs)) := rng_low (H1.out.rng hx) BE.out (by have := hq.out; omega)
  have PBQ : Hid (pb < q) := by have := hq.out; rw [Hid]; omega
  have TK : Hid (ls.take (i + 1) = ls.take i ++ [x]) := by rw [Hid, List.take_add_one, hx]; rfl
  have TL : Hid ((ls.take i).length ≤ L) := by have := List.length_take_le i ls; rw [Hid]; omega
  clear hx hpb k3
  go_upto_region 5 with (fail)
  refine region_begin (opsOf Try.f40 5) (fun W' => Below (q + 2) wr W') (by kernel_rfl) (by kernel_rfl) 11 (by kernel_rfl) ?_
  intro Q' hQN hN
  have HS0 : Below (q + 2) wr wr.drew := (Below.refl _ _).drew
  have E3 : Hid (Blk wr.drew (q + 2) 25 [.int .i64 k, .int .i64 n, strT s, lv, .slice none 0 0]) := B3.out
  have EL : Hid (RowL (q + 3) wr.drew lv (ls.take i)) := RL.out.below (Below.refl _ _).drew
  have SZD : Hid (q + 3 ≤ wr.drew.heap.size) := SR.out
  generalize wr.drew = wd at HS0 E3 EL SZD ⊢
  refine reg_now 0 (.pointer (some ⟨q + 2, 3, none⟩)) (some 20) hQN HS0 (by kernel_rfl) (by kernel_rfl) (fun w => by kernel_rfl) ?_
  refine reg_now 2 (.pointer (some ⟨q, 3, none⟩)) (some 22) hQN HS0 (by kernel_rfl) (by kernel_rfl) (fun w => by kernel_rfl) ?_
  refine reg_now 4 (.int .i64 (i : Int)) (some 24) hQN HS0 (by kernel_rfl) (by kernel_rfl) (fun w => by kernel_rfl) ?_
  refine reg_nowIf 3 (.slice (some ⟨pb, po, none⟩) L lc) (some 23) hQN HS0 (by kernel_rfl) (by kernel_rfl) (fun w' hw => exec_load_cell 22 (.tmp 22) (by kernel_rfl) q 3 (by kernel_rfl) _ ((B1.out.below hw (by omega)).cell (by rw [← hCS.out]; rfl)) _ Try.underlying22 rfl) ?_
  refine reg_now 5 (.pointer (some ⟨pb, po + 5 * i, none⟩)) (some 25) hQN HS0 (by kernel_rfl) (by kernel_rfl) (fun w' => exec_indexAt 22 (.tmp 23) (.tmp 24) (by kernel_rfl) _ _ _ (by kernel_rfl) (by kernel_rfl) (run_at_lv pb po L lc i hlt w')) ?_
  refine reg_nowIf 6 (.agg (ints .i64 x.zs).toArray) (some 26) hQN HS0 (by kernel_rfl) (by kernel_rfl) (fun w' hw => exec_load_mid 80 (.tmp 25) (by kernel_rfl) pb (po + 5 * i) (by kernel_rfl) (ints .i64 x.zs) _ (rng_low HRX.out hw (by have := PBQ.out; omega)) Try.underlying80 rfl (lvSize x4)) ?_
  obtain ⟨qr, hqr⟩ : ∃ y, Hid (wd.heap.size = y) := ⟨_, rfl⟩
  refine reg_ldrow 1 7 lv 21 27 80 (ints .i64 x.zs) qr 1 hqr HS0 (fun w1 hb1 => HS0.trans (hb1.mono (by have := SZD.out; omega))) (by kernel_rfl) (by decide) (by kernel_rfl) (by kernel_rfl) (by decide) (exec_load_cell 22 (.tmp 20) (by kernel_rfl) (q + 2) 3 (by kernel_rfl) _ (E3.out.cell rfl) _ Try.underlying22 rfl) (fun vj w1 hb1 => exec_load_cell 22 (.tmp 20) (by kernel_rfl) (q + 2) 3 (by kernel_rfl) _ ((E3.out.below hb1 E3.out.lt).cell rfl) _ Try.underlying22 rfl) (exec_of _ _ (by kernel_rfl) (run_build_lv1 x x4 wd)) (exec_of _ _ (by kernel_rfl) (run_build_lv1 x x4 wd)) ?_
  intro w7 bw7 bew7 hsw7
  have bew7' : Below wd.heap.size wd w7 := by rw [hqr.out]; exact bew7
  have HS7 : Below (q + 2) wr w7 := HS0.trans (bew7'.mono (by have := SZD.out; omega))
  have I3 := Lib.hid (E3.out.below bew7' E3.out.lt)
  have IL := Lib.hid (EL.out.below bew7')
  have SI : Hid (q + 3 ≤ w7.heap.size) := by have := SZD.out; have := bew7.size; rw [Hid]; omega
  obtain ⟨lv', w8, hrun, RL8, hg8⟩ := IL.out.append x4 bw7 (by have := TL.out; have := SL.out; omega) SI.out
  have HS8 : Below (q + 2) wr w8 := HS7.grown hg8 (by have := SI.out; omega) (fun g hg => by have := (IL.out.own g hg).1; omega)
  refine reg_value 8 lv' (some 28) w8 (by kernel_rfl) (by kernel_rfl) (exec_of _ _ (by kernel_rfl) hrun) HS8 ?_
  have J3 : Hid (Blk w8 (q + 2) 25 [.int .i64 k, .int .i64 n, strT s, lv, .slice none 0 0]) := grown_blk hg8 I3.out (fun e => by have := (IL.out.own _ e).1; omega)
  have SJ : Hid (q + 3 ≤ w8.heap.size) := by have := SI.out; have := hg8.size; rw [Hid]; omega
  have LV1 := slice_one RL8.slice
  clear hrun hg8 bw7 bew7 bew7' hsw7 I3 IL SI HS0 E3 EL SZD
  refine reg_now 9 (.pointer (some ⟨q + 2, 3, none⟩)) (some 29) hQN HS8 (by kernel_rfl) (by kernel_rfl) (fun w => by kernel_rfl) ?_
  refine reg_putF 10 3 22 (.tmp 29) (.tmp 28) (q + 2) 25 [.int .i64 k, .int .i64 n, strT s, lv, .slice none 0 0] lv' (by kernel_rfl) (by kernel_rfl) (by kernel_rfl) (by kernel_rfl) (by kernel_rfl) J3.out (by simp) sizeLvs LV1.1 LV1.2 ?_
  intro w9 bw9 uw9
  have HS9 : Below (q + 2) wr w9 := uw9.below HS8 (Nat.le_refl _) (by have := HS8.size; have := SR.out; omega)
  refine ⟨HS9, ?_⟩
  have N3 : Hid (Blk w9 (q + 2) 25 [.int .i64 k, .int .i64 n, strT s, lv', .slice none 0 0]) := bw9
  have NL : Hid (RowL (q + 3) w9 lv' (ls.take (i + 1))) := by rw [Hid, TK.out]; exact RowL.upd RL8 uw9 (by omega)
  have N1 : Hid (Blk w9 q 25 CS) := B1.out.below HS9 (by omega)
  have N2 : Hid (Blk w9 (q + 1) 25 z5T) := B2.out.below HS9 (by omega)
  have NE : Hid (Below q w w9) := BE.out.trans (HS9.mono (by omega))
  have NS : Hid (q + 3 ≤ w9.heap.size) := by have := SJ.out; have := uw9.size; rw [Hid]; omega
  clear bw9 uw9 HS8 HS9 J3 RL8 SJ HS7 RL B3 B1 B2 BE SR HRX TK LV1
  refine reg_done (by kernel_rfl) (hN _ _ ?_)
  generalize hact : Act.put _ none _ = act
  simp only [Act.put, sA, sC, sZ] at hact
  subst hact
  have bl := SL.out
  go_wp2
  go_roundw
  case rel => exact ⟨i + 1, lv', by omega, by go_num, NL, N3, N1, N2, NE, NS⟩
  case measure => simp [intOf]; omega
end Go.Proofs.Yteohjbggicchgaa
