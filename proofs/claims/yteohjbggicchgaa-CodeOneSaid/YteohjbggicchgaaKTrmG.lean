/- Terms as plain trees, and how they lie in memory: a node is five cells (kind, number, name, levels, parts), its levels and its parts lie in rows of their own; F: blocks that all of it lies off. No program's own numbers stand here. -/
import Derived.Test.YteohjbggicchgaaKLevM
import Derived.Test.YteohjbggicchgaaKGenT
namespace Go.Proofs.Yteohjbggicchgaa
open Go Go.RowKit
set_option maxRecDepth 100000
inductive Tm where
 | mk (kind n : Int) (name : List UInt8) (levels : List Lv) (args : List Tm)
def Tm.kind : Tm → Int | .mk k _ _ _ _ => k
def Tm.n : Tm → Int | .mk _ n _ _ _ => n
def Tm.name : Tm → List UInt8 | .mk _ _ s _ _ => s
def Tm.levels : Tm → List Lv | .mk _ _ _ l _ => l
def Tm.args : Tm → List Tm | .mk _ _ _ _ a => a
/-- By parts: what holds of a node if it holds of all its parts. -/
theorem Tm.byParts {C : Tm → Prop} (h : ∀ k n s l a, (∀ x ∈ a, C x) → C (.mk k n s l a)) : ∀ t, C t
 | .mk k n s l a => h k n s l a fun x _ => Tm.byParts h x
termination_by t => SizeOf.sizeOf t
decreasing_by
 have := List.sizeOf_lt_of_mem ‹x ∈ a›
 simp
 omega
def strT (l : List UInt8) : Value := .string ⟨l.toArray⟩
/-- A slice of levels off the blocks F. -/
def LvsOff (F : List Nat) (w : World) (v : Value) (ls : List Lv) : Prop :=
 ∃ a cap, v = .slice a ls.length cap ∧ ls.length ≤ cap ∧ ls.length ≤ 9223372036854775807 ∧ (∀ l ∈ ls, l.p.length = 4) ∧ (0 < ls.length → ∃ pb po, a = some ⟨pb, po, none⟩ ∧ pb ∉ F ∧ pb < w.heap.size ∧ ∀ (i : Nat) (l : Lv), ls[i]? = some l → w.rangeAt pb (po + 5 * i) (ints .i64 l.zs))
theorem Step.range {F F' : List Nat} {w w' : World} (hs : Step F w F' w') {pb o : Nat} {cs : List Value} (hb : pb < w.heap.size) (hF : pb ∉ F) (h : w.rangeAt pb o cs) : w'.rangeAt pb o cs := fun j u hu => by
 rw [World.cell?_of_block (w := w) (a := ⟨pb, o + j, none⟩) (hs.block pb hb hF)]
 exact h j u hu
theorem LvsOff.step {F F' : List Nat} {w w' : World} {v : Value} {ls : List Lv} (h : LvsOff F w v ls) (hs : Step F w F' w') : LvsOff F' w' v ls := by
 obtain ⟨a, cap, h1, h2, h3, h4, h5⟩ := h
 refine ⟨a, cap, h1, h2, h3, h4, fun hp => ?_⟩
 obtain ⟨pb, po, e, hF, hb, hr⟩ := h5 hp
 exact ⟨pb, po, e, hs.off hb hF, Nat.lt_of_lt_of_le hb hs.size, fun i l hi => hs.range hb hF (hr i l hi)⟩
theorem LvsOff.sub {F G : List Nat} {w : World} {v : Value} {ls : List Lv} (h : LvsOff F w v ls) (hG : ∀ k ∈ G, k ∈ F ∨ w.heap.size ≤ k) : LvsOff G w v ls := by
 obtain ⟨a, cap, h1, h2, h3, h4, h5⟩ := h
 refine ⟨a, cap, h1, h2, h3, h4, fun hp => ?_⟩
 obtain ⟨pb, po, e, hF, hb, hr⟩ := h5 hp
 exact ⟨pb, po, e, fun hc => by rcases hG pb hc with h | h; exact hF h; omega, hb, hr⟩
mutual
/-- The five cells of a node, and all that hangs on them. -/
def TmAt (F : List Nat) (w : World) : Tm → List Value → Prop
 | .mk k n s l a, cs => ∃ lv av, cs = [.int .i64 k, .int .i64 n, strT s, lv, av] ∧ LvsOff F w lv l ∧ TmsAt F w a av
/-- A slice of terms. -/
def TmsAt (F : List Nat) (w : World) : List Tm → Value → Prop
 | [], v => ∃ a cap, v = .slice a 0 cap
 | t :: ts, v => ∃ cap pb po, v = .slice (some ⟨pb, po, none⟩) (ts.length + 1) cap ∧ ts.length + 1 ≤ cap ∧ pb ∉ F ∧ pb < w.heap.size ∧ TmRow F w (t :: ts) pb po
/-- Terms one behind the other in one block. -/
def TmRow (F : List Nat) (w : World) : List Tm → Nat → Nat → Prop
 | [], _, _ => True
 | t :: ts, pb, po => (∃ cs, w.rangeAt pb po cs ∧ TmAt F w t cs) ∧ TmRow F w ts pb (po + 5)
end
theorem LvsOff.nil (F : List Nat) (w : World) (a : Option Addr) (c : Nat) : LvsOff F w (.slice a 0 c) [] := ⟨a, c, rfl, Nat.zero_le _, by simp, fun l h => by simp at h, fun h => by simp at h⟩
mutual
theorem TmAt.step {F F' : List Nat} {w w' : World} (hs : Step F w F' w') : ∀ (t : Tm) (cs : List Value), TmAt F w t cs → TmAt F' w' t cs
 | .mk k n s l a, cs, h => by
  rw [TmAt] at h ⊢
  obtain ⟨lv, av, h1, h2, h3⟩ := h
  exact ⟨lv, av, h1, h2.step hs, TmsAt.step hs a av h3⟩
theorem TmsAt.step {F F' : List Nat} {w w' : World} (hs : Step F w F' w') : ∀ (ts : List Tm) (v : Value), TmsAt F w ts v → TmsAt F' w' ts v
 | [], v, h => by
  rw [TmsAt] at h ⊢
  exact h
 | t :: ts, v, h => by
  rw [TmsAt] at h ⊢
  obtain ⟨cap, pb, po, h1, h2, h3, h4, h5⟩ := h
  exact ⟨cap, pb, po, h1, h2, hs.off h4 h3, Nat.lt_of_lt_of_le h4 hs.size, TmRow.step hs (t :: ts) pb po h4 h3 h5⟩
theorem TmRow.step {F F' : List Nat} {w w' : World} (hs : Step F w F' w') : ∀ (ts : List Tm) (pb po : Nat), pb < w.heap.size → pb ∉ F → TmRow F w ts pb po → TmRow F' w' ts pb po
 | [], _, _, _, _, _ => by rw [TmRow]; trivial
 | t :: ts, pb, po, hb, hF, h => by
  rw [TmRow] at h ⊢
  obtain ⟨⟨cs, h1, h2⟩, h3⟩ := h
  exact ⟨⟨cs, hs.range hb hF h1, TmAt.step hs t cs h2⟩, TmRow.step hs ts pb (po + 5) hb hF h3⟩
end
mutual
/-- Off fewer blocks, or off new ones. -/
theorem TmAt.sub {F G : List Nat} {w : World} (hG : ∀ k ∈ G, k ∈ F ∨ w.heap.size ≤ k) : ∀ (t : Tm) (cs : List Value), TmAt F w t cs → TmAt G w t cs
 | .mk k n s l a, cs, h => by
  rw [TmAt] at h ⊢
  obtain ⟨lv, av, h1, h2, h3⟩ := h
  exact ⟨lv, av, h1, h2.sub hG, TmsAt.sub hG a av h3⟩
theorem TmsAt.sub {F G : List Nat} {w : World} (hG : ∀ k ∈ G, k ∈ F ∨ w.heap.size ≤ k) : ∀ (ts : List Tm) (v : Value), TmsAt F w ts v → TmsAt G w ts v
 | [], v, h => by
  rw [TmsAt] at h ⊢
  exact h
 | t :: ts, v, h => by
  rw [TmsAt] at h ⊢
  obtain ⟨cap, pb, po, h1, h2, h3, h4, h5⟩ := h
  exact ⟨cap, pb, po, h1, h2, fun hc => by rcases hG pb hc with h | h; exact h3 h; omega, h4, TmRow.sub hG (t :: ts) pb po h5⟩
theorem TmRow.sub {F G : List Nat} {w : World} (hG : ∀ k ∈ G, k ∈ F ∨ w.heap.size ≤ k) : ∀ (ts : List Tm) (pb po : Nat), TmRow F w ts pb po → TmRow G w ts pb po
 | [], _, _, _ => by rw [TmRow]; trivial
 | t :: ts, pb, po, h => by
  rw [TmRow] at h ⊢
  obtain ⟨⟨cs, h1, h2⟩, h3⟩ := h
  exact ⟨⟨cs, h1, TmAt.sub hG t cs h2⟩, TmRow.sub hG ts pb (po + 5) h3⟩
end
theorem TmAt.below {F : List Nat} {w w' : World} {t : Tm} {cs : List Value} (h : TmAt F w t cs) (hb : Below w.heap.size w w') : TmAt F w' t cs := TmAt.step (Step.of_below hb (Nat.le_refl _)) t cs h
theorem TmsAt.below {F : List Nat} {w w' : World} {ts : List Tm} {v : Value} (h : TmsAt F w ts v) (hb : Below w.heap.size w w') : TmsAt F w' ts v := TmsAt.step (Step.of_below hb (Nat.le_refl _)) ts v h
/-- A node's cells, and what hangs on them. -/
theorem TmAt.open {F : List Nat} {w : World} {t : Tm} {cs : List Value} (h : TmAt F w t cs) : ∃ lv av, cs = [.int .i64 t.kind, .int .i64 t.n, strT t.name, lv, av] ∧ LvsOff F w lv t.levels ∧ TmsAt F w t.args av := by
 obtain ⟨k, n, s, l, a⟩ := t
 rw [TmAt] at h
 exact h
theorem TmAt.mk {F : List Nat} {w : World} {t : Tm} {lv av : Value} (h1 : LvsOff F w lv t.levels) (h2 : TmsAt F w t.args av) : TmAt F w t [.int .i64 t.kind, .int .i64 t.n, strT t.name, lv, av] := by
 obtain ⟨k, n, s, l, a⟩ := t
 rw [TmAt]
 exact ⟨lv, av, rfl, h1, h2⟩
theorem TmAt.len {F : List Nat} {w : World} {t : Tm} {cs : List Value} (h : TmAt F w t cs) : cs.length = 5 := by
 obtain ⟨lv, av, rfl, -⟩ := h.open
 rfl
theorem TmsAt.slice {F : List Nat} {w : World} {ts : List Tm} {v : Value} (h : TmsAt F w ts v) : ∃ a cap, v = .slice a ts.length cap := by
 cases ts with
 | nil => rw [TmsAt] at h; exact h
 | cons t ts =>
  rw [TmsAt] at h
  obtain ⟨cap, pb, po, h1, -⟩ := h
  exact ⟨_, _, h1⟩
theorem LvsOff.slice {F : List Nat} {w : World} {ls : List Lv} {v : Value} (h : LvsOff F w v ls) : ∃ a cap, v = .slice a ls.length cap := by
 obtain ⟨a, cap, h1, -⟩ := h
 exact ⟨a, cap, h1⟩
/-- Every cell of a node is one cell. -/
theorem TmAt.one {F : List Nat} {w : World} {t : Tm} {cs : List Value} (h : TmAt F w t cs) : ∀ u ∈ cs, u.oneCell' = true := by
 obtain ⟨lv, av, rfl, h1, h2⟩ := h.open
 obtain ⟨a1, c1, rfl⟩ := h1.slice
 obtain ⟨a2, c2, rfl⟩ := h2.slice
 intro u hu
 simp only [List.mem_cons, List.not_mem_nil, or_false] at hu
 rcases hu with rfl | rfl | rfl | rfl | rfl <;> rfl
theorem TmRow.get {F : List Nat} {w : World} : ∀ (ts : List Tm) (pb po i : Nat) (t : Tm), TmRow F w ts pb po → ts[i]? = some t → ∃ cs, w.rangeAt pb (po + 5 * i) cs ∧ TmAt F w t cs
 | [], _, _, _, _, _, h => by simp at h
 | t0 :: ts, pb, po, 0, t, h, hi => by
  rw [TmRow] at h
  obtain rfl : t0 = t := by simpa using hi
  exact h.1
 | t0 :: ts, pb, po, i + 1, t, h, hi => by
  rw [TmRow] at h
  obtain ⟨cs, h1, h2⟩ := TmRow.get ts pb (po + 5) i t h.2 (by simpa using hi)
  exact ⟨cs, by rw [show po + 5 * (i + 1) = po + 5 + 5 * i by omega]; exact h1, h2⟩
theorem TmRow.of {F : List Nat} {w : World} : ∀ (ts : List Tm) (pb po : Nat), (∀ (i : Nat) (t : Tm), ts[i]? = some t → ∃ cs, w.rangeAt pb (po + 5 * i) cs ∧ TmAt F w t cs) → TmRow F w ts pb po
 | [], _, _, _ => by rw [TmRow]; trivial
 | t :: ts, pb, po, h => by
  rw [TmRow]
  refine ⟨by simpa using h 0 t rfl, TmRow.of ts pb (po + 5) fun i t' hi => ?_⟩
  obtain ⟨cs, h1, h2⟩ := h (i + 1) t' (by simpa using hi)
  exact ⟨cs, by rw [show po + 5 + 5 * i = po + 5 * (i + 1) by omega]; exact h1, h2⟩
/-- The part of a place. -/
theorem TmsAt.get {F : List Nat} {w : World} {ts : List Tm} {a : Option Addr} {n c : Nat} (h : TmsAt F w ts (.slice a n c)) (hn : ts.length = n) {i : Nat} (hi : i < n) : ∃ t pb po cs, ts[i]? = some t ∧ t ∈ ts ∧ a = some ⟨pb, po, none⟩ ∧ pb ∉ F ∧ pb < w.heap.size ∧ n ≤ c ∧ w.rangeAt pb (po + 5 * i) cs ∧ TmAt F w t cs := by
 cases ts with
 | nil => simp at hn; omega
 | cons t0 ts =>
  rw [TmsAt] at h
  obtain ⟨cap, pb, po, h1, h2, h3, h4, h5⟩ := h
  obtain ⟨rfl, e2, rfl⟩ := Value.slice.inj h1
  have hg : (t0 :: ts)[i]? = some ((t0 :: ts)[i]'(by omega)) := List.getElem?_eq_getElem (by omega)
  obtain ⟨cs, h6, h7⟩ := TmRow.get (t0 :: ts) pb po i _ h5 hg
  exact ⟨_, pb, po, cs, hg, List.getElem_mem _, rfl, h3, h4, by omega, h6, h7⟩
/-- A slice of terms out of its parts. -/
theorem TmsAt.of {F : List Nat} {w : World} {ts : List Tm} {pb po c : Nat} (hc : ts.length ≤ c) (hF : pb ∉ F) (hb : pb < w.heap.size) (h : ∀ (i : Nat) (t : Tm), ts[i]? = some t → ∃ cs, w.rangeAt pb (po + 5 * i) cs ∧ TmAt F w t cs) : TmsAt F w ts (.slice (some ⟨pb, po, none⟩) ts.length c) := by
 cases ts with
 | nil => rw [TmsAt]; exact ⟨_, _, rfl⟩
 | cons t ts =>
  rw [TmsAt]
  exact ⟨c, pb, po, rfl, by simpa using hc, hF, hb, TmRow.of _ _ _ h⟩
theorem TmsAt.nil (F : List Nat) (w : World) (a : Option Addr) (c : Nat) : TmsAt F w [] (.slice a 0 c) := by
 rw [TmsAt]
 exact ⟨a, c, rfl⟩
/-- The cells of terms one behind the other. -/
def TmCells (F : List Nat) (w : World) : List Tm → List (List Value) → Prop
 | [], [] => True
 | t :: ts, c :: cs => TmAt F w t c ∧ TmCells F w ts cs
 | _, _ => False
theorem TmCells.len {F : List Nat} {w : World} : ∀ {ts : List Tm} {cs : List (List Value)}, TmCells F w ts cs → cs.length = ts.length
 | [], [], _ => rfl
 | _ :: _, _ :: _, h => by simp [TmCells.len h.2]
 | [], _ :: _, h => h.elim
 | _ :: _, [], h => h.elim
theorem TmCells.at {F : List Nat} {w : World} : ∀ {ts : List Tm} {cs : List (List Value)} {i : Nat} {t : Tm}, TmCells F w ts cs → ts[i]? = some t → ∃ c, TmAt F w t c ∧ ∀ (j : Nat) (u : Value), c[j]? = some u → cs.flatten[5 * i + j]? = some u
 | [], [], i, t, _, hi => by simp at hi
 | t0 :: ts, c :: cs, 0, t, h, hi => by
  obtain rfl : t0 = t := by simpa using hi
  refine ⟨c, h.1, fun j u hu => ?_⟩
  have hj := (List.getElem?_eq_some_iff.1 hu).1
  rw [List.flatten_cons, List.getElem?_append_left (by omega)]
  simpa using hu
 | t0 :: ts, c :: cs, i + 1, t, h, hi => by
  obtain ⟨c', h1, h2⟩ := TmCells.at h.2 (i := i) (t := t) (by simpa using hi)
  refine ⟨c', h1, fun j u hu => ?_⟩
  have := h.1.len
  rw [List.flatten_cons, List.getElem?_append_right (by omega), this, show 5 * (i + 1) + j - 5 = 5 * i + j by omega]
  exact h2 j u hu
 | [], _ :: _, _, _, h, _ => h.elim
 | _ :: _, [], _, _, h, _ => h.elim
theorem TmCells.step {F F' : List Nat} {w w' : World} (hs : Step F w F' w') : ∀ {ts : List Tm} {cs : List (List Value)}, TmCells F w ts cs → TmCells F' w' ts cs
 | [], [], _ => trivial
 | t :: _, _ :: _, h => ⟨TmAt.step hs t _ h.1, TmCells.step hs h.2⟩
 | [], _ :: _, h => h.elim
 | _ :: _, [], h => h.elim
theorem TmCells.sub {F G : List Nat} {w : World} (hG : ∀ k ∈ G, k ∈ F ∨ w.heap.size ≤ k) : ∀ {ts : List Tm} {cs : List (List Value)}, TmCells F w ts cs → TmCells G w ts cs
 | [], [], _ => trivial
 | t :: _, _ :: _, h => ⟨TmAt.sub hG t _ h.1, TmCells.sub hG h.2⟩
 | [], _ :: _, h => h.elim
 | _ :: _, [], h => h.elim
theorem TmCells.snoc {F : List Nat} {w : World} {t : Tm} {c : List Value} (ht : TmAt F w t c) : ∀ {ts : List Tm} {cs : List (List Value)}, TmCells F w ts cs → TmCells F w (ts ++ [t]) (cs ++ [c])
 | [], [], _ => ⟨ht, trivial⟩
 | _ :: _, _ :: _, h => ⟨h.1, TmCells.snoc ht h.2⟩
 | [], _ :: _, h => h.elim
 | _ :: _, [], h => h.elim
/-- A row of terms of the call's own. -/
def OwnT (ty : TypeId) (F : List Nat) (w : World) (base : Nat) (v : Value) (ts : List Tm) : Prop := ∃ cs, w.ownsRow base ty 5 v ts.length cs.flatten ∧ TmCells F w ts cs
theorem OwnT.in {ty : TypeId} {F : List Nat} {w : World} {base : Nat} {v : Value} {ts : List Tm} (h : OwnT ty F w base v ts) (hF : ∀ g, v.ownBlock = some g → g ∉ F) : TmsAt F w ts v := by
 obtain ⟨cs, ⟨h0, h1⟩, h2⟩ := h
 rcases h1 with ⟨rfl, hn⟩ | ⟨g, cap, cur, rfl, hg, hb, hc, hm, hs, ht⟩
 ·obtain rfl := List.eq_nil_of_length_eq_zero hn
  exact TmsAt.nil F w _ _
 ·refine TmsAt.of hc (hF g rfl) (Array.getElem?_eq_some_iff.1 hb).1 fun i t hi => ?_
  obtain ⟨c, h3, h4⟩ := TmCells.at h2 hi
  refine ⟨c, fun j u hu => ?_, h3⟩
  have hB : Blk w g ty cur.toList := by unfold Blk; simpa using hb
  refine hB.cell ?_
  have h5 := h4 j u hu
  rw [← ht, List.getElem?_take] at h5
  split at h5
  ·rw [Nat.zero_add]; exact h5
  ·cases h5
mutual
/-- No name, no row of levels and no row of parts is longer than what an argument may be. -/
def SmT : Tm → Prop
 | .mk _ _ s l a => s.length ≤ reachBytes ∧ l.length * 40 ≤ reachBytes ∧ a.length * 80 ≤ reachBytes ∧ SmTs a
def SmTs : List Tm → Prop
 | [] => True
 | t :: ts => SmT t ∧ SmTs ts
end
theorem SmTs.of : ∀ {ts : List Tm}, (∀ t ∈ ts, SmT t) → SmTs ts
 | [], _ => by rw [SmTs]; trivial
 | t :: ts, h => by
  rw [SmTs]
  exact ⟨h t List.mem_cons_self, SmTs.of fun x hx => h x (List.mem_cons_of_mem _ hx)⟩
theorem SmTs.mem : ∀ {ts : List Tm} {t : Tm}, SmTs ts → t ∈ ts → SmT t
 | t0 :: ts, t, h, hm => by
  rw [SmTs] at h
  rcases List.mem_cons.1 hm with rfl | hm
  ·exact h.1
  ·exact SmTs.mem h.2 hm
theorem SmT.open {t : Tm} (h : SmT t) : t.name.length ≤ reachBytes ∧ t.levels.length * 40 ≤ reachBytes ∧ t.args.length * 80 ≤ reachBytes ∧ SmTs t.args := by
 obtain ⟨k, n, s, l, a⟩ := t
 rw [SmT] at h
 exact h
end Go.Proofs.Yteohjbggicchgaa
