/- Raw terms, constructors and declarations in memory. -/
import Derived.Test.YtdacmogedchnaaaQPrsA
import Derived.Test.YtdacmogedchnaaaQLexI
import Derived.Test.YtdacmogedchnaaaQTrmD
import Derived.Test.YtdacmogedchnaaaQGenP
namespace Go.Proofs.Ytdacmogedchnaaa
open Go Go.RowKit
set_option maxRecDepth 100000
/-- The offset of a place; of none: 0. -/
def atK (K : Nat → Nat) : Option Nat → Nat
 | none => 0
 | some p => K p
/-- A slice of so many levels. -/
def LvsN (F : List Nat) (w : World) (v : Value) (n : Nat) : Prop := ∃ ls, ls.length = n ∧ LvsOff F w v ls
theorem LvsN.step {F F' : List Nat} {w w' : World} {v : Value} {n : Nat} (h : LvsN F w v n) (hs : Step F w F' w') : LvsN F' w' v n := by
 obtain ⟨ls, h1, h2⟩ := h
 exact ⟨ls, h1, h2.step hs⟩
theorem LvsN.sub {F G : List Nat} {w : World} {v : Value} {n : Nat} (h : LvsN F w v n) (hG : ∀ k ∈ G, k ∈ F ∨ w.heap.size ≤ k) : LvsN G w v n := by
 obtain ⟨ls, h1, h2⟩ := h
 exact ⟨ls, h1, h2.sub hG⟩
theorem LvsN.nil (F : List Nat) (w : World) (a : Option Addr) (c : Nat) : LvsN F w (.slice a 0 c) 0 := ⟨[], rfl, LvsOff.nil F w a c⟩
theorem LvsN.slice {F : List Nat} {w : World} {v : Value} {n : Nat} (h : LvsN F w v n) : ∃ a cap, v = .slice a n cap := by
 obtain ⟨ls, rfl, h2⟩ := h
 exact h2.slice
mutual
/-- The six cells of a node, and all that hangs on them. -/
def RwAt (K : Nat → Nat) (F : List Nat) (w : World) : Rw → List Value → Prop
 | .mk k n p s l a, cs => ∃ lv av, cs = [.int .i64 (k : Int), .int .i64 (n : Int), .int .i64 (atK K p : Int), sT s, lv, av] ∧ LvsN F w lv l ∧ RwsAt K F w a av
/-- A slice of terms. -/
def RwsAt (K : Nat → Nat) (F : List Nat) (w : World) : List Rw → Value → Prop
 | [], v => ∃ a cap, v = .slice a 0 cap
 | t :: ts, v => ∃ cap pb po, v = .slice (some ⟨pb, po, none⟩) (ts.length + 1) cap ∧ ts.length + 1 ≤ cap ∧ pb ∉ F ∧ pb < w.heap.size ∧ RwRow K F w (t :: ts) pb po
/-- Terms one behind the other in one block. -/
def RwRow (K : Nat → Nat) (F : List Nat) (w : World) : List Rw → Nat → Nat → Prop
 | [], _, _ => True
 | t :: ts, pb, po => (∃ cs, w.rangeAt pb po cs ∧ RwAt K F w t cs) ∧ RwRow K F w ts pb (po + 6)
end
mutual
theorem RwAt.step {K : Nat → Nat} {F F' : List Nat} {w w' : World} (hs : Step F w F' w') : ∀ (t : Rw) (cs : List Value), RwAt K F w t cs → RwAt K F' w' t cs
 | .mk k n p s l a, cs, h => by
  rw [RwAt] at h ⊢
  obtain ⟨lv, av, h1, h2, h3⟩ := h
  exact ⟨lv, av, h1, h2.step hs, RwsAt.step hs a av h3⟩
theorem RwsAt.step {K : Nat → Nat} {F F' : List Nat} {w w' : World} (hs : Step F w F' w') : ∀ (ts : List Rw) (v : Value), RwsAt K F w ts v → RwsAt K F' w' ts v
 | [], v, h => by
  rw [RwsAt] at h ⊢
  exact h
 | t :: ts, v, h => by
  rw [RwsAt] at h ⊢
  obtain ⟨cap, pb, po, h1, h2, h3, h4, h5⟩ := h
  exact ⟨cap, pb, po, h1, h2, hs.off h4 h3, Nat.lt_of_lt_of_le h4 hs.size, RwRow.step hs (t :: ts) pb po h4 h3 h5⟩
theorem RwRow.step {K : Nat → Nat} {F F' : List Nat} {w w' : World} (hs : Step F w F' w') : ∀ (ts : List Rw) (pb po : Nat), pb < w.heap.size → pb ∉ F → RwRow K F w ts pb po → RwRow K F' w' ts pb po
 | [], _, _, _, _, _ => by rw [RwRow]; trivial
 | t :: ts, pb, po, hb, hF, h => by
  rw [RwRow] at h ⊢
  obtain ⟨⟨cs, h1, h2⟩, h3⟩ := h
  exact ⟨⟨cs, hs.range hb hF h1, RwAt.step hs t cs h2⟩, RwRow.step hs ts pb (po + 6) hb hF h3⟩
end
mutual
/-- Off fewer blocks, or off new ones. -/
theorem RwAt.sub {K : Nat → Nat} {F G : List Nat} {w : World} (hG : ∀ k ∈ G, k ∈ F ∨ w.heap.size ≤ k) : ∀ (t : Rw) (cs : List Value), RwAt K F w t cs → RwAt K G w t cs
 | .mk k n p s l a, cs, h => by
  rw [RwAt] at h ⊢
  obtain ⟨lv, av, h1, h2, h3⟩ := h
  exact ⟨lv, av, h1, h2.sub hG, RwsAt.sub hG a av h3⟩
theorem RwsAt.sub {K : Nat → Nat} {F G : List Nat} {w : World} (hG : ∀ k ∈ G, k ∈ F ∨ w.heap.size ≤ k) : ∀ (ts : List Rw) (v : Value), RwsAt K F w ts v → RwsAt K G w ts v
 | [], v, h => by
  rw [RwsAt] at h ⊢
  exact h
 | t :: ts, v, h => by
  rw [RwsAt] at h ⊢
  obtain ⟨cap, pb, po, h1, h2, h3, h4, h5⟩ := h
  exact ⟨cap, pb, po, h1, h2, fun hc => by rcases hG pb hc with h | h; exact h3 h; omega, h4, RwRow.sub hG (t :: ts) pb po h5⟩
theorem RwRow.sub {K : Nat → Nat} {F G : List Nat} {w : World} (hG : ∀ k ∈ G, k ∈ F ∨ w.heap.size ≤ k) : ∀ (ts : List Rw) (pb po : Nat), RwRow K F w ts pb po → RwRow K G w ts pb po
 | [], _, _, _ => by rw [RwRow]; trivial
 | t :: ts, pb, po, h => by
  rw [RwRow] at h ⊢
  obtain ⟨⟨cs, h1, h2⟩, h3⟩ := h
  exact ⟨⟨cs, h1, RwAt.sub hG t cs h2⟩, RwRow.sub hG ts pb (po + 6) h3⟩
end
theorem RwAt.below {K : Nat → Nat} {F : List Nat} {w w' : World} {t : Rw} {cs : List Value} (h : RwAt K F w t cs) (hb : Below w.heap.size w w') : RwAt K F w' t cs := RwAt.step (Step.of_below hb (Nat.le_refl _)) t cs h
theorem RwsAt.below {K : Nat → Nat} {F : List Nat} {w w' : World} {ts : List Rw} {v : Value} (h : RwsAt K F w ts v) (hb : Below w.heap.size w w') : RwsAt K F w' ts v := RwsAt.step (Step.of_below hb (Nat.le_refl _)) ts v h
/-- A node's cells, and what hangs on them. -/
theorem RwAt.open {K : Nat → Nat} {F : List Nat} {w : World} {t : Rw} {cs : List Value} (h : RwAt K F w t cs) : ∃ lv av, cs = [.int .i64 (t.kind : Int), .int .i64 (t.n : Int), .int .i64 (atK K t.at' : Int), sT t.name, lv, av] ∧ LvsN F w lv t.levels ∧ RwsAt K F w t.args av := by
 obtain ⟨k, n, p, s, l, a⟩ := t
 rw [RwAt] at h
 exact h
theorem RwAt.len {K : Nat → Nat} {F : List Nat} {w : World} {t : Rw} {cs : List Value} (h : RwAt K F w t cs) : cs.length = 6 := by
 obtain ⟨lv, av, rfl, -⟩ := h.open
 rfl
theorem RwsAt.slice {K : Nat → Nat} {F : List Nat} {w : World} {ts : List Rw} {v : Value} (h : RwsAt K F w ts v) : ∃ a cap, v = .slice a ts.length cap := by
 cases ts with
 | nil => rw [RwsAt] at h; exact h
 | cons t ts =>
  rw [RwsAt] at h
  obtain ⟨cap, pb, po, h1, -⟩ := h
  exact ⟨_, _, h1⟩
/-- Every cell of a node is one cell. -/
theorem RwAt.one {K : Nat → Nat} {F : List Nat} {w : World} {t : Rw} {cs : List Value} (h : RwAt K F w t cs) : ∀ u ∈ cs, u.oneCell' = true := by
 obtain ⟨lv, av, rfl, h1, h2⟩ := h.open
 obtain ⟨a1, c1, rfl⟩ := h1.slice
 obtain ⟨a2, c2, rfl⟩ := h2.slice
 intro u hu
 simp only [List.mem_cons, List.not_mem_nil, or_false] at hu
 rcases hu with rfl | rfl | rfl | rfl | rfl | rfl <;> rfl
theorem RwRow.get {K : Nat → Nat} {F : List Nat} {w : World} : ∀ (ts : List Rw) (pb po i : Nat) (t : Rw), RwRow K F w ts pb po → ts[i]? = some t → ∃ cs, w.rangeAt pb (po + 6 * i) cs ∧ RwAt K F w t cs
 | [], _, _, _, _, _, h => by simp at h
 | t0 :: ts, pb, po, 0, t, h, hi => by
  rw [RwRow] at h
  obtain rfl : t0 = t := by simpa using hi
  exact h.1
 | t0 :: ts, pb, po, i + 1, t, h, hi => by
  rw [RwRow] at h
  obtain ⟨cs, h1, h2⟩ := RwRow.get ts pb (po + 6) i t h.2 (by simpa using hi)
  exact ⟨cs, by rw [show po + 6 * (i + 1) = po + 6 + 6 * i by omega]; exact h1, h2⟩
theorem RwRow.of {K : Nat → Nat} {F : List Nat} {w : World} : ∀ (ts : List Rw) (pb po : Nat), (∀ (i : Nat) (t : Rw), ts[i]? = some t → ∃ cs, w.rangeAt pb (po + 6 * i) cs ∧ RwAt K F w t cs) → RwRow K F w ts pb po
 | [], _, _, _ => by rw [RwRow]; trivial
 | t :: ts, pb, po, h => by
  rw [RwRow]
  refine ⟨by simpa using h 0 t rfl, RwRow.of ts pb (po + 6) fun i t' hi => ?_⟩
  obtain ⟨cs, h1, h2⟩ := h (i + 1) t' (by simpa using hi)
  exact ⟨cs, by rw [show po + 6 + 6 * i = po + 6 * (i + 1) by omega]; exact h1, h2⟩
/-- The part of a place. -/
theorem RwsAt.get {K : Nat → Nat} {F : List Nat} {w : World} {ts : List Rw} {a : Option Addr} {n c : Nat} (h : RwsAt K F w ts (.slice a n c)) (hn : ts.length = n) {i : Nat} (hi : i < n) : ∃ t pb po cs, ts[i]? = some t ∧ t ∈ ts ∧ a = some ⟨pb, po, none⟩ ∧ pb ∉ F ∧ pb < w.heap.size ∧ n ≤ c ∧ w.rangeAt pb (po + 6 * i) cs ∧ RwAt K F w t cs := by
 cases ts with
 | nil => simp at hn; omega
 | cons t0 ts =>
  rw [RwsAt] at h
  obtain ⟨cap, pb, po, h1, h2, h3, h4, h5⟩ := h
  obtain ⟨rfl, e2, rfl⟩ := Value.slice.inj h1
  have hg : (t0 :: ts)[i]? = some ((t0 :: ts)[i]'(by omega)) := List.getElem?_eq_getElem (by omega)
  obtain ⟨cs, h6, h7⟩ := RwRow.get (t0 :: ts) pb po i _ h5 hg
  exact ⟨_, pb, po, cs, hg, List.getElem_mem _, rfl, h3, h4, by omega, h6, h7⟩
/-- A slice of terms out of its parts. -/
theorem RwsAt.of {K : Nat → Nat} {F : List Nat} {w : World} {ts : List Rw} {pb po c : Nat} (hc : ts.length ≤ c) (hF : pb ∉ F) (hb : pb < w.heap.size) (h : ∀ (i : Nat) (t : Rw), ts[i]? = some t → ∃ cs, w.rangeAt pb (po + 6 * i) cs ∧ RwAt K F w t cs) : RwsAt K F w ts (.slice (some ⟨pb, po, none⟩) ts.length c) := by
 cases ts with
 | nil => rw [RwsAt]; exact ⟨_, _, rfl⟩
 | cons t ts =>
  rw [RwsAt]
  exact ⟨c, pb, po, rfl, by simpa using hc, hF, hb, RwRow.of _ _ _ h⟩
theorem RwsAt.nil {K : Nat → Nat} (F : List Nat) (w : World) (a : Option Addr) (c : Nat) : RwsAt K F w [] (.slice a 0 c) := by
 rw [RwsAt]
 exact ⟨a, c, rfl⟩
theorem RwAt.off {K : Nat → Nat} {G : List Nat} {m : Nat} {w : World} {t : Rw} {cs : List Value} (h : RwAt K (List.range m) w t cs) (hG : ∀ k ∈ G, k < m ∨ w.heap.size ≤ k) : RwAt K G w t cs := RwAt.sub (fun k hk => (hG k hk).imp (fun h => List.mem_range.2 h) id) t cs h
theorem RwAt.range {K : Nat → Nat} {m n : Nat} {w : World} {t : Rw} {cs : List Value} (h : RwAt K (List.range m) w t cs) (hn : n ≤ m) : RwAt K (List.range n) w t cs := h.off (fun k hk => .inl (by have := List.mem_range.1 hk; omega))
/-- What lies in memory as so many cells, off some blocks. -/
structure PredG {α : Type} (P : List Nat → World → α → List Value → Prop) (sz : Nat) : Prop where
 step : ∀ {F F' : List Nat} {w w' : World}, Step F w F' w' → ∀ (x : α) (cs : List Value), P F w x cs → P F' w' x cs
 sub : ∀ {F G : List Nat} {w : World}, (∀ k ∈ G, k ∈ F ∨ w.heap.size ≤ k) → ∀ (x : α) (cs : List Value), P F w x cs → P G w x cs
 len : ∀ {F : List Nat} {w : World} {x : α} {cs : List Value}, P F w x cs → cs.length = sz
 one : ∀ {F : List Nat} {w : World} {x : α} {cs : List Value}, P F w x cs → ∀ u ∈ cs, u.oneCell' = true
section
variable {α : Type} {P : List Nat → World → α → List Value → Prop} {sz : Nat}
/-- A slice of such things. -/
def SlG (P : List Nat → World → α → List Value → Prop) (sz : Nat) (F : List Nat) (w : World) (v : Value) (xs : List α) : Prop :=
 ∃ a cap, v = .slice a xs.length cap ∧ xs.length ≤ cap ∧ (0 < xs.length → ∃ pb po, a = some ⟨pb, po, none⟩ ∧ pb ∉ F ∧ pb < w.heap.size ∧ ∀ (i : Nat) (x : α), xs[i]? = some x → ∃ cs, w.rangeAt pb (po + sz * i) cs ∧ P F w x cs)
theorem SlG.nil (F : List Nat) (w : World) (a : Option Addr) (c : Nat) : SlG P sz F w (.slice a 0 c) [] := ⟨a, c, rfl, Nat.zero_le _, fun h => absurd h (by simp)⟩
theorem SlG.step (hP : PredG P sz) {F F' : List Nat} {w w' : World} {v : Value} {xs : List α} (h : SlG P sz F w v xs) (hs : Step F w F' w') : SlG P sz F' w' v xs := by
 obtain ⟨a, cap, h1, h2, h3⟩ := h
 refine ⟨a, cap, h1, h2, fun hp => ?_⟩
 obtain ⟨pb, po, e, hF, hb, hr⟩ := h3 hp
 refine ⟨pb, po, e, hs.off hb hF, Nat.lt_of_lt_of_le hb hs.size, fun i c hi => ?_⟩
 obtain ⟨cs, g1, g2⟩ := hr i c hi
 exact ⟨cs, hs.range hb hF g1, hP.step hs _ _ g2⟩
theorem SlG.sub (hP : PredG P sz) {F G : List Nat} {w : World} {v : Value} {xs : List α} (h : SlG P sz F w v xs) (hG : ∀ k ∈ G, k ∈ F ∨ w.heap.size ≤ k) : SlG P sz G w v xs := by
 obtain ⟨a, cap, h1, h2, h3⟩ := h
 refine ⟨a, cap, h1, h2, fun hp => ?_⟩
 obtain ⟨pb, po, e, hF, hb, hr⟩ := h3 hp
 refine ⟨pb, po, e, fun hc => by rcases hG pb hc with h | h; exact hF h; omega, hb, fun i c hi => ?_⟩
 obtain ⟨cs, g1, g2⟩ := hr i c hi
 exact ⟨cs, g1, hP.sub hG _ _ g2⟩
theorem SlG.slice {F : List Nat} {w : World} {v : Value} {xs : List α} (h : SlG P sz F w v xs) : ∃ a cap, v = .slice a xs.length cap := by
 obtain ⟨a, cap, h1, -⟩ := h
 exact ⟨a, cap, h1⟩
theorem SlG.below (hP : PredG P sz) {F : List Nat} {w w' : World} {v : Value} {xs : List α} (h : SlG P sz F w v xs) (hb : Below w.heap.size w w') : SlG P sz F w' v xs := h.step hP (Step.of_below hb (Nat.le_refl _))
/-- The cells of such things one behind the other. -/
def CellsG (P : List Nat → World → α → List Value → Prop) (F : List Nat) (w : World) : List α → List (List Value) → Prop
 | [], [] => True
 | t :: ts, c :: cs => P F w t c ∧ CellsG P F w ts cs
 | _, _ => False
theorem CellsG.at (hP : PredG P sz) {F : List Nat} {w : World} : ∀ {ts : List α} {cs : List (List Value)} {i : Nat} {t : α}, CellsG P F w ts cs → ts[i]? = some t → ∃ c, P F w t c ∧ ∀ (j : Nat) (u : Value), c[j]? = some u → cs.flatten[sz * i + j]? = some u
 | [], [], i, t, _, hi => by simp at hi
 | t0 :: ts, c :: cs, 0, t, h, hi => by
  obtain rfl : t0 = t := by simpa using hi
  refine ⟨c, h.1, fun j u hu => ?_⟩
  have hj := (List.getElem?_eq_some_iff.1 hu).1
  rw [List.flatten_cons, List.getElem?_append_left (by omega)]
  simpa using hu
 | t0 :: ts, c :: cs, i + 1, t, h, hi => by
  obtain ⟨c', h1, h2⟩ := CellsG.at hP h.2 (i := i) (t := t) (by simpa using hi)
  refine ⟨c', h1, fun j u hu => ?_⟩
  have := hP.len h.1
  rw [List.flatten_cons, List.getElem?_append_right (by rw [this, Nat.mul_succ]; omega), this, show sz * (i + 1) + j - sz = sz * i + j by rw [Nat.mul_succ]; omega]
  exact h2 j u hu
 | [], _ :: _, _, _, h, _ => h.elim
 | _ :: _, [], _, _, h, _ => h.elim
theorem CellsG.step (hP : PredG P sz) {F F' : List Nat} {w w' : World} (hs : Step F w F' w') : ∀ {ts : List α} {cs : List (List Value)}, CellsG P F w ts cs → CellsG P F' w' ts cs
 | [], [], _ => trivial
 | t :: _, _ :: _, h => ⟨hP.step hs t _ h.1, CellsG.step hP hs h.2⟩
 | [], _ :: _, h => h.elim
 | _ :: _, [], h => h.elim
theorem CellsG.snoc {F : List Nat} {w : World} {t : α} {c : List Value} (ht : P F w t c) : ∀ {ts : List α} {cs : List (List Value)}, CellsG P F w ts cs → CellsG P F w (ts ++ [t]) (cs ++ [c])
 | [], [], _ => ⟨ht, trivial⟩
 | _ :: _, _ :: _, h => ⟨h.1, CellsG.snoc ht h.2⟩
 | [], _ :: _, h => h.elim
 | _ :: _, [], h => h.elim
/-- A row of such things of the call's own: what hangs on it lies off the blocks below m, and off the row itself. -/
def RowG (P : List Nat → World → α → List Value → Prop) (sz : Nat) (ty : TypeId) (m : Nat) (w : World) (v : Value) (xs : List α) : Prop := ∃ ds, w.ownsRow m ty sz v xs.length ds.flatten ∧ CellsG P (List.range m ++ ownL v) w xs ds
theorem RowG.nil (ty : TypeId) (m : Nat) (w : World) : RowG P sz ty m w (.slice none 0 0) [] := ⟨[], World.ownsRow_nil w m ty sz, trivial⟩
theorem RowG.own {ty : TypeId} {m : Nat} {w : World} {v : Value} {xs : List α} (h : RowG P sz ty m w v xs) : ∀ g, v.ownBlock = some g → m ≤ g ∧ g < w.heap.size := by
 obtain ⟨ds, h1, -⟩ := h
 exact own_where h1
theorem RowG.step (hP : PredG P sz) {ty : TypeId} {m : Nat} {w w' : World} {v : Value} {xs : List α} {F : List Nat} (h : RowG P sz ty m w v xs) (hs : Step F w F w') (hF : ∀ k ∈ F, k < m) : RowG P sz ty m w' v xs := by
 obtain ⟨ds, h1, h2⟩ := h
 have ho := own_where h1
 refine ⟨ds, own_step h1 hs (fun g hg hgF => by have := hF g hgF; have := (ho g hg).1; omega), ?_⟩
 have hs2 : Step (List.range m ++ ownL v) w (List.range m ++ ownL v) w' := ⟨hs.os, hs.tape, hs.output, hs.size, fun k hk hn => hs.block k hk (fun hc => hn (List.mem_append_left _ (List.mem_range.2 (hF k hc)))), fun k hk => .inl hk⟩
 exact CellsG.step hP hs2 h2
theorem RowG.in (hP : PredG P sz) {ty : TypeId} {m : Nat} {w : World} {v : Value} {xs : List α} (h : RowG P sz ty m w v xs) : SlG P sz (List.range m) w v xs := by
 have ho := h.own
 obtain ⟨ds, ⟨h0, h1⟩, h2⟩ := h
 rcases h1 with ⟨rfl, hn⟩ | ⟨g, cap, cur, rfl, hg, hb, hc, hm, hs, ht⟩
 ·obtain rfl := List.eq_nil_of_length_eq_zero hn
  exact SlG.nil _ _ _ _
 ·refine ⟨some ⟨g, 0, none⟩, cap, rfl, hc, fun _ => ⟨g, 0, rfl, fun hh => by have := List.mem_range.1 hh; omega, (Array.getElem?_eq_some_iff.1 hb).1, fun i x hi => ?_⟩⟩
  obtain ⟨c, h3, h4⟩ := CellsG.at hP h2 hi
  refine ⟨c, fun j u hu => ?_, hP.sub (fun k hk => .inl (List.mem_append_left _ hk)) _ _ h3⟩
  have hB : Blk w g ty cur.toList := by unfold Blk; simpa using hb
  refine hB.cell ?_
  have h5 := h4 j u hu
  rw [← ht, List.getElem?_take] at h5
  split at h5
  ·rw [Nat.zero_add]; exact h5
  ·cases h5
theorem RowG.append (hP : PredG P sz) {rty ty : TypeId} {i0 : TypeInfo} {z : Value} {by0 : Nat} (he : Try.prog.underlying rty = some (.slice ty)) (hi0 : Try.prog.info? ty = some i0) (hz0 : i0.zero = some z) (hz1 : i0.size = sz) (hz2 : i0.bytes = by0) (hzc : z.cells.size = sz) (hsz : 0 < sz) (hby : 0 < by0)
    {m : Nat} {w : World} {v : Value} {xs : List α} {x : α} {g : Nat} {cs : List Value} (h : RowG P sz ty m w v xs) (hb : Blk w g ty cs) (ht : P (List.range m ++ ownL v) w x cs) (hn : (xs.length + 1) * by0 ≤ 140737488355328) (hsz1 : by0 ≤ 1000) (hm : m ≤ w.heap.size) :
    ∃ v' w', (Builtin.append_ #[rty, rty] rty #[v, .slice (some ⟨g, 0, none⟩) 1 1]).run Try.prog w = .ok v' w' ∧ RowG P sz ty m w' v' (xs ++ [x]) ∧ w.grownBy w' v.ownBlock ∧ (v'.ownBlock = v.ownBlock ∨ v'.ownBlock = some w.heap.size) := by
  obtain ⟨ds, h1, h2⟩ := h
  have hl : cs.length = sz := hP.len ht
  obtain ⟨v', w', e1, e2, e3, -, e5⟩ := run_append_own_at w m rty rty ty i0 _ sz by0 he hi0 hz0 hz1 hz2 hzc hsz v xs.length ds.flatten h1 ⟨g, 0, none⟩ 1 1 cs (by rw [hl, Nat.one_mul]) (fun j u hj => by rw [Addr.add_mid]; exact hb.whole j u hj) (fun u hu => hP.one ht u hu) (by have := Nat.le_mul_of_pos_right (xs.length + 1) hby; unfold maxLen; omega) hn hm
  have hs := grown_step (m := m) e3 e5
  exact ⟨v', w', e1, ⟨ds ++ [cs], by rw [List.flatten_append, List.length_append]; simpa using e2, CellsG.snoc (hP.step hs _ _ ht) (CellsG.step hP hs h2)⟩, e3, e5⟩
end
/-- A constructor: eight cells. -/
def CtAt (K : Nat → Nat) (F : List Nat) (w : World) (c : Ct) (cs : List Value) : Prop := ∃ tc, cs = sT c.name :: .int .i64 (K c.at' : Int) :: tc ∧ RwAt K F w c.ty tc
theorem ctG (K : Nat → Nat) : PredG (CtAt K) 8 := by
 refine ⟨fun hs x cs ⟨tc, h1, h2⟩ => ⟨tc, h1, RwAt.step hs _ _ h2⟩, fun hG x cs ⟨tc, h1, h2⟩ => ⟨tc, h1, RwAt.sub hG _ _ h2⟩, fun ⟨tc, h1, h2⟩ => by rw [h1, List.length_cons, List.length_cons, h2.len], fun ⟨tc, h1, h2⟩ u hu => ?_⟩
 rw [h1] at hu
 rcases List.mem_cons.1 hu with rfl | hu
 ·rfl
 rcases List.mem_cons.1 hu with rfl | hu
 ·rfl
 exact h2.one u hu
/-- A declaration: eighteen cells. -/
def DlC (K : Nat → Nat) (d : Dl) (tc vc : List Value) (cv : Value) : List Value := [.int .i64 (d.kind : Int), .int .i64 (d.params : Int), .int .i64 (d.fixed : Int), .int .i64 (K d.at' : Int), sT d.name] ++ (tc ++ (vc ++ [cv]))
def DlAt (K : Nat → Nat) (F : List Nat) (w : World) (d : Dl) (cs : List Value) : Prop := ∃ tc vc cv, cs = DlC K d tc vc cv ∧ RwAt K F w d.ty tc ∧ RwAt K F w d.val vc ∧ SlG (CtAt K) 8 F w cv d.ctors
theorem dlG (K : Nat → Nat) : PredG (DlAt K) 18 := by
 refine ⟨fun hs x cs ⟨tc, vc, cv, h1, h2, h3, h4⟩ => ⟨tc, vc, cv, h1, RwAt.step hs _ _ h2, RwAt.step hs _ _ h3, h4.step (ctG K) hs⟩, fun hG x cs ⟨tc, vc, cv, h1, h2, h3, h4⟩ => ⟨tc, vc, cv, h1, RwAt.sub hG _ _ h2, RwAt.sub hG _ _ h3, h4.sub (ctG K) hG⟩, fun ⟨tc, vc, cv, h1, h2, h3, h4⟩ => ?_, fun ⟨tc, vc, cv, h1, h2, h3, h4⟩ u hu => ?_⟩
 ·rw [h1, DlC]
  simp [h2.len, h3.len]
 ·rw [h1, DlC] at hu
  rcases List.mem_append.1 hu with hu | hu
  ·simp only [List.mem_cons, List.not_mem_nil, or_false] at hu
   rcases hu with rfl | rfl | rfl | rfl | rfl <;> rfl
  rcases List.mem_append.1 hu with hu | hu
  ·exact h2.one u hu
  rcases List.mem_append.1 hu with hu | hu
  ·exact h3.one u hu
  ·obtain ⟨a, c, rfl⟩ := h4.slice
   rw [List.mem_singleton.1 hu]
   rfl
end Go.Proofs.Ytdacmogedchnaaa
