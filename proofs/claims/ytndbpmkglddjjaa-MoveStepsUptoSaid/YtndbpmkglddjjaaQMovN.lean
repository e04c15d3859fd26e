/- What is kept of a term that is rebuilt: how long its names and rows are; how many nodes it has. -/
import Derived.Test.YtndbpmkglddjjaaQMovB
namespace Go.Proofs.Ytndbpmkglddjjaa
open Go Go.RowKit
theorem rebTs_len {σ : Type} {g : σ → Tm → Int → Option (σ × Tm)} {d k : Int} {N : Nat} : ∀ (ts : List Tm) (s s' : σ) (i : Nat) (xs : List Tm), rebTs g s d k N i ts = some (s', xs) → xs.length = ts.length
  | [], s, s', i, xs, h => by
    rw [rebTs] at h
    cases h
    rfl
  | t :: ts, s, s', i, xs, h => by
    rw [rebTs] at h
    cases h1 : rebT g s (d + moreD k i N) t with
    | none => rw [h1] at h; cases h
    | some p =>
      obtain ⟨s1, x⟩ := p
      rw [h1] at h
      simp only at h
      cases h2 : rebTs g s1 d k N (i + 1) ts with
      | none => rw [h2] at h; cases h
      | some p2 =>
        obtain ⟨s2, ys⟩ := p2
        rw [h2] at h
        cases h
        simp [rebTs_len ts s1 s2 (i + 1) ys h2]
section
variable {σ : Type} {g : σ → Tm → Int → Option (σ × Tm)} {C : Tm → Tm → σ → σ → Prop}
/-- By parts: whatever holds of a node, and of a node with its parts. -/
theorem reb_parts {C : σ → Tm → σ → Tm → Prop} {D : σ → List Tm → σ → List Tm → Prop}
    (hleaf : ∀ s k n nm l d s' r, g s (.mk k n nm l []) d = some (s', r) → C s (.mk k n nm l []) s' r)
    (hnil : ∀ s, D s [] s []) (hcons : ∀ s t s1 x ts s2 xs, C s t s1 x → D s1 ts s2 xs → D s (t :: ts) s2 (x :: xs))
    (hnode : ∀ s k n nm l d s1 r a s2 xs, g s (.mk k n nm l []) d = some (s1, r) → a.length ≠ 0 → xs.length = a.length → D s1 a s2 xs → C s (.mk k n nm l a) s2 (.mk r.kind r.n r.name r.levels xs)) :
    ∀ (t : Tm) (s : σ) (d : Int) (s' : σ) (r : Tm), rebT g s d t = some (s', r) → C s t s' r := by
  refine Tm.byParts fun k n nm l a ih s d s' r h => ?_
  have parts : ∀ (ts : List Tm), (∀ x ∈ ts, ∀ (s : σ) (d : Int) (s' : σ) (r : Tm), rebT g s d x = some (s', r) → C s x s' r) → ∀ (s s' : σ) (N i : Nat) (xs : List Tm), rebTs g s d k N i ts = some (s', xs) → D s ts s' xs := by
    intro ts
    induction ts with
    | nil => intro _ s s' N i xs h; rw [rebTs] at h; cases h; exact hnil s
    | cons t ts iht =>
      intro hx s s' N i xs h
      rw [rebTs] at h
      cases h1 : rebT g s (d + moreD k i N) t with
      | none => rw [h1] at h; cases h
      | some p =>
        obtain ⟨s1, x⟩ := p
        rw [h1] at h
        simp only at h
        cases h2 : rebTs g s1 d k N (i + 1) ts with
        | none => rw [h2] at h; cases h
        | some p2 =>
          obtain ⟨s2, ys⟩ := p2
          rw [h2] at h
          cases h
          exact hcons _ _ _ _ _ _ _ (hx t (by simp) _ _ _ _ h1) (iht (fun x hm => hx x (by simp [hm])) _ _ _ _ _ h2)
  rw [rebT] at h
  cases h1 : g s (.mk k n nm l []) d with
  | none => rw [h1] at h; cases h
  | some p =>
    obtain ⟨s1, r1⟩ := p
    rw [h1] at h
    simp only at h
    by_cases ha : a.length = 0
    · rw [if_pos ha] at h
      cases h
      obtain rfl := List.eq_nil_of_length_eq_zero ha
      exact hleaf _ _ _ _ _ _ _ _ h1
    · rw [if_neg ha] at h
      cases h2 : rebTs g s1 d k a.length 0 a with
      | none => rw [h2] at h; cases h
      | some p2 =>
        obtain ⟨s2, ys⟩ := p2
        rw [h2] at h
        cases h
        exact hnode _ _ _ _ _ _ _ _ _ _ _ h1 ha (rebTs_len a _ _ _ _ h2) (parts a ih _ _ _ _ _ h2)
theorem reb_sm (hg : ∀ s k n nm l d s' r, g s (.mk k n nm l []) d = some (s', r) → SmT (.mk k n nm l []) → SmT r) {t : Tm} {s s' : σ} {d : Int} {r : Tm} (h : rebT g s d t = some (s', r)) (hs : SmT t) : SmT r := by
  refine reb_parts (g := g) (C := fun _ t _ r => SmT t → SmT r) (D := fun _ ts _ xs => SmTs ts → SmTs xs) (fun s k n nm l d s' r h => hg s k n nm l d s' r h) (fun _ h => h) (fun s t s1 x ts s2 xs h1 h2 h => ?_) (fun s k n nm l d s1 r a s2 xs h1 h0 hl h2 h => ?_) t s d s' r h hs
  · rw [SmTs] at h ⊢
    exact ⟨h1 h.1, h2 h.2⟩
  · rw [SmT] at h
    have hr := hg s k n nm l d s1 r h1 (by rw [SmT]; exact ⟨h.1, h.2.1, by simp [show reachBytes = 140737488351232 from rfl], by simp [SmTs]⟩)
    have ho := hr.open
    rw [SmT]
    exact ⟨ho.1, ho.2.1, by rw [hl]; exact h.2.2.1, h2 h.2.2.2⟩
/-- What a node weighs alone. -/
theorem nodes_leaf (k n : Int) (nm : List UInt8) (l : List Lv) (a : List Tm) : nodesT (.mk k n nm l a) = nodesT (.mk k n nm l []) + nodesTs a := by simp [nodesT, nodesTs]
theorem leaf_le (r : Tm) (a : List Tm) : nodesT (.mk r.kind r.n r.name r.levels a) ≤ nodesT r + nodesTs a := by
  obtain ⟨k, n, nm, l, b⟩ := r
  simp only [Tm.kind, Tm.n, Tm.name, Tm.levels]
  rw [nodes_leaf, nodes_leaf k n nm l b]
  omega
theorem reb_nodes {ν : σ → Int} (hg : ∀ s k n nm l d s' r, g s (.mk k n nm l []) d = some (s', r) → (nodesT r : Int) + ν s' ≤ (nodesT (.mk k n nm l []) : Int) + ν s) {t : Tm} {s s' : σ} {d : Int} {r : Tm} (h : rebT g s d t = some (s', r)) : (nodesT r : Int) + ν s' ≤ (nodesT t : Int) + ν s := by
  refine reb_parts (g := g) (C := fun s t s' r => (nodesT r : Int) + ν s' ≤ (nodesT t : Int) + ν s) (D := fun s ts s' xs => (nodesTs xs : Int) + ν s' ≤ (nodesTs ts : Int) + ν s) (fun s k n nm l d s' r h => hg s k n nm l d s' r h) (fun _ => Int.le_refl _) (fun s t s1 x ts s2 xs h1 h2 => ?_) (fun s k n nm l d s1 r a s2 xs h1 h0 hl h2 => ?_) t s d s' r h
  · rw [nodesTs, nodesTs]
    omega
  · have h3 := hg s k n nm l d s1 r h1
    have h4 := leaf_le r xs
    have h5 := nodes_leaf k n nm l a
    omega
end
/-- A right term is small in its numbers, names and rows. -/
theorem right_head {wo : List UInt8 → Bool} {p v d k n : Int} {s : List UInt8} {l : List Lv} {a : List Tm} (h : rightT wo p v d (.mk k n s l a) = true) : 0 ≤ n ∧ (n < v ∨ n ≤ 31) ∧ d ≤ 200 ∧ rightTs wo p v d k 0 a = true := by
  rw [rightT, Bool.and_eq_true, Bool.and_eq_true] at h
  obtain ⟨⟨h1, h2⟩, h3⟩ := h
  unfold headT at h1
  simp only [Bool.and_eq_true, decide_eq_true_eq] at h1
  obtain ⟨⟨⟨⟨⟨⟨⟨⟨-, -⟩, hd⟩, -⟩, -⟩, -⟩, -⟩, hn⟩, hk⟩ := h1
  refine ⟨hn, ?_, hd, h3⟩
  by_cases h9 : k = 9
  · rw [if_pos h9] at hk
    exact .inr (by simpa using hk)
  · rw [if_neg h9] at hk
    by_cases h1 : k = 1
    · left
      simpa [h1] using h2
    · rw [if_neg h1] at hk
      right
      have : n = 0 := by simpa using hk
      omega
theorem right_bnd {wo : List UInt8 → Bool} {p : Int} : ∀ (t : Tm) (v d : Int), rightT wo p v d t = true → v - d ≤ 1099511627777 → BndT t := by
  refine Tm.byParts fun k n s l a ih v d h hv => ?_
  obtain ⟨h0, h1, h2, h3⟩ := right_head h
  rw [BndT]
  refine ⟨by omega, ?_⟩
  have parts : ∀ (ts : List Tm), (∀ x ∈ ts, ∀ v d : Int, rightT wo p v d x = true → v - d ≤ 1099511627777 → BndT x) → ∀ i, rightTs wo p v d k i ts = true → BndTs ts := by
    intro ts
    induction ts with
    | nil => intro _ _ _; simp [BndTs]
    | cons t ts iht =>
      intro hx i hr
      rw [rightTs, Bool.and_eq_true] at hr
      rw [BndTs]
      exact ⟨hx t (by simp) _ _ hr.1 (by omega), iht (fun x hm => hx x (by simp [hm])) _ hr.2⟩
  exact parts a ih 0 h3
theorem rightP_parts {p v : Int} {t : Tm} (h : rightP p v t = true) : (0 ≤ p ∧ p ≤ 4 ∧ 0 ≤ v ∧ v ≤ 1099511627776) ∧ nodesT t ≤ 3000 ∧ rightT wordB p v 0 t = true := by
  unfold rightP at h
  simp only [Bool.and_eq_true, decide_eq_true_eq] at h
  obtain ⟨⟨⟨⟨h1, h2⟩, h3⟩, h4⟩, h5, h6⟩ := h
  exact ⟨⟨h1, h2, h3, h4⟩, h5, h6⟩
theorem rightP_bnd {t : Tm} (h : rightP 4 1099511627776 t = true) : BndT t := right_bnd t _ 0 (rightP_parts h).2.2 (by omega)
theorem Builds.no {r : Option Tm} {w w' : World} {e : Ending} (hb : Below w.heap.size w w') (hr : r = none) (he : Fell e) : Builds r w e w' := by subst hr; exact ⟨hb, he⟩
theorem Builds.yes {r : Option Tm} {t : Tm} {w w' : World} {e : Ending} {cs : List Value} (hb : Below w.heap.size w w') (hr : r = some t) (he : e = .returned (.agg cs.toArray)) (ht : TmAt (List.range w.heap.size) w' t cs) : Builds r w e w' := by subst hr; exact ⟨hb, cs, he, ht⟩
theorem Builds.cases {r : Option Tm} {w w' : World} {e : Ending} (h : Builds r w e w') : Below w.heap.size w w' ∧ ((∃ t cs, r = some t ∧ e = .returned (.agg cs.toArray) ∧ TmAt (List.range w.heap.size) w' t cs) ∨ (r = none ∧ Fell e)) := by
  obtain ⟨hb, hr⟩ := h
  cases r with
  | none => exact ⟨hb, .inr ⟨rfl, hr⟩⟩
  | some t => obtain ⟨cs, h1, h2⟩ := hr; exact ⟨hb, .inl ⟨t, cs, rfl, h1, h2⟩⟩
/-- What a closure makes of a node off the blocks below B. -/
def Made (r : Option Tm) (B : Nat) (w : World) (e : Ending) (w' : World) : Prop := Below w.heap.size w w' ∧ match r with
  | some t => ∃ cs, e = .returned (.agg cs.toArray) ∧ TmAt (List.range B) w' t cs
  | none => Fell e
theorem Made.no {r : Option Tm} {B : Nat} {w w' : World} {e : Ending} (hb : Below w.heap.size w w') (hr : r = none) (he : Fell e) : Made r B w e w' := by subst hr; exact ⟨hb, he⟩
theorem Made.yes {r : Option Tm} {t : Tm} {B : Nat} {w w' : World} {e : Ending} {cs : List Value} (hb : Below w.heap.size w w') (hr : r = some t) (he : e = .returned (.agg cs.toArray)) (ht : TmAt (List.range B) w' t cs) : Made r B w e w' := by subst hr; exact ⟨hb, cs, he, ht⟩
/-- A closure without a state. -/
theorem Swap.of {g : Tm → Int → Option Tm} {gf : FuncId} {lb : Array Value} {I : World → Prop} {E : Nat} (fn : ∀ args w, (callFunc gf args).run Try.prog w = .ok (.enter gf args) w) (keep : ∀ w w', I w → E ≤ w.heap.size → Bel [] E w w' → I w')
    (call : ∀ (t : Tm) (d : Int) (cs : List Value) (w : World) (B : Nat), t.args = [] → SmT t → (0 ≤ t.n ∧ t.n ≤ 1125899906842624) → (0 ≤ d ∧ d ≤ 1125899906842624) → TmAt (List.range B) w t cs → E ≤ B → B ≤ w.heap.size → I w → (∃ lv av, cs = [.int .i64 t.kind, .int .i64 t.n, strT t.name, lv, av] ∧ RowL B w lv t.levels) → Calls Try.prog gf (#[.agg cs.toArray, .int .i64 d] ++ lb) w (Made (g t d) B w)) :
    Swap (fun (_ : Unit) t d => (g t d).map fun r => ((), r)) gf lb (fun _ => I) [] E where
  fn := fn
  low := fun k hk => by cases hk
  keep := fun s w w' => keep w w'
  call := fun s t d cs w B ha hs hn hd ht hE hB hI ho => (call t d cs w B ha hs hn hd ht hE hB hI ho).mono fun e w' h => by
    obtain ⟨hb, hr⟩ := h
    refine ⟨Bel.of (hb.mono hB), ?_⟩
    cases hg : g t d with
    | none => rw [hg] at hr; exact hr
    | some r => rw [hg] at hr; obtain ⟨cs', h1, h2⟩ := hr; exact ⟨cs', h1, h2, keep w w' hI (Nat.le_trans hE hB) (Bel.of (hb.mono (Nat.le_trans hE hB)))⟩
end Go.Proofs.Ytndbpmkglddjjaa
