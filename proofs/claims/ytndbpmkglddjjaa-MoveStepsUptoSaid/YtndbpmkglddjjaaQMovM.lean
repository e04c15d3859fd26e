/- A term rebuilt node by node, plain. -/
import Derived.Test.YtndbpmkglddjjaaQMovL0
namespace Go.Proofs.Ytndbpmkglddjjaa
open Go Go.RowKit
mutual
/-- All numbers of a term are small. -/
def BndT : Tm → Prop
  | .mk _ n _ _ a => (0 ≤ n ∧ n ≤ 1125899906842624) ∧ BndTs a
def BndTs : List Tm → Prop
  | [] => True
  | t :: ts => BndT t ∧ BndTs ts
end
theorem BndTs.mem : ∀ {a : List Tm} {x : Tm}, BndTs a → x ∈ a → BndT x
  | t :: ts, x, h, hx => by
    rw [BndTs] at h
    rcases List.mem_cons.1 hx with rfl | hx
    · exact h.1
    · exact BndTs.mem h.2 hx
mutual
/-- A term with other nodes: g makes one of a node (without its parts) in so many binders, and hands on a state. -/
def rebT {σ : Type} (g : σ → Tm → Int → Option (σ × Tm)) (s : σ) (d : Int) : Tm → Option (σ × Tm)
  | .mk k n nm l a => match g s (.mk k n nm l []) d with
    | none => none
    | some (s1, r) => if a.length = 0 then some (s1, r) else (rebTs g s1 d k a.length 0 a).map fun p => (p.1, .mk r.kind r.n r.name r.levels p.2)
def rebTs {σ : Type} (g : σ → Tm → Int → Option (σ × Tm)) (s : σ) (d k : Int) (N i : Nat) : List Tm → Option (σ × List Tm)
  | [] => some (s, [])
  | t :: ts => match rebT g s (d + moreD k i N) t with
    | none => none
    | some (s1, x) => (rebTs g s1 d k N (i + 1) ts).map fun p => (p.1, x :: p.2)
end
theorem rebTs_append {σ : Type} {g : σ → Tm → Int → Option (σ × Tm)} {d k : Int} {N : Nat} : ∀ (ts us : List Tm) (s : σ) (i : Nat), rebTs g s d k N i (ts ++ us) = match rebTs g s d k N i ts with
    | none => none
    | some (s1, xs) => (rebTs g s1 d k N (i + ts.length) us).map fun p => (p.1, xs ++ p.2)
  | [], us, s, i => by
    rw [List.nil_append, rebTs]
    cases h : rebTs g s d k N i us <;> simp [h]
  | t :: ts, us, s, i => by
    rw [List.cons_append, rebTs, rebTs]
    cases h : rebT g s (d + moreD k i N) t with
    | none => rfl
    | some p =>
      obtain ⟨s1, x⟩ := p
      simp only
      rw [rebTs_append ts us s1 (i + 1)]
      cases h2 : rebTs g s1 d k N (i + 1) ts with
      | none => rfl
      | some p2 =>
        obtain ⟨s2, xs⟩ := p2
        simp only [Option.map_some]
        rw [show i + 1 + ts.length = i + (t :: ts).length by simp; omega]
        cases rebTs g s2 d k N (i + (t :: ts).length) us <;> rfl
/-- One part more. -/
theorem rebTs_more {σ : Type} {g : σ → Tm → Int → Option (σ × Tm)} {d k : Int} {N : Nat} {a : List Tm} {i : Nat} {x y : Tm} {s si s2 : σ} {xs : List Tm} (h : rebTs g s d k N 0 (a.take i) = some (si, xs)) (hx : a.take (i + 1) = a.take i ++ [x]) (hl : (a.take i).length = i)
    (hy : rebT g si (d + moreD k i N) x = some (s2, y)) : rebTs g s d k N 0 (a.take (i + 1)) = some (s2, xs ++ [y]) := by
  rw [hx, rebTs_append, h]
  simp only
  rw [hl, Nat.zero_add, rebTs, hy]
  simp [rebTs]
/-- A part that falls. -/
theorem rebTs_fall {σ : Type} {g : σ → Tm → Int → Option (σ × Tm)} {d k : Int} {N : Nat} {a : List Tm} {i : Nat} {x : Tm} {s si : σ} {xs : List Tm} (h : rebTs g s d k N 0 (a.take i) = some (si, xs)) (hx : a.take (i + 1) = a.take i ++ [x]) (hl : (a.take i).length = i)
    (hy : rebT g si (d + moreD k i N) x = none) : rebTs g s d k N 0 a = none := by
  have h1 : rebTs g s d k N 0 (a.take (i + 1)) = none := by
    rw [hx, rebTs_append, h]
    simp only
    rw [hl, Nat.zero_add, rebTs, hy]
    rfl
  rw [← List.take_append_drop (i + 1) a, rebTs_append, h1]
theorem rebT_none {σ : Type} {g : σ → Tm → Int → Option (σ × Tm)} {s : σ} {d k n : Int} {nm : List UInt8} {l : List Lv} {a : List Tm} (h : g s (.mk k n nm l []) d = none) : rebT g s d (.mk k n nm l a) = none := by rw [rebT, h]
theorem rebT_leaf {σ : Type} {g : σ → Tm → Int → Option (σ × Tm)} {s s1 : σ} {r : Tm} {d k n : Int} {nm : List UInt8} {l : List Lv} {a : List Tm} (h : g s (.mk k n nm l []) d = some (s1, r)) (ha : a.length = 0) : rebT g s d (.mk k n nm l a) = some (s1, r) := by rw [rebT, h]; simp [ha]
theorem rebT_node {σ : Type} {g : σ → Tm → Int → Option (σ × Tm)} {s s1 s2 : σ} {r : Tm} {d k n : Int} {nm : List UInt8} {l : List Lv} {a xs : List Tm} (h : g s (.mk k n nm l []) d = some (s1, r)) (ha : ¬ a.length = 0) (hx : rebTs g s1 d k a.length 0 a = some (s2, xs)) : rebT g s d (.mk k n nm l a) = some (s2, .mk r.kind r.n r.name r.levels xs) := by
  rw [rebT, h]
  simp [ha, hx]
theorem rebT_fall {σ : Type} {g : σ → Tm → Int → Option (σ × Tm)} {s s1 : σ} {r : Tm} {d k n : Int} {nm : List UInt8} {l : List Lv} {a : List Tm} (h : g s (.mk k n nm l []) d = some (s1, r)) (ha : ¬ a.length = 0) (hx : rebTs g s1 d k a.length 0 a = none) : rebT g s d (.mk k n nm l a) = none := by
  rw [rebT, h]
  simp [ha, hx]
/-- A closure that makes nodes as g does, in a memory of which I is said, writing into the blocks G alone; what I speaks of lies below E. -/
structure Swap {σ : Type} (g : σ → Tm → Int → Option (σ × Tm)) (gf : FuncId) (lb : Array Value) (I : σ → World → Prop) (G : List Nat) (E : Nat) : Prop where
  fn : ∀ args w, (callFunc gf args).run Try.prog w = .ok (.enter gf args) w
  low : ∀ k ∈ G, k < E
  keep : ∀ s w w', I s w → E ≤ w.heap.size → Bel [] E w w' → I s w'
  call : ∀ (s : σ) (t : Tm) (d : Int) (cs : List Value) (w : World) (B : Nat), t.args = [] → SmT t → (0 ≤ t.n ∧ t.n ≤ 1125899906842624) → (0 ≤ d ∧ d ≤ 1125899906842624) → TmAt (List.range B) w t cs → E ≤ B → B ≤ w.heap.size → I s w → (∃ lv av, cs = [.int .i64 t.kind, .int .i64 t.n, strT t.name, lv, av] ∧ RowL B w lv t.levels) →
    Calls Try.prog gf (#[.agg cs.toArray, .int .i64 d] ++ lb) w fun e w' => Bel G B w w' ∧ match g s t d with
      | some (s', r) => ∃ cs', e = .returned (.agg cs'.toArray) ∧ TmAt (List.range B) w' r cs' ∧ I s' w'
      | none => Fell e
/-- What rebuiltInside comes to. -/
structure RebOk {σ : Type} (I : σ → World → Prop) (m : Nat) (s : σ) (r : Tm) (e : Ending) (w' : World) : Prop where
  out : ∃ cs', e = .returned (.agg cs'.toArray) ∧ TmAt (List.range m) w' r cs' ∧ I s w'
def Reb {σ : Type} (RT : Option (σ × Tm)) (I : σ → World → Prop) (G : List Nat) (m : Nat) (w : World) (e : Ending) (w' : World) : Prop := Bel G m w w' ∧ match RT with
  | some (s', r) => RebOk I m s' r e w'
  | none => Fell e
theorem Reb.no {σ : Type} {RT : Option (σ × Tm)} {I : σ → World → Prop} {G : List Nat} {m : Nat} {w w' : World} {e : Ending} (h : Bel G m w w') (hr : RT = none) (he : Fell e) : Reb RT I G m w e w' := by subst hr; exact ⟨h, he⟩
theorem Reb.yes {σ : Type} {RT : Option (σ × Tm)} {I : σ → World → Prop} {G : List Nat} {m : Nat} {w w' : World} {e : Ending} {s' : σ} {r : Tm} {cs' : List Value} (h : Bel G m w w') (hr : RT = some (s', r)) (he : e = .returned (.agg cs'.toArray)) (ht : TmAt (List.range m) w' r cs') (hI : I s' w') : Reb RT I G m w e w' := by subst hr; exact ⟨h, ⟨_, he, ht, hI⟩⟩
end Go.Proofs.Ytndbpmkglddjjaa
