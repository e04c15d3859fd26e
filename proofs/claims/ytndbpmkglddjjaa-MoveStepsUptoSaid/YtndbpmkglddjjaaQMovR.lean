/- A term with other leaves, plain: what shifting and putting in come to where they succeed. -/
import Derived.Test.YtndbpmkglddjjaaQMovF
namespace Go.Proofs.Ytndbpmkglddjjaa
open Go Go.RowKit
mutual
/-- Other leaves (nodes without parts), by how many binders stand around them. -/
def mapT (f : Tm → Int → Tm) (d : Int) : Tm → Tm
  | .mk k n s l a => if a.length = 0 then f (.mk k n s l []) d else .mk k n s l (mapTs f d k a.length 0 a)
def mapTs (f : Tm → Int → Tm) (d k : Int) (N i : Nat) : List Tm → List Tm
  | [] => []
  | t :: ts => mapT f (d + moreD k i N) t :: mapTs f d k N (i + 1) ts
end
mutual
/-- Of every leaf P; a node with parts is no variable. -/
def AllT (P : Tm → Int → Prop) (d : Int) : Tm → Prop
  | .mk k n s l a => (a.length = 0 → P (.mk k n s l []) d) ∧ (a.length ≠ 0 → k ≠ 1) ∧ AllTs P d k a.length 0 a
def AllTs (P : Tm → Int → Prop) (d k : Int) (N i : Nat) : List Tm → Prop
  | [] => True
  | t :: ts => AllT P (d + moreD k i N) t ∧ AllTs P d k N (i + 1) ts
end
theorem mapTs_len {f : Tm → Int → Tm} {d k : Int} {N : Nat} : ∀ (ts : List Tm) (i : Nat), (mapTs f d k N i ts).length = ts.length
  | [], _ => by rw [mapTs]
  | t :: ts, i => by rw [mapTs, List.length_cons, List.length_cons, mapTs_len ts (i + 1)]
theorem map_leaf (f : Tm → Int → Tm) (d k n : Int) (s : List UInt8) (l : List Lv) : mapT f d (.mk k n s l []) = f (.mk k n s l []) d := by rw [mapT]; rfl
mutual
theorem all_mono {P Q : Tm → Int → Prop} (h : ∀ x e, P x e → Q x e) : ∀ (t : Tm) (d : Int), AllT P d t → AllT Q d t
  | .mk k n s l a, d, ht => by
    rw [AllT] at ht ⊢
    exact ⟨fun h0 => h _ _ (ht.1 h0), ht.2.1, alls_mono h a d k a.length 0 ht.2.2⟩
theorem alls_mono {P Q : Tm → Int → Prop} (h : ∀ x e, P x e → Q x e) : ∀ (ts : List Tm) (d k : Int) (N i : Nat), AllTs P d k N i ts → AllTs Q d k N i ts
  | [], _, _, _, _, _ => by rw [AllTs]; trivial
  | t :: ts, d, k, N, i, ht => by
    rw [AllTs] at ht ⊢
    exact ⟨all_mono h t _ ht.1, alls_mono h ts d k N (i + 1) ht.2⟩
end
mutual
/-- One behind the other. -/
theorem map_comp {f1 f2 f3 : Tm → Int → Tm} {c : Int} : ∀ (t : Tm) (d : Int), AllT (fun x e => mapT f2 (c + e) (f1 x e) = f3 x e) d t → mapT f2 (c + d) (mapT f1 d t) = mapT f3 d t
  | .mk k n s l a, d, h => by
    rw [AllT] at h
    rw [mapT, mapT]
    by_cases ha : a.length = 0
    · rw [if_pos ha, if_pos ha, h.1 ha]
    · rw [if_neg ha, if_neg ha, mapT, mapTs_len, if_neg ha, maps_comp a d k a.length 0 h.2.2]
theorem maps_comp {f1 f2 f3 : Tm → Int → Tm} {c : Int} : ∀ (ts : List Tm) (d k : Int) (N i : Nat), AllTs (fun x e => mapT f2 (c + e) (f1 x e) = f3 x e) d k N i ts → mapTs f2 (c + d) k N i (mapTs f1 d k N i ts) = mapTs f3 d k N i ts
  | [], _, _, _, _, _ => by rw [mapTs, mapTs, mapTs]
  | t :: ts, d, k, N, i, h => by
    rw [AllTs] at h
    rw [mapTs, mapTs, mapTs, ← map_comp t _ h.1, maps_comp ts d k N (i + 1) h.2, Int.add_assoc]
end
mutual
/-- .. whatever the state, if it succeeds. -/
theorem reb_val {σ : Type} {g : σ → Tm → Int → Option (σ × Tm)} {f : Tm → Int → Tm} (hin : ∀ st k n s l e st' r, k ≠ 1 → g st (.mk k n s l []) e = some (st', r) → r = .mk k n s l []) : ∀ (t : Tm) (d : Int) (st st' : σ) (r : Tm), AllT (fun x e => ∀ st st' r, g st x e = some (st', r) → r = f x e) d t → rebT g st d t = some (st', r) → r = mapT f d t
  | .mk k n s l a, d, st, st', r, h, hr => by
    rw [AllT] at h
    rw [rebT] at hr
    rw [mapT]
    cases h1 : g st (.mk k n s l []) d with
    | none => rw [h1] at hr; cases hr
    | some p =>
      obtain ⟨s1, r1⟩ := p
      rw [h1] at hr
      simp only at hr
      by_cases ha : a.length = 0
      · rw [if_pos ha] at hr ⊢
        cases hr
        exact h.1 ha _ _ _ h1
      · rw [if_neg ha] at hr ⊢
        cases h2 : rebTs g s1 d k a.length 0 a with
        | none => rw [h2] at hr; cases hr
        | some p2 =>
          obtain ⟨s2, ys⟩ := p2
          rw [h2] at hr
          cases hr
          rw [hin _ _ _ _ _ _ _ _ (h.2.1 ha) h1, rebs_val hin a d k a.length 0 _ _ _ h.2.2 h2]
          rfl
theorem rebs_val {σ : Type} {g : σ → Tm → Int → Option (σ × Tm)} {f : Tm → Int → Tm} (hin : ∀ st k n s l e st' r, k ≠ 1 → g st (.mk k n s l []) e = some (st', r) → r = .mk k n s l []) : ∀ (ts : List Tm) (d k : Int) (N i : Nat) (st st' : σ) (rs : List Tm), AllTs (fun x e => ∀ st st' r, g st x e = some (st', r) → r = f x e) d k N i ts → rebTs g st d k N i ts = some (st', rs) → rs = mapTs f d k N i ts
  | [], _, _, _, _, _, _, _, _, hr => by
    rw [rebTs] at hr
    rw [mapTs]
    cases hr
    rfl
  | t :: ts, d, k, N, i, st, st', rs, h, hr => by
    rw [AllTs] at h
    rw [rebTs] at hr
    rw [mapTs]
    cases h1 : rebT g st (d + moreD k i N) t with
    | none => rw [h1] at hr; cases hr
    | some p =>
      obtain ⟨s1, x⟩ := p
      rw [h1] at hr
      simp only at hr
      cases h2 : rebTs g s1 d k N (i + 1) ts with
      | none => rw [h2] at hr; cases hr
      | some p2 =>
        obtain ⟨s2, ys⟩ := p2
        rw [h2] at hr
        cases hr
        rw [reb_val hin t _ _ _ _ h.1 h1, rebs_val hin ts d k N (i + 1) _ _ _ h.2 h2]
end
theorem more_eq {k : Int} {i N : Nat} (h : N = argsOf k) : moreD k i N = moreT k i := by
  subst h
  unfold moreD moreT argsOf
  (repeat' split) <;> omega
theorem right_args {wo : List UInt8 → Bool} {p v deep k n : Int} {s : List UInt8} {l : List Lv} {a : List Tm} (h : rightT wo p v deep (.mk k n s l a) = true) : a.length = argsOf k ∧ headT wo p deep k n s l a.length = true ∧ (k = 1 → n < v) ∧ rightTs wo p v deep k 0 a = true := by
  simp only [rightT, Bool.and_eq_true] at h
  obtain ⟨⟨h1, h2⟩, h3⟩ := h
  refine ⟨?_, h1, fun hk => by simpa [hk] using h2, h3⟩
  simp only [headT, Bool.and_eq_true, decide_eq_true_eq] at h1
  exact h1.1.1.1.1.1.2
/-- A right leaf in e binders more. -/
def LeafR (p v deep d : Int) (x : Tm) (e : Int) : Prop := x.args = [] ∧ rightT wordB p (v + (e - d)) (deep + (e - d)) x = true
mutual
theorem all_right9 {p v deep d0 : Int} : ∀ (t : Tm) (d : Int), rightT wordB p (v + (d - d0)) (deep + (d - d0)) t = true → AllT (LeafR p v deep d0) d t
  | .mk k n s l a, d, h => by
    obtain ⟨h1, h2, h3, h4⟩ := right_args h
    rw [AllT]
    refine ⟨fun ha => ⟨rfl, ?_⟩, fun ha hk => ?_, alls_right9 a d k a.length 0 h1 h4⟩
    · rw [List.eq_nil_of_length_eq_zero ha] at h
      exact h
    · subst hk
      exact ha (by rw [h1]; rfl)
theorem alls_right9 {p v deep d0 : Int} : ∀ (ts : List Tm) (d k : Int) (N i : Nat), N = argsOf k → rightTs wordB p (v + (d - d0)) (deep + (d - d0)) k i ts = true → AllTs (LeafR p v deep d0) d k N i ts
  | [], _, _, _, _, _, _ => by rw [AllTs]; trivial
  | t :: ts, d, k, N, i, hN, h => by
    rw [rightTs, Bool.and_eq_true] at h
    rw [AllTs, more_eq hN]
    refine ⟨all_right9 t _ ?_, alls_right9 ts d k N (i + 1) hN h.2⟩
    rw [show v + (d + moreT k i - d0) = v + (d - d0) + moreT k i by omega, show deep + (d + moreT k i - d0) = deep + (d - d0) + moreT k i by omega]
    exact h.1
end
/-- A leaf shifted. -/
def shF (b : Int) (x : Tm) (e : Int) : Tm := (shN b 0 x e).getD x
theorem shN_no {b e k n : Int} {s : List UInt8} {l : List Lv} (h : ¬ (k = 1 ∧ 0 ≤ n - e)) : shN b 0 (.mk k n s l []) e = some (.mk k n s l []) := if_neg h
theorem shN_yes {b e k n : Int} {s : List UInt8} {l : List Lv} (hk : k = 1) (h0 : 0 ≤ n - e) (h1 : 0 ≤ n + b - e) : shN b 0 (.mk k n s l []) e = some (.mk k (n + b) s l []) := (if_pos ⟨hk, h0⟩).trans (if_pos h1)
theorem shF_no {b e k n : Int} {s : List UInt8} {l : List Lv} (h : ¬ (k = 1 ∧ 0 ≤ n - e)) : shF b (.mk k n s l []) e = .mk k n s l [] := by rw [shF, shN_no h]; rfl
theorem shF_yes {b e k n : Int} {s : List UInt8} {l : List Lv} (hk : k = 1) (h0 : 0 ≤ n - e) (h1 : 0 ≤ n + b - e) : shF b (.mk k n s l []) e = .mk k (n + b) s l [] := by rw [shF, shN_yes hk h0 h1]; rfl
theorem shG_in {b : Int} (k n : Int) (s : List UInt8) (l : List Lv) (e : Int) (h : k ≠ 1) : shG b 0 () (.mk k n s l []) e = some ((), .mk k n s l []) := by simp [shG, shN, Tm.kind, h]
theorem leaf_eq {x : Tm} (h : x.args = []) : ∃ k n s l, x = .mk k n s l [] := by
  obtain ⟨k, n, s, l, a⟩ := x
  exact ⟨k, n, s, l, by rw [show a = [] from h]⟩
theorem puN_in {xa : List Tm} {st : Int} (k n : Int) (s : List UInt8) (l : List Lv) (e : Int) (h : k ≠ 1) : puN xa st (.mk k n s l []) e = some (st, .mk k n s l []) := if_pos (.inl h)
theorem puN_low {xa : List Tm} {st k n e : Int} {s : List UInt8} {l : List Lv} (h : ¬ (k = 1 ∧ 0 ≤ n - e)) : puN xa st (.mk k n s l []) e = some (st, .mk k n s l []) := if_pos (by show k ≠ 1 ∨ (xa.length : Int) ≤ (xa.length : Int) - 1 - (n - e); omega)
theorem puN_high {xa : List Tm} {st k n e : Int} {s : List UInt8} {l : List Lv} (hk : k = 1) (h : (xa.length : Int) ≤ n - e) : puN xa st (.mk k n s l []) e = some (st, .mk k (n - (xa.length : Int)) s l []) :=
  (if_neg (by show ¬ (k ≠ 1 ∨ (xa.length : Int) ≤ (xa.length : Int) - 1 - (n - e)); omega)).trans (if_pos (by show (xa.length : Int) - 1 - (n - e) < 0; omega))
end Go.Proofs.Ytndbpmkglddjjaa
