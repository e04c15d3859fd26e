/- Terms as plain trees: what layer 8's chapter says of them, and what its statements ask. -/
import Derived.Test.YtndbpmkglddjjaaTrmG
namespace Go.Proofs.Ytndbpmkglddjjaa
open Go Go.RowKit
set_option maxRecDepth 100000

def letterB (c : UInt8) : Bool := (decide (97 ≤ c.toNat) && decide (c.toNat ≤ 122)) || (decide (65 ≤ c.toNat) && decide (c.toNat ≤ 90))
def digitB (c : UInt8) : Bool := decide (48 ≤ c.toNat) && decide (c.toNat ≤ 57)
/-- Are these bytes parts of a name, where the last one began (b: one begins now)? -/
def partsB : Bool → List UInt8 → Bool
  | b, [] => !b
  | true, c :: cs => letterB c && partsB false cs
  | false, c :: cs => if c = 46 then partsB true cs else (letterB c || digitB c || decide (c = 95)) && partsB false cs
/-- How many Args a kind has. -/
def argsOf (k : Int) : Nat := if k = 5 ∨ k = 6 ∨ k = 7 then 2 else if k = 8 then 3 else if k = 9 then 1 else 0
/-- One more in the part of place i of a binder. -/
def moreT (k : Int) (i : Nat) : Int := if ((k = 6 ∨ k = 7) ∧ i = 1) ∨ (k = 8 ∧ i = 2) then 1 else 0
theorem more_01 (k : Int) (i : Nat) : 0 ≤ moreT k i ∧ moreT k i ≤ 1 := by unfold moreT; split <;> omega
theorem more_var (i : Nat) : moreT 1 i = 0 := by simp [moreT]
mutual
def nodesT : Tm → Nat
  | .mk _ _ _ l a => 1 + l.length + nodesTs a
def nodesTs : List Tm → Nat
  | [] => 0
  | t :: ts => nodesT t + nodesTs ts
end
/-- What is asked of a node but for its number and its parts: it hangs on neither the variables nor the parameters but by its levels' width. -/
def headT (wordOk : List UInt8 → Bool) (p deep k n : Int) (s : List UInt8) (l : List Lv) (a : Nat) : Bool :=
  decide (1 ≤ k) && decide (k ≤ 9) && decide (deep ≤ 200) && decide (a = argsOf k) && (if k = 3 then decide (l.length = 1) else if k = 4 then decide (l.length ≤ 4) else decide (l.length = 0)) &&
    l.all (fun x => rightL x && decide ((widthL x : Int) ≤ p)) && (if k = 4 ∨ k = 9 then wordOk s else decide (s = [])) && decide (0 ≤ n) && (if k = 9 then decide (n ≤ 31) else if k = 1 then true else decide (n = 0))
mutual
def rightT (wordOk : List UInt8 → Bool) (p v deep : Int) : Tm → Bool
  | .mk k n s l a => headT wordOk p deep k n s l a.length && (decide (k ≠ 1) || decide (n < v)) && rightTs wordOk p v deep k 0 a
def rightTs (wordOk : List UInt8 → Bool) (p v deep k : Int) (i : Nat) : List Tm → Bool
  | [] => true
  | t :: ts => rightT wordOk p (v + moreT k i) (deep + moreT k i) t && rightTs wordOk p v deep k (i + 1) ts
end
mutual
def looseT (deep : Int) : Tm → Int
  | .mk k n _ _ a => if k = 1 then max (n - deep + 1) 0 else looseTs deep k 0 a
def looseTs (deep k : Int) (i : Nat) : List Tm → Int
  | [] => 0
  | t :: ts => max (looseT (deep + moreT k i) t) (looseTs deep k (i + 1) ts)
end
mutual
def usesT (x deep : Int) : Tm → Int
  | .mk k n _ _ a => (if k = 1 ∧ n = x + deep then 1 else 0) + usesTs x deep k 0 a
def usesTs (x deep k : Int) (i : Nat) : List Tm → Int
  | [] => 0
  | t :: ts => usesT x (deep + moreT k i) t + usesTs x deep k (i + 1) ts
end
theorem head_mono {wo : List UInt8 → Bool} {p p' deep k n : Int} {s : List UInt8} {l : List Lv} {a : Nat} (hp : p ≤ p') (h : headT wo p deep k n s l a = true) : headT wo p' deep k n s l a = true := by
  simp only [headT, Bool.and_eq_true, List.all_eq_true] at h ⊢
  obtain ⟨⟨⟨⟨h1, h2⟩, h3⟩, h4⟩, h5⟩ := h
  refine ⟨⟨⟨⟨h1, fun x hx => ?_⟩, h3⟩, h4⟩, h5⟩
  have := h2 x hx
  simp only [decide_eq_true_eq] at this ⊢
  exact ⟨this.1, by omega⟩
mutual
theorem right_mono {wo : List UInt8 → Bool} {p p' : Int} (hp : p ≤ p') : ∀ (t : Tm) (v v' deep : Int), v ≤ v' → rightT wo p v deep t = true → rightT wo p' v' deep t = true
  | .mk k n s l a, v, v', deep, hv, h => by
    simp only [rightT, Bool.and_eq_true] at h ⊢
    obtain ⟨⟨h1, h2⟩, h3⟩ := h
    refine ⟨⟨head_mono hp h1, ?_⟩, rights_mono hp a k 0 v v' deep hv h3⟩
    simp only [Bool.or_eq_true, decide_eq_true_eq] at h2 ⊢
    omega
theorem rights_mono {wo : List UInt8 → Bool} {p p' : Int} (hp : p ≤ p') : ∀ (ts : List Tm) (k : Int) (i : Nat) (v v' deep : Int), v ≤ v' → rightTs wo p v deep k i ts = true → rightTs wo p' v' deep k i ts = true
  | [], _, _, _, _, _, _, _ => by rw [rightTs]
  | t :: ts, k, i, v, v', deep, hv, h => by
    simp only [rightTs, Bool.and_eq_true] at h ⊢
    exact ⟨right_mono hp t _ _ _ (by omega) h.1, rights_mono hp ts k (i + 1) v v' deep hv h.2⟩
end
mutual
theorem loose_nonneg : ∀ (t : Tm) (d : Int), 0 ≤ looseT d t
  | .mk k n s l a, d => by
    rw [looseT]
    split
    · omega
    · exact looses_nonneg a d k 0
theorem looses_nonneg : ∀ (ts : List Tm) (d k : Int) (i : Nat), 0 ≤ looseTs d k i ts
  | [], _, _, _ => by rw [looseTs]; omega
  | t :: ts, d, k, i => by
    rw [looseTs]
    have := loose_nonneg t (d + moreT k i)
    omega
end
/-- A variable has no parts. -/
theorem var_args {wo : List UInt8 → Bool} {p deep n : Int} {s : List UInt8} {l : List Lv} {a : List Tm} (h : headT wo p deep 1 n s l a.length = true) : a = [] := by
  simp only [headT, Bool.and_eq_true, decide_eq_true_eq] at h
  have := h.1.1.1.1.1.2
  exact List.eq_nil_of_length_eq_zero (by rw [this]; rfl)
mutual
/-- A right term needs no more variables than it is right for. -/
theorem loose_le {wo : List UInt8 → Bool} {p : Int} : ∀ (t : Tm) (u d deep : Int), 0 ≤ u → rightT wo p (u + d) deep t = true → looseT d t ≤ u
  | .mk k n s l a, u, d, deep, hu, h => by
    simp only [rightT, Bool.and_eq_true] at h
    obtain ⟨⟨h1, h2⟩, h3⟩ := h
    rw [looseT]
    split
    · simp only [Bool.or_eq_true, decide_eq_true_eq] at h2
      omega
    · exact looses_le a k 0 u d deep hu h3
theorem looses_le {wo : List UInt8 → Bool} {p : Int} : ∀ (ts : List Tm) (k : Int) (i : Nat) (u d deep : Int), 0 ≤ u → rightTs wo p (u + d) deep k i ts = true → looseTs d k i ts ≤ u
  | [], _, _, _, _, _, hu, _ => by rw [looseTs]; exact hu
  | t :: ts, k, i, u, d, deep, hu, h => by
    simp only [rightTs, Bool.and_eq_true] at h
    have h1 := loose_le t u (d + moreT k i) (deep + moreT k i) hu (by rw [show u + (d + moreT k i) = u + d + moreT k i by omega]; exact h.1)
    have h2 := looses_le ts k (i + 1) u d deep hu h.2
    rw [looseTs]
    omega
end
mutual
/-- .. and is right for just so many. -/
theorem right_loose {wo : List UInt8 → Bool} {p : Int} : ∀ (t : Tm) (v u d deep : Int), rightT wo p v deep t = true → looseT d t ≤ u → rightT wo p (u + d) deep t = true
  | .mk k n s l a, v, u, d, deep, h, hl => by
    simp only [rightT, Bool.and_eq_true] at h ⊢
    obtain ⟨⟨h1, h2⟩, h3⟩ := h
    rw [looseT] at hl
    by_cases hk : k = 1
    · subst hk
      rw [if_pos rfl] at hl
      refine ⟨⟨h1, ?_⟩, ?_⟩
      · simp only [Bool.or_eq_true, decide_eq_true_eq]
        omega
      · rw [var_args h1, rightTs]
    · rw [if_neg hk] at hl
      refine ⟨⟨h1, ?_⟩, rights_loose a k 0 v u d deep h3 hl⟩
      simp only [Bool.or_eq_true, decide_eq_true_eq]
      exact .inl hk
theorem rights_loose {wo : List UInt8 → Bool} {p : Int} : ∀ (ts : List Tm) (k : Int) (i : Nat) (v u d deep : Int), rightTs wo p v deep k i ts = true → looseTs d k i ts ≤ u → rightTs wo p (u + d) deep k i ts = true
  | [], _, _, _, _, _, _, _, _ => by rw [rightTs]
  | t :: ts, k, i, v, u, d, deep, h, hl => by
    simp only [rightTs, Bool.and_eq_true] at h ⊢
    rw [looseTs] at hl
    refine ⟨?_, rights_loose ts k (i + 1) v u d deep h.2 (by omega)⟩
    have h1 := right_loose t _ u (d + moreT k i) (deep + moreT k i) h.1 (by omega)
    rw [show u + d + moreT k i = u + (d + moreT k i) by omega]
    exact h1
end
mutual
theorem uses_nonneg : ∀ (t : Tm) (x d : Int), 0 ≤ usesT x d t
  | .mk k n s l a, x, d => by
    rw [usesT]
    have := usess_nonneg a x d k 0
    split <;> omega
theorem usess_nonneg : ∀ (ts : List Tm) (x d k : Int) (i : Nat), 0 ≤ usesTs x d k i ts
  | [], _, _, _, _ => by rw [usesTs]; omega
  | t :: ts, x, d, k, i => by
    rw [usesTs]
    have := uses_nonneg t x (d + moreT k i)
    have := usess_nonneg ts x d k (i + 1)
    omega
end
mutual
/-- The last variable that it needs occurs. -/
theorem loose_use : ∀ (t : Tm) (m d : Int), 0 ≤ m → looseT d t = m + 1 → 0 < usesT m d t
  | .mk k n s l a, m, d, hm, h => by
    rw [looseT] at h
    rw [usesT]
    have := usess_nonneg a m d k 0
    by_cases hk : k = 1
    · rw [if_pos hk] at h
      rw [if_pos ⟨hk, by omega⟩]
      omega
    · rw [if_neg hk] at h
      have := looses_use a k 0 m d hm h
      split <;> omega
theorem looses_use : ∀ (ts : List Tm) (k : Int) (i : Nat) (m d : Int), 0 ≤ m → looseTs d k i ts = m + 1 → 0 < usesTs m d k i ts
  | [], _, _, _, _, hm, h => by rw [looseTs] at h; omega
  | t :: ts, k, i, m, d, hm, h => by
    rw [looseTs] at h
    rw [usesTs]
    have h1 := uses_nonneg t m (d + moreT k i)
    have h2 := usess_nonneg ts m d k (i + 1)
    by_cases e : looseT (d + moreT k i) t = m + 1
    · have := loose_use t m (d + moreT k i) hm e
      omega
    · have := looses_use ts k (i + 1) m d hm (by omega)
      omega
end
/-- Not right for fewer. -/
theorem not_right {wo : List UInt8 → Bool} {p : Int} {t : Tm} {m : Int} (hm : 0 ≤ m) (h : looseT 0 t = m + 1) : rightT wo p m 0 t = false := by
  rw [Bool.eq_false_iff]
  intro hr
  have := loose_le (p := p) t m 0 0 hm (by rw [Int.add_zero]; exact hr)
  omega
def appT (f : Tm) : List Tm → Tm
  | [] => f
  | t :: ts => appT (.mk 5 0 [] [] [f, t]) ts
def bindT (k : Int) (body : Tm) : List Tm → Tm
  | [] => body
  | t :: ts => .mk k 0 [] [] [t, bindT k body ts]
/-- The head, and what it is applied to. -/
def spineT : Tm → Tm × List Tm
  | .mk 5 _ _ _ [f, x] => ((spineT f).1, (spineT f).2 ++ [x])
  | t => (t, [])
/-- The binders of a kind that a term begins with, and what is behind them. -/
def stripT (k : Int) : Tm → List Tm × Tm
  | .mk k' n s l [ty, b] => if k' = k then (ty :: (stripT k b).1, (stripT k b).2) else ([], .mk k' n s l [ty, b])
  | t => ([], t)
theorem app_snoc (f : Tm) : ∀ (ts : List Tm) (x : Tm), appT f (ts ++ [x]) = .mk 5 0 [] [] [appT f ts, x]
  | [], _ => rfl
  | t :: ts, x => app_snoc (.mk 5 0 [] [] [f, t]) ts x
theorem spine_node (f x : Tm) (n : Int) (s : List UInt8) (l : List Lv) : spineT (.mk 5 n s l [f, x]) = ((spineT f).1, (spineT f).2 ++ [x]) := by rw [spineT]
theorem spine_app : ∀ (ts : List Tm) (f : Tm), spineT (appT f ts) = ((spineT f).1, (spineT f).2 ++ ts)
  | [], f => by simp [appT]
  | t :: ts, f => by
    rw [appT, spine_app ts]
    rw [spine_node]
    simp
theorem strip_node (k : Int) (ty b : Tm) (n : Int) (s : List UInt8) (l : List Lv) : stripT k (.mk k n s l [ty, b]) = (ty :: (stripT k b).1, (stripT k b).2) := by rw [stripT, if_pos rfl]
theorem strip_bind (k : Int) (body : Tm) : ∀ ts : List Tm, stripT k (bindT k body ts) = (ts ++ (stripT k body).1, (stripT k body).2)
  | [] => rfl
  | t :: ts => by
    rw [bindT, strip_node, strip_bind k body ts]
    rfl
theorem strip_other {k : Int} {t : Tm} (h : t.kind ≠ k) : stripT k t = ([], t) := by
  unfold stripT
  split
  · next k' n s l ty b =>
    have h' : k' ≠ k := h
    rw [if_neg h']
  · rfl
theorem spine_other {t : Tm} (h : t.kind ≠ 5) : spineT t = (t, []) := by
  unfold spineT
  split
  · exact absurd rfl h
  · rfl
/-- A right node of two parts and no name is nothing but its parts. -/
theorem right_two {wo : List UInt8 → Bool} {p v d k n : Int} {s : List UInt8} {l : List Lv} {a : List Tm} (hk : k = 5 ∨ k = 6 ∨ k = 7) (h : rightT wo p v d (.mk k n s l a) = true) : ∃ f x, a = [f, x] ∧ n = 0 ∧ s = [] ∧ l = [] ∧ rightT wo p (v + moreT k 0) (d + moreT k 0) f = true ∧ rightT wo p (v + moreT k 1) (d + moreT k 1) x = true := by
  simp only [rightT, Bool.and_eq_true] at h
  obtain ⟨⟨h1, -⟩, h3⟩ := h
  simp only [headT, Bool.and_eq_true] at h1
  obtain ⟨⟨⟨⟨⟨⟨⟨⟨-, -⟩, -⟩, h4⟩, h5⟩, -⟩, h7⟩, -⟩, h9⟩ := h1
  have ha : a.length = 2 := by
    have := of_decide_eq_true h4
    rw [this, argsOf, if_pos hk]
  rw [if_neg (by omega), if_neg (by omega)] at h5
  rw [if_neg (by omega)] at h7
  rw [if_neg (by omega), if_neg (by omega)] at h9
  match a, ha with
  | [f, x], _ =>
    simp only [rightTs, Bool.and_eq_true] at h3
    exact ⟨f, x, rfl, of_decide_eq_true h9, of_decide_eq_true h7, List.eq_nil_of_length_eq_zero (of_decide_eq_true h5), h3.1, h3.2.1⟩
/-- A right term is its head, applied to its arguments; the head is no application. -/
theorem app_spine {wo : List UInt8 → Bool} {p : Int} : ∀ (t : Tm) (v d : Int), rightT wo p v d t = true → appT (spineT t).1 (spineT t).2 = t ∧ (spineT t).1.kind ≠ 5
  | .mk k n s l a, v, d, h => by
    by_cases hk : k = 5
    · subst hk
      obtain ⟨f, x, rfl, rfl, rfl, rfl, hf, -⟩ := right_two (.inl rfl) h
      rw [spine_node]
      have ih := app_spine f _ _ hf
      exact ⟨by rw [app_snoc, ih.1], ih.2⟩
    · rw [spine_other (t := .mk k n s l a) hk]
      exact ⟨rfl, hk⟩
/-- A right term is its binders around what is behind them, which begins with none of the kind. -/
theorem bind_strip {wo : List UInt8 → Bool} {p k : Int} (hk : k = 6 ∨ k = 7) : ∀ (t : Tm) (v d : Int), rightT wo p v d t = true → bindT k (stripT k t).2 (stripT k t).1 = t ∧ (stripT k t).2.kind ≠ k
  | .mk k' n s l a, v, d, h => by
    by_cases e : k' = k
    · subst e
      obtain ⟨ty, b, rfl, rfl, rfl, rfl, -, hb⟩ := right_two (.inr hk) h
      rw [strip_node]
      have ih := bind_strip hk b _ _ hb
      exact ⟨by rw [bindT, ih.1], ih.2⟩
    · rw [strip_other (t := .mk k' n s l a) e]
      exact ⟨rfl, e⟩
end Go.Proofs.Ytndbpmkglddjjaa
