/- A term with other leaves, plain: what shifting and putting in come to where they succeed. -/
import Derived.Test.YtndbpmkglddjjaaQMovF
namespace Go.Proofs.Ytndbpmkglddjjaa
open Go Go.RowKit
mutual
/-- Other leaves (nodes without parts), by how many binders stand around them. -/
def mapT (f : Tm → Int → Tm) (d : Int) : Tm → Tm
  | .mk k n s l a => if a.length = 0 then f (.mk k n s l []) d else .mk k n s l (mapTs f d k a.length 0 a)
def mapTs (f : Tm → Int → Tm) (d k : Int) (N i : Nat) : List Tm → List Tm
  | [] => []
  | t :: ts => mapT f (d + moreD k i N) t :: mapTs f d k N (i + 1) ts
end
mutual
/-- Of every leaf P; a node with parts is no variable. -/
def AllT (P : Tm → Int → Prop) (d : Int) : Tm → Prop
  | .mk k n s l a => (a.length = 0 → P (.mk k n s l []) d) ∧ (a.length ≠ 0 → k ≠ 1) ∧ AllTs P d k a.length 0 a
def AllTs (P : Tm → Int → Prop) (d k : Int) (N i : Nat) : List Tm → Prop
  | [] => True
  | t :: ts => AllT P (d + moreD k i N) t ∧ AllTs P d k N (i + 1) ts
end
theorem mapTs_len {f : Tm → Int → Tm} {d k : Int} {N : Nat} : ∀ (ts : List Tm) (i : Nat), (mapTs f d k N i ts).length = ts.length
  | [], _ => by rw [mapTs]
  | t :: ts, i => by rw [mapTs, List.length_cons, List.length_cons, mapTs_len ts (i + 1)]
theorem map_leaf (f : Tm → Int → Tm) (d k n : Int) (s : List UInt8) (l : List Lv) : mapT f d (.mk k n s l []) = f (.mk k n s l []) d := by rw [mapT]; rfl
theorem all_leaf {P : Tm → Int → Prop} {d k n : Int} {s : List UInt8} {l : List Lv} (h : P (.mk k n s l []) d) : AllT P d (.mk k n s l []) := by
  rw [AllT]
  exact ⟨fun _ => h, fun h => absurd rfl h, by rw [AllTs]; trivial⟩
mutual
theorem all_mono {P Q : Tm → Int → Prop} (h : ∀ x e, P x e → Q x e) : ∀ (t : Tm) (d : Int), AllT P d t → AllT Q d t
  | .mk k n s l a, d, ht => by
    rw [AllT] at ht ⊢
    exact ⟨fun h0 => h _ _ (ht.1 h0), ht.2.1, alls_mono h a d k a.length 0 ht.2.2⟩
theorem alls_mono {P Q : Tm → Int → Prop} (h : ∀ x e, P x e → Q x e) : ∀ (ts : List Tm) (d k : Int) (N i : Nat), AllTs P d k N i ts → AllTs Q d k N i ts
  | [], _, _, _, _, _ => by rw [AllTs]; trivial
  | t :: ts, d, k, N, i, ht => by
    rw [AllTs] at ht ⊢
    exact ⟨all_mono h t _ ht.1, alls_mono h ts d k N (i + 1) ht.2⟩
end
mutual
theorem map_id {f : Tm → Int → Tm} : ∀ (t : Tm) (d : Int), AllT (fun x e => f x e = x) d t → mapT f d t = t
  | .mk k n s l a, d, h => by
    rw [AllT] at h
    rw [mapT]
    by_cases ha : a.length = 0
    · rw [if_pos ha, h.1 ha, List.eq_nil_of_length_eq_zero ha]
    · rw [if_neg ha, maps_id a d k a.length 0 h.2.2]
theorem maps_id {f : Tm → Int → Tm} : ∀ (ts : List Tm) (d k : Int) (N i : Nat), AllTs (fun x e => f x e = x) d k N i ts → mapTs f d k N i ts = ts
  | [], _, _, _, _, _ => by rw [mapTs]
  | t :: ts, d, k, N, i, h => by
    rw [AllTs] at h
    rw [mapTs, map_id t _ h.1, maps_id ts d k N (i + 1) h.2]
end
mutual
/-- One behind the other. -/
theorem map_comp {f1 f2 f3 : Tm → Int → Tm} {c : Int} : ∀ (t : Tm) (d : Int), AllT (fun x e => mapT f2 (c + e) (f1 x e) = f3 x e) d t → mapT f2 (c + d) (mapT f1 d t) = mapT f3 d t
  | .mk k n s l a, d, h => by
    rw [AllT] at h
    rw [mapT, mapT]
    by_cases ha : a.length = 0
    · rw [if_pos ha, if_pos ha, h.1 ha]
    · rw [if_neg ha, if_neg ha, mapT, mapTs_len, if_neg ha, maps_comp a d k a.length 0 h.2.2]
theorem maps_comp {f1 f2 f3 : Tm → Int → Tm} {c : Int} : ∀ (ts : List Tm) (d k : Int) (N i : Nat), AllTs (fun x e => mapT f2 (c + e) (f1 x e) = f3 x e) d k N i ts → mapTs f2 (c + d) k N i (mapTs f1 d k N i ts) = mapTs f3 d k N i ts
  | [], _, _, _, _, _ => by rw [mapTs, mapTs, mapTs]
  | t :: ts, d, k, N, i, h => by
    rw [AllTs] at h
    rw [mapTs, mapTs, mapTs, ← map_comp t _ h.1, maps_comp ts d k N (i + 1) h.2, Int.add_assoc]
end
mutual
/-- What holds of the leaves' leaves holds of the whole's. -/
theorem all_map {P : Tm → Int → Prop} {f : Tm → Int → Tm} : ∀ (t : Tm) (d : Int), AllT (fun x e => AllT P e (f x e)) d t → AllT P d (mapT f d t)
  | .mk k n s l a, d, h => by
    rw [AllT] at h
    rw [mapT]
    by_cases ha : a.length = 0
    · rw [if_pos ha]
      exact h.1 ha
    · rw [if_neg ha, AllT, mapTs_len]
      exact ⟨fun h => absurd h ha, h.2.1, alls_map a d k a.length 0 h.2.2⟩
theorem alls_map {P : Tm → Int → Prop} {f : Tm → Int → Tm} : ∀ (ts : List Tm) (d k : Int) (N i : Nat), AllTs (fun x e => AllT P e (f x e)) d k N i ts → AllTs P d k N i (mapTs f d k N i ts)
  | [], _, _, _, _, _ => by rw [mapTs, AllTs]; trivial
  | t :: ts, d, k, N, i, h => by
    rw [AllTs] at h
    rw [mapTs, AllTs]
    exact ⟨all_map t _ h.1, alls_map ts d k N (i + 1) h.2⟩
end
mutual
/-- A term rebuilt is that with other leaves, if all are so. -/
theorem reb_map {σ : Type} {g : σ → Tm → Int → Option (σ × Tm)} {f : Tm → Int → Tm} {st : σ} (hin : ∀ k n s l e, k ≠ 1 → g st (.mk k n s l []) e = some (st, .mk k n s l [])) : ∀ (t : Tm) (d : Int), AllT (fun x e => g st x e = some (st, f x e)) d t → rebT g st d t = some (st, mapT f d t)
  | .mk k n s l a, d, h => by
    rw [AllT] at h
    rw [rebT, mapT]
    by_cases ha : a.length = 0
    · rw [h.1 ha]
      simp only [ha, if_true]
    · rw [hin k n s l d (h.2.1 ha)]
      simp only [ha, if_false, rebs_map hin a d k a.length 0 h.2.2]
      rfl
theorem rebs_map {σ : Type} {g : σ → Tm → Int → Option (σ × Tm)} {f : Tm → Int → Tm} {st : σ} (hin : ∀ k n s l e, k ≠ 1 → g st (.mk k n s l []) e = some (st, .mk k n s l [])) : ∀ (ts : List Tm) (d k : Int) (N i : Nat), AllTs (fun x e => g st x e = some (st, f x e)) d k N i ts → rebTs g st d k N i ts = some (st, mapTs f d k N i ts)
  | [], _, _, _, _, _ => by rw [rebTs, mapTs]
  | t :: ts, d, k, N, i, h => by
    rw [AllTs] at h
    rw [rebTs, mapTs, reb_map hin t _ h.1]
    simp only [rebs_map hin ts d k N (i + 1) h.2]
    rfl
end
theorem more_eq {k : Int} {i N : Nat} (h : N = argsOf k) : moreD k i N = moreT k i := by
  subst h
  unfold moreD moreT argsOf
  (repeat' split) <;> omega
theorem right_args {wo : List UInt8 → Bool} {p v deep k n : Int} {s : List UInt8} {l : List Lv} {a : List Tm} (h : rightT wo p v deep (.mk k n s l a) = true) : a.length = argsOf k ∧ headT wo p deep k n s l a.length = true ∧ (k = 1 → n < v) ∧ rightTs wo p v deep k 0 a = true := by
  simp only [rightT, Bool.and_eq_true] at h
  obtain ⟨⟨h1, h2⟩, h3⟩ := h
  refine ⟨?_, h1, fun hk => by simpa [hk] using h2, h3⟩
  simp only [headT, Bool.and_eq_true, decide_eq_true_eq] at h1
  exact h1.1.1.1.1.1.2
/-- A right leaf in e binders more. -/
def LeafR (p v deep d : Int) (x : Tm) (e : Int) : Prop := x.args = [] ∧ rightT wordB p (v + (e - d)) (deep + (e - d)) x = true
mutual
theorem all_right9 {p v deep d0 : Int} : ∀ (t : Tm) (d : Int), rightT wordB p (v + (d - d0)) (deep + (d - d0)) t = true → AllT (LeafR p v deep d0) d t
  | .mk k n s l a, d, h => by
    obtain ⟨h1, h2, h3, h4⟩ := right_args h
    rw [AllT]
    refine ⟨fun ha => ⟨rfl, ?_⟩, fun ha hk => ?_, alls_right9 a d k a.length 0 h1 h4⟩
    · rw [List.eq_nil_of_length_eq_zero ha] at h
      exact h
    · subst hk
      exact ha (by rw [h1]; rfl)
theorem alls_right9 {p v deep d0 : Int} : ∀ (ts : List Tm) (d k : Int) (N i : Nat), N = argsOf k → rightTs wordB p (v + (d - d0)) (deep + (d - d0)) k i ts = true → AllTs (LeafR p v deep d0) d k N i ts
  | [], _, _, _, _, _, _ => by rw [AllTs]; trivial
  | t :: ts, d, k, N, i, hN, h => by
    rw [rightTs, Bool.and_eq_true] at h
    rw [AllTs, more_eq hN]
    refine ⟨all_right9 t _ ?_, alls_right9 ts d k N (i + 1) hN h.2⟩
    rw [show v + (d + moreT k i - d0) = v + (d - d0) + moreT k i by omega, show deep + (d + moreT k i - d0) = deep + (d - d0) + moreT k i by omega]
    exact h.1
end
mutual
/-- With right leaves a right term stays right. -/
theorem right_map {p v v' deep d0 : Int} {f : Tm → Int → Tm} : ∀ (t : Tm) (d : Int), rightT wordB p (v + (d - d0)) (deep + (d - d0)) t = true → AllT (fun x e => rightT wordB p (v' + (e - d0)) (deep + (e - d0)) (f x e) = true) d t → rightT wordB p (v' + (d - d0)) (deep + (d - d0)) (mapT f d t) = true
  | .mk k n s l a, d, h, hf => by
    obtain ⟨h1, h2, h3, h4⟩ := right_args h
    rw [AllT] at hf
    rw [mapT]
    by_cases ha : a.length = 0
    · rw [if_pos ha]
      exact hf.1 ha
    · rw [if_neg ha]
      simp only [rightT, Bool.and_eq_true, mapTs_len]
      exact ⟨⟨h2, by simp [hf.2.1 ha]⟩, rights_map a d k a.length 0 h1 h4 hf.2.2⟩
theorem rights_map {p v v' deep d0 : Int} {f : Tm → Int → Tm} : ∀ (ts : List Tm) (d k : Int) (N i : Nat), N = argsOf k → rightTs wordB p (v + (d - d0)) (deep + (d - d0)) k i ts = true → AllTs (fun x e => rightT wordB p (v' + (e - d0)) (deep + (e - d0)) (f x e) = true) d k N i ts → rightTs wordB p (v' + (d - d0)) (deep + (d - d0)) k i (mapTs f d k N i ts) = true
  | [], _, _, _, _, _, _, _ => by rw [mapTs, rightTs]
  | t :: ts, d, k, N, i, hN, h, hf => by
    rw [rightTs, Bool.and_eq_true] at h
    rw [AllTs, more_eq hN] at hf
    rw [mapTs, rightTs, Bool.and_eq_true, more_eq hN]
    refine ⟨?_, rights_map ts d k N (i + 1) hN h.2 hf.2⟩
    have := right_map t (d + moreT k i) (v := v) (v' := v') (deep := deep) (d0 := d0) (f := f) (by rw [show v + (d + moreT k i - d0) = v + (d - d0) + moreT k i by omega, show deep + (d + moreT k i - d0) = deep + (d - d0) + moreT k i by omega]; exact h.1) hf.1
    rw [show v' + (d + moreT k i - d0) = v' + (d - d0) + moreT k i by omega, show deep + (d + moreT k i - d0) = deep + (d - d0) + moreT k i by omega] at this
    exact this
end
mutual
/-- Leaves of the same weight: a term of the same weight. -/
theorem nodes_map {f : Tm → Int → Tm} : ∀ (t : Tm) (d : Int), AllT (fun x e => nodesT (f x e) = nodesT x) d t → nodesT (mapT f d t) = nodesT t
  | .mk k n s l a, d, h => by
    rw [AllT] at h
    rw [mapT]
    by_cases ha : a.length = 0
    · rw [if_pos ha, h.1 ha, List.eq_nil_of_length_eq_zero ha]
    · rw [if_neg ha, nodesT, nodesT, nodess_map a d k a.length 0 h.2.2]
theorem nodess_map {f : Tm → Int → Tm} : ∀ (ts : List Tm) (d k : Int) (N i : Nat), AllTs (fun x e => nodesT (f x e) = nodesT x) d k N i ts → nodesTs (mapTs f d k N i ts) = nodesTs ts
  | [], _, _, _, _, _ => by rw [mapTs]
  | t :: ts, d, k, N, i, h => by
    rw [AllTs] at h
    rw [mapTs, nodesTs, nodesTs, nodes_map t _ h.1, nodess_map ts d k N (i + 1) h.2]
end
/-- A right leaf's number is a variable's, or stays. -/
theorem LeafR.num {p v deep d0 e k n : Int} {s : List UInt8} {l : List Lv} (h : LeafR p v deep d0 (.mk k n s l []) e) : 0 ≤ n ∧ (k = 1 → n < v + (e - d0)) := ⟨(right_head h.2).1, (right_args h.2).2.2.1⟩
/-- A variable of another number is right if it is small. -/
theorem LeafR.with {p v v' deep d0 e n n' : Int} {s : List UInt8} {l : List Lv} (h : LeafR p v deep d0 (.mk 1 n s l []) e) (h0 : 0 ≤ n') (h1 : n' < v' + (e - d0)) : rightT wordB p (v' + (e - d0)) (deep + (e - d0)) (.mk 1 n' s l []) = true := by
  obtain ⟨h2, h3, h4, h5⟩ := right_args h.2
  simp only [rightT, Bool.and_eq_true]
  refine ⟨⟨?_, by simp [h1]⟩, by rw [rightTs]⟩
  simp only [headT, Bool.and_eq_true, decide_eq_true_eq] at h3 ⊢
  obtain ⟨⟨⟨h6, h7⟩, h8⟩, h9⟩ := h3
  exact ⟨⟨⟨h6, h7⟩, h0⟩, by simp⟩
theorem LeafR.other {p v v' deep d0 e k n : Int} {s : List UInt8} {l : List Lv} (h : LeafR p v deep d0 (.mk k n s l []) e) (hk : k ≠ 1) : rightT wordB p (v' + (e - d0)) (deep + (e - d0)) (.mk k n s l []) = true := by
  obtain ⟨h2, h3, h4, h5⟩ := right_args h.2
  simp only [rightT, Bool.and_eq_true]
  exact ⟨⟨h3, by simp [hk]⟩, by rw [rightTs]⟩
/-- A leaf shifted. -/
def shF (b : Int) (x : Tm) (e : Int) : Tm := (shN b 0 x e).getD x
theorem shN_no {b e k n : Int} {s : List UInt8} {l : List Lv} (h : ¬ (k = 1 ∧ 0 ≤ n - e)) : shN b 0 (.mk k n s l []) e = some (.mk k n s l []) := if_neg h
theorem shN_yes {b e k n : Int} {s : List UInt8} {l : List Lv} (hk : k = 1) (h0 : 0 ≤ n - e) (h1 : 0 ≤ n + b - e) : shN b 0 (.mk k n s l []) e = some (.mk k (n + b) s l []) := (if_pos ⟨hk, h0⟩).trans (if_pos h1)
theorem shF_no {b e k n : Int} {s : List UInt8} {l : List Lv} (h : ¬ (k = 1 ∧ 0 ≤ n - e)) : shF b (.mk k n s l []) e = .mk k n s l [] := by rw [shF, shN_no h]; rfl
theorem shF_yes {b e k n : Int} {s : List UInt8} {l : List Lv} (hk : k = 1) (h0 : 0 ≤ n - e) (h1 : 0 ≤ n + b - e) : shF b (.mk k n s l []) e = .mk k (n + b) s l [] := by rw [shF, shN_yes hk h0 h1]; rfl
theorem shG_in {b : Int} (k n : Int) (s : List UInt8) (l : List Lv) (e : Int) (h : k ≠ 1) : shG b 0 () (.mk k n s l []) e = some ((), .mk k n s l []) := by simp [shG, shN, Tm.kind, h]
/-- Shifted where it succeeds. -/
theorem shO_map {b : Int} {t : Tm} (h : AllT (fun x e => ∃ k n s l, x = .mk k n s l [] ∧ (k = 1 → 0 ≤ n - e → 0 ≤ n + b - e)) 0 t) : shO b 0 t = some (mapT (shF b) 0 t) := by
  unfold shO
  rw [reb_map (f := shF b) shG_in t 0 (all_mono (fun x e hx => ?_) t 0 h)]
  · rfl
  · obtain ⟨k, n, s, l, rfl, hx⟩ := hx
    by_cases hk : k = 1 ∧ 0 ≤ n - e
    · rw [shF_yes hk.1 hk.2 (hx hk.1 hk.2)]
      rw [shG, shN_yes hk.1 hk.2 (hx hk.1 hk.2)]
      rfl
    · rw [shF_no hk, shG, shN_no hk]
      rfl
theorem leaf_eq {x : Tm} (h : x.args = []) : ∃ k n s l, x = .mk k n s l [] := by
  obtain ⟨k, n, s, l, a⟩ := x
  exact ⟨k, n, s, l, by rw [show a = [] from h]⟩
/-- What is said of the statement's terms. -/
theorem back_shift {t : Tm} {b : Int} (hr : rightP 4 1099511627776 t = true) (hl : looseT 0 t ≤ 549755813888) (h0 : 0 ≤ b) (h1 : b ≤ 1000) : shiftO b 0 t = some (mapT (shF b) 0 t) ∧ rightP 4 1099511627776 (mapT (shF b) 0 t) = true ∧ shiftO (-b) 0 (mapT (shF b) 0 t) = some t := by
  obtain ⟨-, hn, hr0⟩ := rightP_parts hr
  have hr1 : rightT wordB 4 549755813888 0 t = true := right_loose t _ 549755813888 0 0 hr0 hl
  have AR : AllT (LeafR 4 549755813888 0 0) 0 t := all_right9 t 0 (by simpa using hr1)
  have e1 : shO b 0 t = some (mapT (shF b) 0 t) := shO_map (all_mono (fun x e hx => by
    obtain ⟨k, n, s, l, rfl⟩ := leaf_eq hx.1
    exact ⟨k, n, s, l, rfl, fun _ _ => by omega⟩) t 0 AR)
  have r1 : rightP 4 1099511627776 (mapT (shF b) 0 t) = true := by
    have a1 : nodesT (mapT (shF b) 0 t) = nodesT t := nodes_map t 0 (all_mono (fun x e hx => by
      obtain ⟨k, n, s, l, rfl⟩ := leaf_eq hx.1
      by_cases hk : k = 1 ∧ 0 ≤ n - e
      · rw [shF_yes hk.1 hk.2 (by omega), nodesT, nodesT]
      · rw [shF_no hk]) t 0 AR)
    have a2 := right_map (p := 4) (v := 549755813888) (v' := 1099511627776) (deep := 0) (d0 := 0) (f := shF b) t 0 (by simpa using hr1) (all_mono (fun x e hx => by
      obtain ⟨k, n, s, l, rfl⟩ := leaf_eq hx.1
      have hn := hx.num
      by_cases hk1 : k = 1
      · subst hk1
        by_cases hk : 0 ≤ n - e
        · rw [shF_yes rfl hk (by omega)]
          exact hx.with (by omega) (by have := hn.2 rfl; omega)
        · rw [shF_no (fun h => hk h.2)]
          exact hx.with (by omega) (by have := hn.2 rfl; omega)
      · rw [shF_no (fun h => hk1 h.1)]
        exact hx.other hk1) t 0 AR)
    unfold rightP
    rw [a1]
    simp only [Bool.and_eq_true, decide_eq_true_eq]
    exact ⟨by decide, hn, by simpa using a2⟩
  refine ⟨?_, r1, ?_⟩
  · unfold shiftO
    rw [if_pos ⟨⟨⟨by omega, by omega⟩, by omega, by omega⟩, hr⟩, e1, okO_yes r1]
  · have AM : AllT (fun x e => ∃ k n s l, x = .mk k n s l [] ∧ (k = 1 → 0 ≤ n - e → 0 ≤ n + -b - e)) 0 (mapT (shF b) 0 t) := all_map t 0 (all_mono (fun x e hx => by
      obtain ⟨k, n, s, l, rfl⟩ := leaf_eq hx.1
      by_cases hk : k = 1 ∧ 0 ≤ n - e
      · rw [shF_yes hk.1 hk.2 (by omega)]
        exact all_leaf ⟨_, _, _, _, rfl, fun _ _ => by omega⟩
      · rw [shF_no hk]
        exact all_leaf ⟨_, _, _, _, rfl, fun h2 h3 => absurd ⟨h2, h3⟩ hk⟩) t 0 AR)
    have e2 : mapT (shF (-b)) 0 (mapT (shF b) 0 t) = t := by
      have := map_comp (f1 := shF b) (f2 := shF (-b)) (f3 := fun x _ => x) (c := 0) t 0 (all_mono (fun x e hx => by
        obtain ⟨k, n, s, l, rfl⟩ := leaf_eq hx.1
        rw [Int.zero_add]
        by_cases hk : k = 1 ∧ 0 ≤ n - e
        · rw [shF_yes hk.1 hk.2 (by omega), map_leaf, shF_yes hk.1 (by omega) (by omega), show n + b + -b = n by omega]
        · rw [shF_no hk, map_leaf, shF_no hk]) t 0 AR)
      rw [Int.zero_add] at this
      rw [this]
      exact map_id t 0 (all_mono (fun _ _ _ => rfl) t 0 AR)
    unfold shiftO
    rw [if_pos ⟨⟨⟨by omega, by omega⟩, by omega, by omega⟩, r1⟩, shO_map AM, e2, okO_yes hr]
/-- A leaf of a term that was shifted, with terms put in for so many. -/
def puF (N : Int) (x : Tm) (e : Int) : Tm := if x.kind = 1 ∧ 0 ≤ x.n - e then .mk x.kind (x.n - N) x.name x.levels x.args else x
theorem puF_no {N e k n : Int} {s : List UInt8} {l : List Lv} (h : ¬ (k = 1 ∧ 0 ≤ n - e)) : puF N (.mk k n s l []) e = .mk k n s l [] := if_neg h
theorem puF_yes {N e k n : Int} {s : List UInt8} {l : List Lv} (hk : k = 1) (h0 : 0 ≤ n - e) : puF N (.mk k n s l []) e = .mk k (n - N) s l [] := if_pos ⟨hk, h0⟩
theorem puN_in {xa : List Tm} {st : Int} (k n : Int) (s : List UInt8) (l : List Lv) (e : Int) (h : k ≠ 1) : puN xa st (.mk k n s l []) e = some (st, .mk k n s l []) := if_pos (.inl h)
theorem puN_low {xa : List Tm} {st k n e : Int} {s : List UInt8} {l : List Lv} (h : ¬ (k = 1 ∧ 0 ≤ n - e)) : puN xa st (.mk k n s l []) e = some (st, .mk k n s l []) := if_pos (by show k ≠ 1 ∨ (xa.length : Int) ≤ (xa.length : Int) - 1 - (n - e); omega)
theorem puN_high {xa : List Tm} {st k n e : Int} {s : List UInt8} {l : List Lv} (hk : k = 1) (h : (xa.length : Int) ≤ n - e) : puN xa st (.mk k n s l []) e = some (st, .mk k (n - (xa.length : Int)) s l []) :=
  (if_neg (by show ¬ (k ≠ 1 ∨ (xa.length : Int) ≤ (xa.length : Int) - 1 - (n - e)); omega)).trans (if_pos (by show (xa.length : Int) - 1 - (n - e) < 0; omega))
theorem back_put {t : Tm} {xa : List Tm} (hr : rightP 4 1099511627776 t = true) (hl : looseT 0 t ≤ 549755813888) (hx : ∀ x ∈ xa, rightP 4 1099511627776 x = true) (hN : xa.length ≤ 12) : putO xa (mapT (shF xa.length) 0 t) = some t := by
  obtain ⟨b, hb⟩ : ∃ b : Int, b = xa.length := ⟨_, rfl⟩
  have hp := (back_shift (b := b) hr hl (by omega) (by omega)).2.1
  rw [← hb]
  obtain ⟨-, hn, hr0⟩ := rightP_parts hr
  have hr1 : rightT wordB 4 549755813888 0 t = true := right_loose t _ 549755813888 0 0 hr0 hl
  have AR : AllT (LeafR 4 549755813888 0 0) 0 t := all_right9 t 0 (by simpa using hr1)
  obtain ⟨S, hS⟩ : ∃ S, 3000 - cntT (mapT (shF b) 0 t) = S := ⟨_, rfl⟩
  have AM : AllT (fun x e => puN xa S x e = some (S, puF b x e)) 0 (mapT (shF b) 0 t) := all_map t 0 (all_mono (fun x e hx => by
    obtain ⟨k, n, s, l, rfl⟩ := leaf_eq hx.1
    by_cases hk : k = 1 ∧ 0 ≤ n - e
    · rw [shF_yes hk.1 hk.2 (by omega)]
      exact all_leaf (by rw [puN_high hk.1 (by omega), puF_yes hk.1 (by omega), hb])
    · rw [shF_no hk]
      exact all_leaf (by rw [puN_low hk, puF_no hk])) t 0 AR)
  have e2 : mapT (puF b) 0 (mapT (shF b) 0 t) = t := by
    have := map_comp (f1 := shF b) (f2 := puF b) (f3 := fun x _ => x) (c := 0) t 0 (all_mono (fun x e hx => by
      obtain ⟨k, n, s, l, rfl⟩ := leaf_eq hx.1
      rw [Int.zero_add]
      by_cases hk : k = 1 ∧ 0 ≤ n - e
      · rw [shF_yes hk.1 hk.2 (by omega), map_leaf, puF_yes hk.1 (by omega), show n + b - b = n by omega]
      · rw [shF_no hk, map_leaf, puF_no hk]) t 0 AR)
    rw [Int.zero_add] at this
    rw [this]
    exact map_id t 0 (all_mono (fun _ _ _ => rfl) t 0 AR)
  unfold putO puO
  rw [if_pos ⟨hx, hp⟩, hS, reb_map (f := puF b) puN_in _ 0 AM, e2]
  exact okO_yes hr
end Go.Proofs.Ytndbpmkglddjjaa
