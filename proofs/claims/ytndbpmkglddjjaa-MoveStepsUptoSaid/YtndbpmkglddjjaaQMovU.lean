/- Terms put in one behind the other, plain: they come to what they come to at once. -/
import Derived.Test.YtndbpmkglddjjaaQMovR
namespace Go.Proofs.Ytndbpmkglddjjaa
open Go Go.RowKit
mutual
theorem all_ge {P : Tm → Int → Prop} {d0 : Int} : ∀ (t : Tm) (d : Int), d0 ≤ d → AllT P d t → AllT (fun x e => P x e ∧ d0 ≤ e) d t
  | .mk k n s l a, d, hd, h => by
    rw [AllT] at h ⊢
    exact ⟨fun ha => ⟨h.1 ha, hd⟩, h.2.1, alls_ge a d k a.length 0 hd h.2.2⟩
theorem alls_ge {P : Tm → Int → Prop} {d0 : Int} : ∀ (ts : List Tm) (d k : Int) (N i : Nat), d0 ≤ d → AllTs P d k N i ts → AllTs (fun x e => P x e ∧ d0 ≤ e) d k N i ts
  | [], _, _, _, _, _, _ => by rw [AllTs]; trivial
  | t :: ts, d, k, N, i, hd, h => by
    rw [AllTs] at h ⊢
    have hm : 0 ≤ moreD k i N := by unfold moreD; split <;> omega
    exact ⟨all_ge t _ (by omega) h.1, alls_ge ts d k N (i + 1) hd h.2⟩
end
/-- What stands in place of a leaf where terms are put in. -/
def putF (xa : List Tm) (x : Tm) (e : Int) : Tm :=
  if x.kind = 1 ∧ 0 ≤ x.n - e then
    (if (xa.length : Int) ≤ x.n - e then .mk x.kind (x.n - (xa.length : Int)) x.name x.levels x.args
     else match xa[((xa.length : Int) - 1 - (x.n - e)).toNat]? with
      | none => x
      | some y => mapT (shF e) 0 y)
  else x
theorem putF_no {xa : List Tm} {e k n : Int} {s : List UInt8} {l : List Lv} (h : ¬ (k = 1 ∧ 0 ≤ n - e)) : putF xa (.mk k n s l []) e = .mk k n s l [] := if_neg h
theorem putF_high {xa : List Tm} {e k n : Int} {s : List UInt8} {l : List Lv} (hk : k = 1) (h0 : 0 ≤ n - e) (h : (xa.length : Int) ≤ n - e) : putF xa (.mk k n s l []) e = .mk k (n - (xa.length : Int)) s l [] := (if_pos ⟨hk, h0⟩).trans (if_pos h)
theorem putF_at {xa : List Tm} {e k n : Int} {s : List UInt8} {l : List Lv} {y : Tm} {j : Nat} (hk : k = 1) (h0 : 0 ≤ n - e) (h : n - e < (xa.length : Int)) (hj : (xa.length : Int) - 1 - (n - e) = j) (hy : xa[j]? = some y) : putF xa (.mk k n s l []) e = mapT (shF e) 0 y := by
  refine (if_pos ⟨hk, h0⟩).trans ((if_neg (by show ¬ ((xa.length : Int) ≤ n - e); omega)).trans ?_)
  show (match xa[((xa.length : Int) - 1 - (n - e)).toNat]? with | none => Tm.mk k n s l [] | some y => mapT (shF e) 0 y) = _
  rw [hj, Int.toNat_natCast, hy]
theorem puN_at {xa : List Tm} {st k n e : Int} {s : List UInt8} {l : List Lv} (hk : k = 1) (h0 : 0 ≤ n - e) (h : n - e < (xa.length : Int)) : puN xa st (.mk k n s l []) e = match xa[((xa.length : Int) - 1 - (n - e)).toNat]? with
    | none => none
    | some x => if 0 ≤ st - (cntT x - 1) then (shO e 0 x).map fun r => (st - (cntT x - 1), r) else none :=
  (if_neg (by show ¬ (k ≠ 1 ∨ (xa.length : Int) ≤ (xa.length : Int) - 1 - (n - e)); omega)).trans (if_neg (by show ¬ ((xa.length : Int) - 1 - (n - e) < 0); omega))
/-- A term that is right has no variable with parts. -/
theorem all_right0 {t : Tm} (h : rightP 4 1099511627776 t = true) : AllT (LeafR 4 1099511627776 0 0) 0 t := all_right9 t 0 (by have := (rightP_parts h).2.2; simpa using this)
theorem shO_val {b : Int} {y r : Tm} (hy : rightP 4 1099511627776 y = true) (h : shO b 0 y = some r) : r = mapT (shF b) 0 y := by
  unfold shO at h
  cases h1 : rebT (shG b 0) () 0 y with
  | none => rw [h1] at h; cases h
  | some p =>
    obtain ⟨st, r1⟩ := p
    rw [h1] at h
    cases h
    refine reb_val (f := shF b) (fun st k n s l e st' r hk hg => ?_) y 0 () st _ (all_mono (fun x e hx st st' r hg => ?_) y 0 (all_right0 hy)) h1
    · rw [shG_in k n s l e hk] at hg
      cases hg
      rfl
    · unfold shG at hg
      unfold shF
      cases h2 : shN b 0 x e with
      | none => rw [h2] at hg; cases hg
      | some r2 => rw [h2] at hg; cases hg; rfl
theorem okO_some {o : Option Tm} {r : Tm} (h : okO o = some r) : o = some r ∧ rightP 4 1099511627776 r = true := by
  unfold okO at h
  split at h
  · rename_i t
    split at h
    · rename_i hr
      cases h
      exact ⟨rfl, hr⟩
    · cases h
  · cases h
theorem shiftO_val {b : Int} {y r : Tm} (h : shiftO b 0 y = some r) : r = mapT (shF b) 0 y ∧ rightP 4 1099511627776 y = true ∧ rightP 4 1099511627776 r = true := by
  unfold shiftO at h
  split at h
  · rename_i hc
    obtain ⟨h1, h2⟩ := okO_some h
    exact ⟨shO_val hc.2 h1, hc.2, h2⟩
  · cases h
theorem putO_val {xa : List Tm} {t r : Tm} (h : putO xa t = some r) : r = mapT (putF xa) 0 t ∧ (∀ x ∈ xa, rightP 4 1099511627776 x = true) ∧ rightP 4 1099511627776 t = true ∧ rightP 4 1099511627776 r = true := by
  unfold putO at h
  split at h
  · rename_i hc
    obtain ⟨h1, h2⟩ := okO_some h
    refine ⟨?_, hc.1, hc.2, h2⟩
    unfold puO at h1
    cases h3 : rebT (puN xa) (3000 - cntT t) 0 t with
    | none => rw [h3] at h1; cases h1
    | some p =>
      obtain ⟨st, r1⟩ := p
      rw [h3] at h1
      cases h1
      refine reb_val (f := putF xa) (fun st k n s l e st' r hk hg => ?_) t 0 _ st _ (all_mono (fun x e hx st st' r hg => ?_) t 0 (all_right0 hc.2)) h3
      · rw [puN_in k n s l e hk] at hg
        cases hg
        rfl
      · obtain ⟨k, n, s, l, rfl⟩ := leaf_eq hx.1
        by_cases hk : k = 1 ∧ 0 ≤ n - e
        · by_cases hh : (xa.length : Int) ≤ n - e
          · rw [puN_high hk.1 hh] at hg
            cases hg
            rw [putF_high hk.1 hk.2 hh]
          · rw [puN_at hk.1 hk.2 (by omega)] at hg
            cases h4 : xa[((xa.length : Int) - 1 - (n - e)).toNat]? with
            | none => rw [h4] at hg; cases hg
            | some y =>
              rw [h4] at hg
              simp only at hg
              split at hg
              · cases h5 : shO e 0 y with
                | none => rw [h5] at hg; cases hg
                | some r2 =>
                  rw [h5] at hg
                  cases hg
                  rw [putF_at (j := ((xa.length : Int) - 1 - (n - e)).toNat) hk.1 hk.2 (by omega) (by omega) h4]
                  exact shO_val (hc.1 y (List.mem_of_getElem? h4)) h5
              · cases hg
        · rw [puN_low hk] at hg
          cases hg
          rw [putF_no hk]
  · cases h
theorem steps_same {t a b u f r x : Tm} (h1 : putO [a, b] t = some r) (h2 : shiftO 1 0 b = some u) (h3 : putO [u] t = some f) (h4 : putO [a] f = some x) : r = x := by
  obtain ⟨e1, r1, rt, -⟩ := putO_val h1
  obtain ⟨e2, rb, -⟩ := shiftO_val h2
  obtain ⟨e3, -, -, -⟩ := putO_val h3
  obtain ⟨e4, -, -, -⟩ := putO_val h4
  rw [e1, e4, e3]
  have key := map_comp (f1 := putF [u]) (f2 := putF [a]) (f3 := putF [a, b]) (c := 0) t 0 (all_mono (fun y e hy => ?_) t 0 (all_ge t 0 (Int.le_refl 0) (all_right0 rt)))
  · rw [Int.zero_add] at key
    exact key.symm
  · obtain ⟨hy, he⟩ := hy
    obtain ⟨k, n, s, l, rfl⟩ := leaf_eq hy.1
    rw [Int.zero_add]
    by_cases hk : k = 1 ∧ 0 ≤ n - e
    · obtain ⟨hk, h0⟩ := hk
      by_cases c0 : n - e = 0
      · rw [putF_at (xa := [u]) (j := 0) (y := u) hk h0 (by simp; omega) (by simp; omega) rfl, putF_at (xa := [a, b]) (j := 1) (y := b) hk h0 (by simp; omega) (by simp; omega) rfl, e2]
        have s1 := map_comp (f1 := shF 1) (f2 := shF e) (f3 := fun z i => shF e (shF 1 z i) i) (c := 0) b 0 (all_mono (fun z i hz => by
          obtain ⟨k, n, s, l, rfl⟩ := leaf_eq hz.1
          rw [Int.zero_add]
          by_cases hk : k = 1 ∧ 0 ≤ n - i
          · rw [shF_yes hk.1 hk.2 (by omega), map_leaf]
          · rw [shF_no hk, map_leaf]) b 0 (all_right0 rb))
        rw [Int.zero_add] at s1
        rw [s1]
        have s2 := map_comp (f1 := fun z i => shF e (shF 1 z i) i) (f2 := putF [a]) (f3 := shF e) (c := e) b 0 (all_mono (fun z i hz => by
          obtain ⟨k, n, s, l, rfl⟩ := leaf_eq hz.1
          by_cases hk : k = 1 ∧ 0 ≤ n - i
          · rw [shF_yes (b := 1) hk.1 hk.2 (by omega), shF_yes (b := e) (e := i) (n := n + 1) (s := s) (l := l) hk.1 (by omega) (by omega), map_leaf, putF_high hk.1 (by omega) (by simp; omega), shF_yes hk.1 hk.2 (by omega)]
            simp only [List.length_cons, List.length_nil]
            congr 1
            omega
          · simp only [shF_no hk]
            rw [map_leaf, putF_no (by omega)]) b 0 (all_right0 rb))
        rw [Int.add_zero] at s2
        exact s2
      · rw [putF_high (xa := [u]) hk h0 (by simp; omega), map_leaf]
        by_cases c1 : n - e = 1
        · rw [putF_at (xa := [a]) (j := 0) (y := a) hk (by simp; omega) (by simp; omega) (by simp; omega) rfl, putF_at (xa := [a, b]) (j := 0) (y := a) hk h0 (by simp; omega) (by simp; omega) rfl]
        · rw [putF_high (xa := [a]) hk (by simp; omega) (by simp; omega), putF_high (xa := [a, b]) hk h0 (by simp; omega)]
          simp only [List.length_cons, List.length_nil]
          congr 1
          omega
    · rw [putF_no hk, map_leaf, putF_no hk, putF_no hk]
end Go.Proofs.Ytndbpmkglddjjaa
