/- Declarations and libraries as bytes, plain. -/
import Derived.Test.YteohjbggicchgaaQCodA
namespace Go.Proofs.Yteohjbggicchgaa
open Go Go.RowKit
set_option maxRecDepth 100000
def nT : Tm := .mk 0 0 [] [] []
structure Dc where
 kind : Int
 params : Int
 name : List UInt8
 ty : Tm
 val : Tm
 fixed : Int
 ctors : List (List UInt8 × Tm)
def valD (d : Dc) : Prop := d.kind = 2 ∨ d.kind = 3
instance (d : Dc) : Decidable (valD d) := by unfold valD; infer_instance
def ctorB (c : List UInt8 × Tm) : List Int := textB c.1 ++ termB c.2
def declB (d : Dc) : List Int := (d.kind % 256) :: (textB d.name ++ ((d.params % 256) :: (termB d.ty ++ ((if valD d then termB d.val else []) ++ (if d.kind = 4 then (d.fixed % 256) :: ((d.ctors.length % 256 : Nat) : Int) :: (d.ctors.map ctorB).flatten else [])))))
/-- A declaration is well formed. -/
structure FormD (d : Dc) : Prop where
 kind : 1 ≤ d.kind ∧ d.kind ≤ 4
 name : wordB d.name = true
 ty : rightP d.params 0 d.ty = true
 val : if valD d then rightP d.params 0 d.val = true else d.val = nT
 rest : if d.kind = 4 then (0 ≤ d.fixed ∧ d.fixed ≤ 16) ∧ d.ctors.length ≤ 8 ∧ ∀ c ∈ d.ctors, wordB c.1 = true ∧ rightP d.params 0 c.2 = true else d.fixed = 0 ∧ d.ctors = []
structure LvD (d : Dc) : Prop where
 ty : LvT d.ty
 val : LvT d.val
 ctors : ∀ c ∈ d.ctors, LvT c.2
mutual
theorem near_right {wo : List UInt8 → Bool} {p : Int} : ∀ (t : Tm) (v d : Int), v ≤ d → rightT wo p v d t = true → nearT t
 | .mk k n s l a, v, d, hvd, h => by
  obtain ⟨g1, g2, g3⟩ := right_argsC h
  rw [nearT]
  have hd : d ≤ 200 := by
   unfold headT at g1
   simp only [Bool.and_eq_true, decide_eq_true_eq] at g1
   exact g1.1.1.1.1.1.1.2
  exact ⟨fun hk => by have := g2 hk; omega, nears_right a v d k 0 hvd g3⟩
theorem nears_right {wo : List UInt8 → Bool} {p : Int} : ∀ (ts : List Tm) (v d k : Int) (i : Nat), v ≤ d → rightTs wo p v d k i ts = true → nearTs ts
 | [], _, _, _, _, _, _ => by rw [nearTs]; trivial
 | t :: ts, v, d, k, i, hvd, h => by
  rw [rightTs, Bool.and_eq_true] at h
  rw [nearTs]
  exact ⟨near_right t _ _ (by omega) h.1, nears_right ts v d k (i + 1) hvd h.2⟩
end
theorem rightP_t {p v : Int} {t : Tm} (h : rightP p v t = true) : (0 ≤ p ∧ p ≤ 4) ∧ rightT wordB p v 0 t = true := by
 unfold rightP at h
 simp only [Bool.and_eq_true, decide_eq_true_eq] at h
 obtain ⟨⟨⟨⟨h1, h2⟩, -⟩, -⟩, -, h6⟩ := h
 exact ⟨⟨h1, h2⟩, h6⟩
theorem right_pf {t u : Tm} {p p' : Int} {r r' : List Int} (h : rightP p 0 t = true) (h' : rightP p' 0 u = true) (hl : LvT t) (hl' : LvT u) (e : termB t ++ r = termB u ++ r') : t = u ∧ r = r' :=
 term_pf t u _ _ _ _ _ _ _ _ (rightP_t h).2 (rightP_t h').2 (near_right t _ _ (Int.le_refl _) (rightP_t h).2) (near_right u _ _ (Int.le_refl _) (rightP_t h').2) hl hl' e
theorem name_pf {s u : List UInt8} {r r' : List Int} (hs : wordB s = true) (hu : wordB u = true) (h : textB s ++ r = textB u ++ r') : s = u ∧ r = r' := by
 have w1 := word_len hs
 have w2 := word_len hu
 have : (256 : Nat) ^ 8 = 18446744073709551616 := by decide
 exact text_pf (by omega) (by omega) h
theorem ctors_pf {p p' : Int} : ∀ {cs es : List (List UInt8 × Tm)} {r r' : List Int}, cs.length = es.length → (∀ c ∈ cs, (wordB c.1 = true ∧ rightP p 0 c.2 = true) ∧ LvT c.2) → (∀ c ∈ es, (wordB c.1 = true ∧ rightP p' 0 c.2 = true) ∧ LvT c.2) → (cs.map ctorB).flatten ++ r = (es.map ctorB).flatten ++ r' → cs = es ∧ r = r'
 | [], [], r, r', _, _, _, h => ⟨rfl, h⟩
 | [], _ :: _, _, _, hl, _, _, _ => by simp at hl
 | _ :: _, [], _, _, hl, _, _, _ => by simp at hl
 | (s, t) :: cs, (u, x) :: es, r, r', hl, h1, h2, h => by
  rw [List.map_cons, List.map_cons, List.flatten_cons, List.flatten_cons] at h
  unfold ctorB at h
  simp only [List.append_assoc] at h
  have a := h1 (s, t) (by simp)
  have b := h2 (u, x) (by simp)
  obtain ⟨e1, g1⟩ := name_pf a.1.1 b.1.1 h
  obtain ⟨e2, g2⟩ := right_pf a.1.2 b.1.2 a.2 b.2 g1
  obtain ⟨e3, g3⟩ := ctors_pf (cs := cs) (es := es) (by simpa using hl) (fun c hc => h1 c (by simp [hc])) (fun c hc => h2 c (by simp [hc])) g2
  exact ⟨by rw [show s = u from e1, show t = x from e2, e3], g3⟩
theorem decl_pf {d e : Dc} {r r' : List Int} (hd : FormD d) (he : FormD e) (ld : LvD d) (le : LvD e) (h : declB d ++ r = declB e ++ r') : d = e ∧ r = r' := by
 obtain ⟨k, p, s, t, v, f, cs⟩ := d
 obtain ⟨k', p', s', t', v', f', cs'⟩ := e
 have dk := hd.kind
 have ek := he.kind
 have dp := (rightP_t hd.ty).1
 have ep := (rightP_t he.ty).1
 have dv := hd.val
 have ev := he.val
 have dr := hd.rest
 have er := he.rest
 unfold declB at h
 simp only at h dk ek dp ep dv ev dr er
 rw [List.cons_append, List.cons_append, List.cons.injEq] at h
 obtain ⟨h0, h1⟩ := h
 obtain rfl : k = k' := by omega
 simp only [List.append_assoc, List.cons_append] at h1
 obtain ⟨e1, h2⟩ := name_pf hd.name he.name h1
 rw [List.cons.injEq] at h2
 obtain rfl : p = p' := by have := h2.1; omega
 obtain ⟨e2, h3⟩ := right_pf hd.ty he.ty ld.ty le.ty h2.2
 have eV : v = v' ∧ (if k = 4 then (f % 256) :: ((cs.length % 256 : Nat) : Int) :: (cs.map ctorB).flatten else []) ++ r = (if k = 4 then (f' % 256) :: ((cs'.length % 256 : Nat) : Int) :: (cs'.map ctorB).flatten else []) ++ r' := by
  by_cases hv : k = 2 ∨ k = 3
  ·have a1 : valD ⟨k, p, s, t, v, f, cs⟩ := hv
   have a2 : valD ⟨k, p, s', t', v', f', cs'⟩ := hv
   rw [if_pos a1] at dv h3
   rw [if_pos a2] at ev h3
   exact right_pf dv ev ld.val le.val h3
  ·have a1 : ¬ valD ⟨k, p, s, t, v, f, cs⟩ := hv
   have a2 : ¬ valD ⟨k, p, s', t', v', f', cs'⟩ := hv
   rw [if_neg a1] at dv h3
   rw [if_neg a2] at ev h3
   exact ⟨by rw [dv, ev], by simpa using h3⟩
 obtain ⟨e3, h4⟩ := eV
 by_cases h9 : k = 4
 ·rw [if_pos h9] at dr er h4
  rw [if_pos h9] at h4
  rw [List.cons_append, List.cons_append, List.cons_append, List.cons_append, List.cons.injEq, List.cons.injEq] at h4
  obtain ⟨g1, g2, g3⟩ := h4
  obtain ⟨e4, h5⟩ := ctors_pf (p := p) (p' := p) (by omega) (fun c hc => ⟨dr.2.2 c hc, ld.ctors c hc⟩) (fun c hc => ⟨er.2.2 c hc, le.ctors c hc⟩) g3
  have e5 : f = f' := by omega
  exact ⟨by rw [show s = s' from e1, show t = t' from e2, e3, e4, e5], h5⟩
 ·rw [if_neg h9] at dr er h4
  rw [if_neg h9] at h4
  exact ⟨by rw [show s = s' from e1, show t = t' from e2, e3, dr.1, dr.2, er.1, er.2], by simpa using h4⟩
def libB (ds : List Dc) : List Int := numB ds.length ++ (ds.map declB).flatten
theorem decls_pf : ∀ {ds es : List Dc} {r r' : List Int}, ds.length = es.length → (∀ d ∈ ds, FormD d ∧ LvD d) → (∀ d ∈ es, FormD d ∧ LvD d) → (ds.map declB).flatten ++ r = (es.map declB).flatten ++ r' → ds = es ∧ r = r'
 | [], [], r, r', _, _, _, h => ⟨rfl, h⟩
 | [], _ :: _, _, _, hl, _, _, _ => by simp at hl
 | _ :: _, [], _, _, hl, _, _, _ => by simp at hl
 | d :: ds, e :: es, r, r', hl, h1, h2, h => by
  rw [List.map_cons, List.map_cons, List.flatten_cons, List.flatten_cons] at h
  simp only [List.append_assoc] at h
  have a := h1 d (by simp)
  have b := h2 e (by simp)
  obtain ⟨e1, g1⟩ := decl_pf a.1 b.1 a.2 b.2 h
  obtain ⟨e2, g2⟩ := decls_pf (by simpa using hl) (fun c hc => h1 c (by simp [hc])) (fun c hc => h2 c (by simp [hc])) g1
  exact ⟨by rw [e1, e2], g2⟩
theorem lib_pf {ds es : List Dc} {r r' : List Int} (hl : ds.length ≤ 64) (hl' : es.length ≤ 64) (h1 : ∀ d ∈ ds, FormD d ∧ LvD d) (h2 : ∀ d ∈ es, FormD d ∧ LvD d) (h : libB ds ++ r = libB es ++ r') : ds = es ∧ r = r' := by
 unfold libB at h
 simp only [List.append_assoc] at h
 have : (256 : Nat) ^ 8 = 18446744073709551616 := by decide
 obtain ⟨g1, g2⟩ := num_pf (by omega) (by omega) h
 exact decls_pf g1 h1 h2 g2
end Go.Proofs.Yteohjbggicchgaa
