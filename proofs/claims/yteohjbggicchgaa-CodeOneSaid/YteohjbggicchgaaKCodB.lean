/- Declarations and libraries as bytes, plain. -/
import Derived.Test.YteohjbggicchgaaKCodA
namespace Go.Proofs.Yteohjbggicchgaa
open Go Go.RowKit
set_option maxRecDepth 100000
def nT : Tm := .mk 0 0 [] [] []
structure Dc where
 kind : Int
 params : Int
 name : List UInt8
 ty : Tm
 val : Tm
 fixed : Int
 ctors : List (List UInt8 × Tm)
def valD (d : Dc) : Prop := d.kind = 2 ∨ d.kind = 3
instance (d : Dc) : Decidable (valD d) := by unfold valD; infer_instance
def ctorB (c : List UInt8 × Tm) : List Int := textB c.1 ++ termB c.2
def declB (d : Dc) : List Int := (d.kind % 256) :: (textB d.name ++ ((d.params % 256) :: (termB d.ty ++ ((if valD d then termB d.val else []) ++ (if d.kind = 4 then (d.fixed % 256) :: ((d.ctors.length % 256 : Nat) : Int) :: (d.ctors.map ctorB).flatten else [])))))
/-- A declaration is well formed. -/
structure FormD (d : Dc) : Prop where
 kind : 1 ≤ d.kind ∧ d.kind ≤ 4
 name : wordB d.name = true
 ty : rightP d.params 0 d.ty = true
 val : if valD d then rightP d.params 0 d.val = true else d.val = nT
 rest : if d.kind = 4 then (0 ≤ d.fixed ∧ d.fixed ≤ 16) ∧ d.ctors.length ≤ 8 ∧ ∀ c ∈ d.ctors, wordB c.1 = true ∧ rightP d.params 0 c.2 = true else d.fixed = 0 ∧ d.ctors = []
structure LvD (d : Dc) : Prop where
 ty : LvT d.ty
 val : LvT d.val
 ctors : ∀ c ∈ d.ctors, LvT c.2
mutual
theorem near_right {wo : List UInt8 → Bool} {p : Int} : ∀ (t : Tm) (v d : Int), v ≤ d → rightT wo p v d t = true → nearT t
 | .mk k n s l a, v, d, hvd, h => by
  obtain ⟨g1, g2, g3⟩ := right_argsC h
  rw [nearT]
  have hd : d ≤ 200 := by
   unfold headT at g1
   simp only [Bool.and_eq_true, decide_eq_true_eq] at g1
   exact g1.1.1.1.1.1.1.2
  exact ⟨fun hk => by have := g2 hk; omega, nears_right a v d k 0 hvd g3⟩
theorem nears_right {wo : List UInt8 → Bool} {p : Int} : ∀ (ts : List Tm) (v d k : Int) (i : Nat), v ≤ d → rightTs wo p v d k i ts = true → nearTs ts
 | [], _, _, _, _, _, _ => by rw [nearTs]; trivial
 | t :: ts, v, d, k, i, hvd, h => by
  rw [rightTs, Bool.and_eq_true] at h
  rw [nearTs]
  exact ⟨near_right t _ _ (by omega) h.1, nears_right ts v d k (i + 1) hvd h.2⟩
end
theorem rightP_t {p v : Int} {t : Tm} (h : rightP p v t = true) : (0 ≤ p ∧ p ≤ 4) ∧ rightT wordB p v 0 t = true := by
 unfold rightP at h
 simp only [Bool.and_eq_true, decide_eq_true_eq] at h
 obtain ⟨⟨⟨⟨h1, h2⟩, -⟩, -⟩, -, h6⟩ := h
 exact ⟨⟨h1, h2⟩, h6⟩
end Go.Proofs.Yteohjbggicchgaa
