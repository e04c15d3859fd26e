/- package disk: Write. -/
import Derived.Test.YtoeilaedpibboaaDoorDskW
import Derived.Deep.Cut
import Derived.Deep.AppendLies
namespace Go.Proofs.YtoeilaedpibboaaDoor
open Go Go.RowKit
set_option maxRecDepth 100000

/-- A value that leaves the world alone, and one that makes memory: whichever comes up first. -/
theorem reg_swap {P : Program} {ops : Array Oper} {Q : Exit → Act → World → Prop} {S : World → Prop} {fuel : Nat} {listed : Array Bool} {a : Act} {w w' : World} (i j : Nat) (vi vj : Value) (di dj : Option Tmp) (hS : S w) (hS' : S w')
    (hi : (ops[i]?.isSome && ops[j]?.isSome && (Region.ready .any ops listed == [i, j]) && (Region.ready .any ops (listed.setIfInBounds i true) == [j]) && (Region.ready .any ops (listed.setIfInBounds j true) == [i]) && (opAt ops i).guard.isNone && (opAt ops j).guard.isNone) = true) (hij : i ≠ j)
    (hdi : (opAt ops i).dst = di) (hdj : (opAt ops j).dst = dj)
    (h1 : (execOp a.eval (opAt ops i)).run P w = .ok (.value vi) w) (h2 : (execOp (a.put di vi).eval (opAt ops j)).run P w = .ok (.value vj) w')
    (h3 : (execOp a.eval (opAt ops j)).run P w = .ok (.value vj) w') (h4 : (execOp (a.put dj vj).eval (opAt ops i)).run P w' = .ok (.value vi) w') (hne : ∀ d, dj = some d → di ≠ some d)
    (h : wpAnyH P .any ops Q S fuel ((listed.setIfInBounds i true).setIfInBounds j true) ((a.put di vi).put dj vj) w') : wpAnyH P .any ops Q S (fuel + 2) listed a w := by
  simp only [Bool.and_eq_true, beq_iff_eq] at hi
  obtain ⟨⟨⟨⟨⟨⟨g1, g2⟩, g3⟩, g4⟩, g5⟩, g6⟩, g7⟩ := hi
  have wi : ∀ y, Region.wanted (opAt ops i) y = true := fun y => by simp [Region.wanted, Option.isNone_iff_eq_none.1 g6]
  have wj : ∀ y, Region.wanted (opAt ops j) y = true := fun y => by simp [Region.wanted, Option.isNone_iff_eq_none.1 g7]
  subst hdi
  subst hdj
  refine wpAnyH_two g3 (wpOp_value vi (get_opAt g1) (wi _) h1 ⟨hS, wpAnyH_one g4 (wpOp_value vj (get_opAt g2) (wj _) h2 ⟨hS', h⟩)⟩) (wpOp_value vj (get_opAt g2) (wj _) h3 ⟨hS', wpAnyH_one g5 (wpOp_value vi (get_opAt g1) (wi _) h4 ⟨hS', ?_⟩)⟩)
  rw [Act.put_comm a vj vi hne, Array.setIfInBounds_comm _ _ (Ne.symm hij)]
  exact h

end Go.Proofs.YtoeilaedpibboaaDoor
