/- A term with other leaves, plain: what shifting and putting in come to where they succeed. -/
import Derived.Test.YtndbpmkglddjjaaQMovF
namespace Go.Proofs.Ytndbpmkglddjjaa
open Go Go.RowKit
theorem right_args {wo : List UInt8 → Bool} {p v deep k n : Int} {s : List UInt8} {l : List Lv} {a : List Tm} (h : rightT wo p v deep (.mk k n s l a) = true) : a.length = argsOf k ∧ headT wo p deep k n s l a.length = true ∧ (k = 1 → n < v) ∧ rightTs wo p v deep k 0 a = true := by
  simp only [rightT, Bool.and_eq_true] at h
  obtain ⟨⟨h1, h2⟩, h3⟩ := h
  refine ⟨?_, h1, fun hk => by simpa [hk] using h2, h3⟩
  simp only [headT, Bool.and_eq_true, decide_eq_true_eq] at h1
  exact h1.1.1.1.1.1.2
end Go.Proofs.Ytndbpmkglddjjaa
