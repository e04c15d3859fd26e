/- The document's own shape and binds; its Right and Width of a level. -/
import Derived.Test.YtndbpmkglddjjaaQTrmRw
namespace Go.Proofs.Ytndbpmkglddjjaa
open Go Go.RowKit
set_option maxRecDepth 100000
theorem binds_walk (k i : Int) (w : World) : Calls Try.prog 86 #[.int .i64 k, .int .i64 i] w fun e w' => e = .returned (.bool (decide (((k = 6 ∨ k = 7) ∧ i = 1) ∨ (k = 8 ∧ i = 2)))) ∧ w' = w := by
  by_cases h6 : k = 6 <;> by_cases h7 : k = 7 <;> by_cases h1 : i = 1 <;> by_cases h8 : k = 8 <;> by_cases h2 : i = 2 <;> first | omega |
    (go_enter Try.func86, Try.ntmps86
     go_wp2
     go_ret
     exact ⟨by simp [h6, h7, h1, h8, h2], rfl⟩)
end Go.Proofs.Ytndbpmkglddjjaa
