/- Law 10's CodeOne. -/
import Derived.Test.YteohjbggicchgaaBCodAl
import Derived.Test.YteohjbggicchgaaBCodTt
namespace Go.Proofs.Yteohjbggicchgaa
open Go Go.RowKit
set_option maxRecDepth 100000
-- what was read is near
theorem rows_same {m1 : Nat} {w : World} {v1 v2 : Value} {zs : List Int} (h1 : RowB m1 w v1 zs) (h2 : BytesIn w v2 zs) (hl : zs.length ≤ 4611686018427387904) : Calls Try.prog 16 #[v1, v2] w fun e w' => e = .returned (.bool true) ∧ Below w.heap.size w w' := by
 refine (sameb_walk v1 v2 zs zs w h1.in h2 hl).mono ?_
 rintro e w' ⟨rfl, n, rfl⟩
 rw [decide_eq_true rfl]
 exact ⟨rfl, below_drewN _ _⟩
end Go.Proofs.Yteohjbggicchgaa
