/- The law TermSpines: for every term it answers true. -/
import Derived.Test.YtndbpmkglddjjaaTrmSp
import Derived.Test.YtndbpmkglddjjaaTrmRr
namespace Go.Proofs.Ytndbpmkglddjjaa
open Go Go.RowKit
theorem any_ok {t : Tm} (hs : SmT t) : AnyOk t := fun F cs w h => (any_walk t cs w h hs).mono fun e w' ⟨he, hb⟩ => ⟨⟨_, he, fun hr => by
  unfold rightP at hr
  simp only [Bool.and_eq_true] at hr
  exact hr.2.2⟩, hb⟩
theorem spines_main {F : List Nat} (t : Tm) (cs : List Value) (w : World) (ht : TmAt F w t cs) (hs : SmT t) : Calls Try.prog 3 #[.agg cs.toArray] w fun e w' => e = .returned (.bool true) ∧ Below w.heap.size w w' := spines_of_any t cs w ht hs (any_ok hs)
end Go.Proofs.Ytndbpmkglddjjaa
