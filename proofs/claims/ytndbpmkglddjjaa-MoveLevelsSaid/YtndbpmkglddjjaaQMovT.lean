/- A row of levels that came in as an argument of a law. -/
import Derived.Test.YtndbpmkglddjjaaQTrmT
import Derived.Test.YtndbpmkglddjjaaQLevC
namespace Go.Proofs.Ytndbpmkglddjjaa
open Go.ChangeShapes Go.WideShapes Go.ChangeAt Go.RowKit
set_option maxRecDepth 100000
theorem open_levels9 {H : Type} {enc : TypeId × Value → H} {W : World} {base : Nat} {v : Value} {d : DataW H} {p : List MemPlace} (hval : Value.okWide Try.prog W .any base 22 v)
    (h : DataW.Trod enc Try.prog W 0 (fun _ => true) true 22 v d p) (hsz : ∀ n ∈ d.weights Try.prog 22, n ≤ reachBytes) : (∃ ls : List Lv, LvsIn W v ls) ∧ ∀ x ∈ p, x.block < W.heap.size := by
  obtain ⟨a0, len0, cap0, rfl⟩ := okWide_slice Try.underlying22 hval
  obtain ⟨m, hm⟩ := h
  refine ⟨?_, DataW.trod_lt m _ _ _ hm⟩
  obtain ⟨ls, ⟨a, cap, h1, h2, -, h4, h5⟩, h6⟩ := levels_of_trod termTy hm hsz
  have hr : reachBytes = 140737488351232 := rfl
  refine ⟨ls, a, cap, h1, h2, by omega, h4, fun hp => ?_⟩
  obtain ⟨pb, po, e, -, hb, hrg⟩ := h5 hp
  exact ⟨pb, po, e, hb, hrg⟩
end Go.Proofs.Ytndbpmkglddjjaa
