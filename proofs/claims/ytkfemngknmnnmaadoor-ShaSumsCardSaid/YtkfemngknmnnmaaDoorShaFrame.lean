/- What the rows' own list gives: the table of the round constants lies in its variable; and a world in which it does, for the rows' witnesses. -/
import Derived.Test.YtkfemngknmnnmaaDoorCards
import Derived.Test.YtkfemngknmnnmaaDoorTie
import Derived.Test.YtkfemngknmnnmaaDoorShaAlive
import Derived.ProofKit
import Derived.OpenShut
import Derived.Deep.DeepHandedRow
import Derived.Lib.LaidTab
namespace Go.Proofs.YtkfemngknmnnmaaDoor
open Go.ChangeShapes Go.WideShapes Go.ChangeAt Go.RowKit
set_option maxRecDepth 100000

theorem own : ownKnob Tryd.prog.godebug = none := by kernel_rfl
theorem gTab : Tryd.prog.globalNamed "imprimatur/sha.roundWords" = some 0 := by kernel_rfl
theorem gTabType : (Tryd.prog.globals[0]?).map (·.type) = some 76 := by kernel_rfl
theorem cellsWords : Tryd.prog.cellsOf 76 = 64 := by kernel_rfl
theorem cellsU32 : Tryd.prog.cellsOf 23 = 1 := by kernel_rfl

theorem kw_of_laid {W : World} (h : laidMetH Tryd.prog [("imprimatur/sha.roundWords", Rows.laid_imprimatur_sha_roundWords)] W) : KW W := by
  have ht : Lib.TabIs Tryd.prog W "imprimatur/sha.roundWords" .u32 Sha.K := Lib.tabIs_of_head (rest := []) gTab gTabType Tryd.underlying76 Tryd.underlying23 cellsU32 cellsWords h
  intro i hi
  have := ht.cell gTab i (by exact hi)
  simpa [List.getD_eq_getElem?_getD] using this

/-- A world for the witnesses: the settled one, the table holding what its initialiser lays. -/
noncomputable def laidWorld (os : Os) : World :=
  { World.holding Tryd.prog os ⟨#[], #[], []⟩ with heap := (World.holding Tryd.prog os ⟨#[], #[], []⟩).heap.modify 0 fun
      | .cells _ t frozen => .cells (ints .u32 Sha.K).toArray t frozen
      | o => o }
end Go.Proofs.YtkfemngknmnnmaaDoor
