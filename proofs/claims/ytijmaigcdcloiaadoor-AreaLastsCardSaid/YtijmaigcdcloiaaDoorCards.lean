/-
  DERIVED. GIVEN WITH THE SEED: THE CARDS: each row of YtijmaigcdcloiaaDoorRows.lean that lists a variable, with what it lists TIED to the program's text (the seventh form; the later family's looks); each row that meets fmt, with fmt's text TOLD by the authors' own Lean function (tested against real Go, not proved from fmt's source: count such statements apart). THE CARD IS WHAT COUNTS. Prove the row's statement (the work); the ties are given (YtijmaigcdcloiaaDoorTie.lean); close each card by the builder's one call (the guide's Derived/Test/ToyasCard.lean, 'card_holds'). Laid BY PROGRAM, IN A SANDBOX (cutbox-door.mjs). By AI agents, Wed Nov 11 2026. No macro, syntax, notation, axiom, sorry.
-/
import Derived.Test.YtijmaigcdcloiaaDoorRows
import GoSem.ClaimSeven
namespace Go.Proofs.YtijmaigcdcloiaaDoor
namespace Rows

/-- THE TIED CARD OF 'imprimaturlaw05.AreaLasts'. -/
def areaLastsCard : Claim7 := { stood := { row := areaLastsRow, standIns := [], harness := (true, "ba5241b30d415114e472c0431a1e25f20de9b46c4ef2af39361ae786fe79ce39"), looks := false }, kinds := [], alts := [], laidByText := true, laidKinds := [.data], laidTests := true, laidLooks := .later }
def AreaLastsCardSaid : Prop := Claim7.holds Tryd.pinned (.plain (OpenSpec.ofChange areaLastsSpec)) areaLastsCard

/-- THE TIED CARD OF 'imprimaturlaw05.AreaRoom'. -/
def areaRoomCard : Claim7 := { stood := { row := areaRoomRow, standIns := [], harness := (true, "ba5241b30d415114e472c0431a1e25f20de9b46c4ef2af39361ae786fe79ce39"), looks := false }, kinds := [], alts := [], laidByText := true, laidKinds := [.data], laidTests := true, laidLooks := .later }
def AreaRoomCardSaid : Prop := Claim7.holds Tryd.pinned (.plain (OpenSpec.ofChange areaRoomSpec)) areaRoomCard

/-- THE SECOND FORM's CARD OF 'imprimaturlaw05.AreaLasts'. -/
def areaLastsUptoCard : Claim7 := { stood := { row := areaLastsUptoRow, standIns := [], harness := (true, "ba5241b30d415114e472c0431a1e25f20de9b46c4ef2af39361ae786fe79ce39"), looks := false }, kinds := [], alts := [], laidByText := true, laidKinds := [.data], laidTests := true, laidLooks := .later }
def AreaLastsUptoCardSaid : Prop := Claim7.holds Tryd.pinned (.plain (OpenSpec.upto areaLastsSpec)) areaLastsUptoCard

/-- THE SECOND FORM's CARD OF 'imprimaturlaw05.AreaRoom'. -/
def areaRoomUptoCard : Claim7 := { stood := { row := areaRoomUptoRow, standIns := [], harness := (true, "ba5241b30d415114e472c0431a1e25f20de9b46c4ef2af39361ae786fe79ce39"), looks := false }, kinds := [], alts := [], laidByText := true, laidKinds := [.data], laidTests := true, laidLooks := .later }
def AreaRoomUptoCardSaid : Prop := Claim7.holds Tryd.pinned (.plain (OpenSpec.upto areaRoomSpec)) areaRoomUptoCard
end Rows
end Go.Proofs.YtijmaigcdcloiaaDoor
