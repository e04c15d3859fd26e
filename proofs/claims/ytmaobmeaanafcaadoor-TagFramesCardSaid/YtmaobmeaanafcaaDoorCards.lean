/-
  DERIVED. GIVEN WITH THE SEED: THE CARDS: each row of YtmaobmeaanafcaaDoorRows.lean that lists a variable, with what it lists TIED to the program's text (the seventh form; the later family's looks); each row that meets fmt, with fmt's text TOLD by the authors' own Lean function (tested against real Go, not proved from fmt's source: count such statements apart). THE CARD IS WHAT COUNTS. Prove the row's statement (the work); the ties are given (YtmaobmeaanafcaaDoorTie.lean); close each card by the builder's one call (the guide's Derived/Test/ToyasCard.lean, 'card_holds'). Laid BY PROGRAM, IN A SANDBOX (cutbox-door.mjs). By AI agents, Wed Nov 11 2026. No macro, syntax, notation, axiom, sorry.
-/
import Derived.Test.YtmaobmeaanafcaaDoorRows
import GoSem.ClaimSeven
namespace Go.Proofs.YtmaobmeaanafcaaDoor
namespace Rows

/-- THE TIED CARD OF 'imprimaturlaw02.TagAnswers'. -/
def tagAnswersCard : Claim7 := { stood := { row := tagAnswersRow, standIns := [], harness := (true, "8a6e63b03e5fc2089d4c51e7f2f41730a8a359b59ba9c8ebb773fa8c70447272"), looks := false }, kinds := [], alts := [], laidByText := true, laidKinds := [.data], laidTests := true, laidLooks := .later }
def TagAnswersCardSaid : Prop := Claim7.holds Tryd.pinned (.plain (OpenSpec.ofChange tagAnswersSpec)) tagAnswersCard

/-- THE TIED CARD OF 'imprimaturlaw02.TagFrames'. -/
def tagFramesCard : Claim7 := { stood := { row := tagFramesRow, standIns := [], harness := (true, "8a6e63b03e5fc2089d4c51e7f2f41730a8a359b59ba9c8ebb773fa8c70447272"), looks := false }, kinds := [], alts := [], laidByText := true, laidKinds := [.data], laidTests := true, laidLooks := .later }
def TagFramesCardSaid : Prop := Claim7.holds Tryd.pinned (.plain (OpenSpec.ofChange tagFramesSpec)) tagFramesCard

/-- THE TIED CARD OF 'imprimaturlaw02.TagUnframes'. -/
def tagUnframesCard : Claim7 := { stood := { row := tagUnframesRow, standIns := [], harness := (true, "8a6e63b03e5fc2089d4c51e7f2f41730a8a359b59ba9c8ebb773fa8c70447272"), looks := false }, kinds := [], alts := [], laidByText := true, laidKinds := [.data], laidTests := true, laidLooks := .later }
def TagUnframesCardSaid : Prop := Claim7.holds Tryd.pinned (.plain (OpenSpec.ofChange tagUnframesSpec)) tagUnframesCard

/-- THE TIED CARD OF 'imprimaturlaw02.TagHex'. -/
def tagHexCard : Claim7 := { stood := { row := tagHexRow, standIns := [], harness := (true, "8a6e63b03e5fc2089d4c51e7f2f41730a8a359b59ba9c8ebb773fa8c70447272"), looks := false }, kinds := [], alts := [], laidByText := true, laidKinds := [.data], laidTests := true, laidLooks := .later }
def TagHexCardSaid : Prop := Claim7.holds Tryd.pinned (.plain (OpenSpec.ofChange tagHexSpec)) tagHexCard

/-- THE TIED CARD OF 'imprimaturlaw02.TagSets'. -/
def tagSetsCard : Claim7 := { stood := { row := tagSetsRow, standIns := [], harness := (true, "8a6e63b03e5fc2089d4c51e7f2f41730a8a359b59ba9c8ebb773fa8c70447272"), looks := false }, kinds := [], alts := [], laidByText := true, laidKinds := [.data], laidTests := true, laidLooks := .later }
def TagSetsCardSaid : Prop := Claim7.holds Tryd.pinned (.plain (OpenSpec.ofChange tagSetsSpec)) tagSetsCard

/-- THE TIED CARD OF 'imprimaturlaw02.TagNodes'. -/
def tagNodesCard : Claim7 := { stood := { row := tagNodesRow, standIns := [], harness := (true, "8a6e63b03e5fc2089d4c51e7f2f41730a8a359b59ba9c8ebb773fa8c70447272"), looks := false }, kinds := [], alts := [], laidByText := true, laidKinds := [.data], laidTests := true, laidLooks := .later }
def TagNodesCardSaid : Prop := Claim7.holds Tryd.pinned (.plain (OpenSpec.ofChange tagNodesSpec)) tagNodesCard

/-- THE SECOND FORM's CARD OF 'imprimaturlaw02.TagAnswers'. -/
def tagAnswersUptoCard : Claim7 := { stood := { row := tagAnswersUptoRow, standIns := [], harness := (true, "8a6e63b03e5fc2089d4c51e7f2f41730a8a359b59ba9c8ebb773fa8c70447272"), looks := false }, kinds := [], alts := [], laidByText := true, laidKinds := [.data], laidTests := true, laidLooks := .later }
def TagAnswersUptoCardSaid : Prop := Claim7.holds Tryd.pinned (.plain (OpenSpec.upto tagAnswersSpec)) tagAnswersUptoCard

/-- THE SECOND FORM's CARD OF 'imprimaturlaw02.TagFrames'. -/
def tagFramesUptoCard : Claim7 := { stood := { row := tagFramesUptoRow, standIns := [], harness := (true, "8a6e63b03e5fc2089d4c51e7f2f41730a8a359b59ba9c8ebb773fa8c70447272"), looks := false }, kinds := [], alts := [], laidByText := true, laidKinds := [.data], laidTests := true, laidLooks := .later }
def TagFramesUptoCardSaid : Prop := Claim7.holds Tryd.pinned (.plain (OpenSpec.upto tagFramesSpec)) tagFramesUptoCard

/-- THE SECOND FORM's CARD OF 'imprimaturlaw02.TagUnframes'. -/
def tagUnframesUptoCard : Claim7 := { stood := { row := tagUnframesUptoRow, standIns := [], harness := (true, "8a6e63b03e5fc2089d4c51e7f2f41730a8a359b59ba9c8ebb773fa8c70447272"), looks := false }, kinds := [], alts := [], laidByText := true, laidKinds := [.data], laidTests := true, laidLooks := .later }
def TagUnframesUptoCardSaid : Prop := Claim7.holds Tryd.pinned (.plain (OpenSpec.upto tagUnframesSpec)) tagUnframesUptoCard

/-- THE SECOND FORM's CARD OF 'imprimaturlaw02.TagHex'. -/
def tagHexUptoCard : Claim7 := { stood := { row := tagHexUptoRow, standIns := [], harness := (true, "8a6e63b03e5fc2089d4c51e7f2f41730a8a359b59ba9c8ebb773fa8c70447272"), looks := false }, kinds := [], alts := [], laidByText := true, laidKinds := [.data], laidTests := true, laidLooks := .later }
def TagHexUptoCardSaid : Prop := Claim7.holds Tryd.pinned (.plain (OpenSpec.upto tagHexSpec)) tagHexUptoCard

/-- THE SECOND FORM's CARD OF 'imprimaturlaw02.TagSets'. -/
def tagSetsUptoCard : Claim7 := { stood := { row := tagSetsUptoRow, standIns := [], harness := (true, "8a6e63b03e5fc2089d4c51e7f2f41730a8a359b59ba9c8ebb773fa8c70447272"), looks := false }, kinds := [], alts := [], laidByText := true, laidKinds := [.data], laidTests := true, laidLooks := .later }
def TagSetsUptoCardSaid : Prop := Claim7.holds Tryd.pinned (.plain (OpenSpec.upto tagSetsSpec)) tagSetsUptoCard

/-- THE SECOND FORM's CARD OF 'imprimaturlaw02.TagNodes'. -/
def tagNodesUptoCard : Claim7 := { stood := { row := tagNodesUptoRow, standIns := [], harness := (true, "8a6e63b03e5fc2089d4c51e7f2f41730a8a359b59ba9c8ebb773fa8c70447272"), looks := false }, kinds := [], alts := [], laidByText := true, laidKinds := [.data], laidTests := true, laidLooks := .later }
def TagNodesUptoCardSaid : Prop := Claim7.holds Tryd.pinned (.plain (OpenSpec.upto tagNodesSpec)) tagNodesUptoCard
end Rows
end Go.Proofs.YtmaobmeaanafcaaDoor
