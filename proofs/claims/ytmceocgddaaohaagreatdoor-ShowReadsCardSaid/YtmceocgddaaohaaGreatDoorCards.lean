/-
  DERIVED. GIVEN WITH THE SEED: THE CARDS: each row of YtmceocgddaaohaaGreatDoorRows.lean that lists a variable, with what it lists TIED to the program's text (the seventh form; the later family's looks); each row that meets fmt, with fmt's text TOLD by the authors' own Lean function (tested against real Go, not proved from fmt's source: count such statements apart). THE CARD IS WHAT COUNTS. Prove the row's statement (the work); the ties are given (YtmceocgddaaohaaGreatDoorTie.lean); close each card by the builder's one call (the guide's Derived/Test/ToyasCard.lean, 'card_holds'). Laid BY PROGRAM, IN A SANDBOX (cutbox-door.mjs). By AI agents, Wed Nov 11 2026. No macro, syntax, notation, axiom, sorry.
-/
import Derived.Test.YtmceocgddaaohaaGreatDoorRows
import GoSem.ClaimSeven
namespace Go.Proofs.YtmceocgddaaohaaGreatDoor
namespace Rows

/-- THE TIED CARD OF 'imprimaturlaw13.ShowReads'. -/
def showReadsCard : Claim7 := { stood := { row := showReadsRow, standIns := [], harness := (true, "23697e582f12945f801f2002278f98271da0f7a470b3d44d559bdba87b76d8e6"), looks := true }, kinds := [], alts := [], laidByText := true, laidKinds := [.data, .data, .data], laidTests := true, laidLooks := .later }
def ShowReadsCardSaid : Prop := Claim7.holds Tryz.pinned (.plain (OpenSpec.ofChange showReadsSpec)) showReadsCard

/-- THE TIED CARD OF 'imprimaturlaw13.ShowDecls'. -/
def showDeclsCard : Claim7 := { stood := { row := showDeclsRow, standIns := [], harness := (true, "23697e582f12945f801f2002278f98271da0f7a470b3d44d559bdba87b76d8e6"), looks := true }, kinds := [], alts := [], laidByText := true, laidKinds := [.data, .data, .data], laidTests := true, laidLooks := .later }
def ShowDeclsCardSaid : Prop := Claim7.holds Tryz.pinned (.plain (OpenSpec.ofChange showDeclsSpec)) showDeclsCard

/-- THE TIED CARD OF 'imprimaturlaw13.ShowParts'. -/
def showPartsCard : Claim7 := { stood := { row := showPartsRow, standIns := [], harness := (true, "23697e582f12945f801f2002278f98271da0f7a470b3d44d559bdba87b76d8e6"), looks := true }, kinds := [], alts := [], laidByText := true, laidKinds := [.data, .data, .data], laidTests := true, laidLooks := .later }
def ShowPartsCardSaid : Prop := Claim7.holds Tryz.pinned (.plain (OpenSpec.ofChange showPartsSpec)) showPartsCard

/-- THE SECOND FORM's CARD OF 'imprimaturlaw13.ShowReads'. -/
def showReadsUptoCard : Claim7 := { stood := { row := showReadsUptoRow, standIns := [], harness := (true, "23697e582f12945f801f2002278f98271da0f7a470b3d44d559bdba87b76d8e6"), looks := true }, kinds := [], alts := [], laidByText := true, laidKinds := [.data, .data, .data], laidTests := true, laidLooks := .later }
def ShowReadsUptoCardSaid : Prop := Claim7.holds Tryz.pinned (.plain (OpenSpec.upto showReadsSpec)) showReadsUptoCard

/-- THE SECOND FORM's CARD OF 'imprimaturlaw13.ShowDecls'. -/
def showDeclsUptoCard : Claim7 := { stood := { row := showDeclsUptoRow, standIns := [], harness := (true, "23697e582f12945f801f2002278f98271da0f7a470b3d44d559bdba87b76d8e6"), looks := true }, kinds := [], alts := [], laidByText := true, laidKinds := [.data, .data, .data], laidTests := true, laidLooks := .later }
def ShowDeclsUptoCardSaid : Prop := Claim7.holds Tryz.pinned (.plain (OpenSpec.upto showDeclsSpec)) showDeclsUptoCard

/-- THE SECOND FORM's CARD OF 'imprimaturlaw13.ShowParts'. -/
def showPartsUptoCard : Claim7 := { stood := { row := showPartsUptoRow, standIns := [], harness := (true, "23697e582f12945f801f2002278f98271da0f7a470b3d44d559bdba87b76d8e6"), looks := true }, kinds := [], alts := [], laidByText := true, laidKinds := [.data, .data, .data], laidTests := true, laidLooks := .later }
def ShowPartsUptoCardSaid : Prop := Claim7.holds Tryz.pinned (.plain (OpenSpec.upto showPartsSpec)) showPartsUptoCard
end Rows
end Go.Proofs.YtmceocgddaaohaaGreatDoor
