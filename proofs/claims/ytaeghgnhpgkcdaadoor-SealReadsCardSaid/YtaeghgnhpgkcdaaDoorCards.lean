/-
  DERIVED. GIVEN WITH THE SEED: THE CARDS: each row of YtaeghgnhpgkcdaaDoorRows.lean that lists a variable, with what it lists TIED to the program's text (the seventh form; the later family's looks); each row that meets fmt, with fmt's text TOLD by the authors' own Lean function (tested against real Go, not proved from fmt's source: count such statements apart). THE CARD IS WHAT COUNTS. Prove the row's statement (the work); the ties are given (YtaeghgnhpgkcdaaDoorTie.lean); close each card by the builder's one call (the guide's Derived/Test/ToyasCard.lean, 'card_holds'). Laid BY PROGRAM, IN A SANDBOX (cutbox-door.mjs). By AI agents, Wed Nov 11 2026. No macro, syntax, notation, axiom, sorry.
-/
import Derived.Test.YtaeghgnhpgkcdaaDoorRows
import GoSem.ClaimSeven
namespace Go.Proofs.YtaeghgnhpgkcdaaDoor
namespace Rows

/-- THE TIED CARD OF 'imprimaturlaw04.SealPacks'. -/
def sealPacksCard : Claim7 := { stood := { row := sealPacksRow, standIns := [], harness := (true, "23c1198cc6028943f1a14134fa6de8b9e628a93fe06d1f4a1f7e3030928c1feb"), looks := false }, kinds := [], alts := [], laidByText := true, laidKinds := [.data], laidTests := true, laidLooks := .later }
def SealPacksCardSaid : Prop := Claim7.holds Tryd.pinned (.plain (OpenSpec.ofChange sealPacksSpec)) sealPacksCard

/-- THE TIED CARD OF 'imprimaturlaw04.SealReads'. -/
def sealReadsCard : Claim7 := { stood := { row := sealReadsRow, standIns := [], harness := (true, "23c1198cc6028943f1a14134fa6de8b9e628a93fe06d1f4a1f7e3030928c1feb"), looks := false }, kinds := [], alts := [], laidByText := true, laidKinds := [.data], laidTests := true, laidLooks := .later }
def SealReadsCardSaid : Prop := Claim7.holds Tryd.pinned (.plain (OpenSpec.ofChange sealReadsSpec)) sealReadsCard

/-- THE TIED CARD OF 'imprimaturlaw04.SealTorn'. -/
def sealTornCard : Claim7 := { stood := { row := sealTornRow, standIns := [], harness := (true, "23c1198cc6028943f1a14134fa6de8b9e628a93fe06d1f4a1f7e3030928c1feb"), looks := false }, kinds := [], alts := [], laidByText := true, laidKinds := [.data], laidTests := true, laidLooks := .later }
def SealTornCardSaid : Prop := Claim7.holds Tryd.pinned (.plain (OpenSpec.ofChange sealTornSpec)) sealTornCard

/-- THE TIED CARD OF 'imprimaturlaw04.SealChanged'. -/
def sealChangedCard : Claim7 := { stood := { row := sealChangedRow, standIns := [], harness := (true, "23c1198cc6028943f1a14134fa6de8b9e628a93fe06d1f4a1f7e3030928c1feb"), looks := false }, kinds := [], alts := [], laidByText := true, laidKinds := [.data], laidTests := true, laidLooks := .later }
def SealChangedCardSaid : Prop := Claim7.holds Tryd.pinned (.plain (OpenSpec.ofChange sealChangedSpec)) sealChangedCard

/-- THE TIED CARD OF 'imprimaturlaw04.SealRows'. -/
def sealRowsCard : Claim7 := { stood := { row := sealRowsRow, standIns := [], harness := (true, "23c1198cc6028943f1a14134fa6de8b9e628a93fe06d1f4a1f7e3030928c1feb"), looks := false }, kinds := [], alts := [], laidByText := true, laidKinds := [.data], laidTests := true, laidLooks := .later }
def SealRowsCardSaid : Prop := Claim7.holds Tryd.pinned (.plain (OpenSpec.ofChange sealRowsSpec)) sealRowsCard

/-- THE SECOND FORM's CARD OF 'imprimaturlaw04.SealPacks'. -/
def sealPacksUptoCard : Claim7 := { stood := { row := sealPacksUptoRow, standIns := [], harness := (true, "23c1198cc6028943f1a14134fa6de8b9e628a93fe06d1f4a1f7e3030928c1feb"), looks := false }, kinds := [], alts := [], laidByText := true, laidKinds := [.data], laidTests := true, laidLooks := .later }
def SealPacksUptoCardSaid : Prop := Claim7.holds Tryd.pinned (.plain (OpenSpec.upto sealPacksSpec)) sealPacksUptoCard

/-- THE SECOND FORM's CARD OF 'imprimaturlaw04.SealReads'. -/
def sealReadsUptoCard : Claim7 := { stood := { row := sealReadsUptoRow, standIns := [], harness := (true, "23c1198cc6028943f1a14134fa6de8b9e628a93fe06d1f4a1f7e3030928c1feb"), looks := false }, kinds := [], alts := [], laidByText := true, laidKinds := [.data], laidTests := true, laidLooks := .later }
def SealReadsUptoCardSaid : Prop := Claim7.holds Tryd.pinned (.plain (OpenSpec.upto sealReadsSpec)) sealReadsUptoCard

/-- THE SECOND FORM's CARD OF 'imprimaturlaw04.SealTorn'. -/
def sealTornUptoCard : Claim7 := { stood := { row := sealTornUptoRow, standIns := [], harness := (true, "23c1198cc6028943f1a14134fa6de8b9e628a93fe06d1f4a1f7e3030928c1feb"), looks := false }, kinds := [], alts := [], laidByText := true, laidKinds := [.data], laidTests := true, laidLooks := .later }
def SealTornUptoCardSaid : Prop := Claim7.holds Tryd.pinned (.plain (OpenSpec.upto sealTornSpec)) sealTornUptoCard

/-- THE SECOND FORM's CARD OF 'imprimaturlaw04.SealChanged'. -/
def sealChangedUptoCard : Claim7 := { stood := { row := sealChangedUptoRow, standIns := [], harness := (true, "23c1198cc6028943f1a14134fa6de8b9e628a93fe06d1f4a1f7e3030928c1feb"), looks := false }, kinds := [], alts := [], laidByText := true, laidKinds := [.data], laidTests := true, laidLooks := .later }
def SealChangedUptoCardSaid : Prop := Claim7.holds Tryd.pinned (.plain (OpenSpec.upto sealChangedSpec)) sealChangedUptoCard

/-- THE SECOND FORM's CARD OF 'imprimaturlaw04.SealRows'. -/
def sealRowsUptoCard : Claim7 := { stood := { row := sealRowsUptoRow, standIns := [], harness := (true, "23c1198cc6028943f1a14134fa6de8b9e628a93fe06d1f4a1f7e3030928c1feb"), looks := false }, kinds := [], alts := [], laidByText := true, laidKinds := [.data], laidTests := true, laidLooks := .later }
def SealRowsUptoCardSaid : Prop := Claim7.holds Tryd.pinned (.plain (OpenSpec.upto sealRowsSpec)) sealRowsUptoCard
end Rows
end Go.Proofs.YtaeghgnhpgkcdaaDoor
