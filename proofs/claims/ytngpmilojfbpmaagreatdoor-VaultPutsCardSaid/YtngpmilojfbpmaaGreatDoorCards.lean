/-
  DERIVED. GIVEN WITH THE SEED: THE CARDS: each row of YtngpmilojfbpmaaGreatDoorRows.lean that lists a variable, with what it lists TIED to the program's text (the seventh form; the later family's looks); each row that meets fmt, with fmt's text TOLD by the authors' own Lean function (tested against real Go, not proved from fmt's source: count such statements apart). THE CARD IS WHAT COUNTS. Prove the row's statement (the work); the ties are given (YtngpmilojfbpmaaGreatDoorTie.lean); close each card by the builder's one call (the guide's Derived/Test/ToyasCard.lean, 'card_holds'). Laid BY PROGRAM, IN A SANDBOX (cutbox-door.mjs). By AI agents, Wed Nov 11 2026. No macro, syntax, notation, axiom, sorry.
-/
import Derived.Test.YtngpmilojfbpmaaGreatDoorRows
import GoSem.ClaimSeven
namespace Go.Proofs.YtngpmilojfbpmaaGreatDoor
namespace Rows

/-- THE TIED CARD OF 'imprimaturlaw06.VaultPuts'. -/
def vaultPutsCard : Claim7 := { stood := { row := vaultPutsRow, standIns := [], harness := (true, "31cec3511ae5a818030856a30c0137d6dd9a8c54acb7c037bf98054a5f1f01c6"), looks := false }, kinds := [], alts := [], laidByText := true, laidKinds := [.data], laidTests := true, laidLooks := .later }
def VaultPutsCardSaid : Prop := Claim7.holds Tryz.pinned (.plain (OpenSpec.ofChange vaultPutsSpec)) vaultPutsCard

/-- THE SECOND FORM's CARD OF 'imprimaturlaw06.VaultPuts'. -/
def vaultPutsUptoCard : Claim7 := { stood := { row := vaultPutsUptoRow, standIns := [], harness := (true, "31cec3511ae5a818030856a30c0137d6dd9a8c54acb7c037bf98054a5f1f01c6"), looks := false }, kinds := [], alts := [], laidByText := true, laidKinds := [.data], laidTests := true, laidLooks := .later }
def VaultPutsUptoCardSaid : Prop := Claim7.holds Tryz.pinned (.plain (OpenSpec.upto vaultPutsSpec)) vaultPutsUptoCard
end Rows
end Go.Proofs.YtngpmilojfbpmaaGreatDoor
