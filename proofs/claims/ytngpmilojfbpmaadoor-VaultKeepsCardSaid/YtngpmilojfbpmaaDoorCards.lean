/-
  DERIVED. GIVEN WITH THE SEED: THE CARDS: each row of YtngpmilojfbpmaaDoorRows.lean that lists a variable, with what it lists TIED to the program's text (the seventh form; the later family's looks); each row that meets fmt, with fmt's text TOLD by the authors' own Lean function (tested against real Go, not proved from fmt's source: count such statements apart). THE CARD IS WHAT COUNTS. Prove the row's statement (the work); the ties are given (YtngpmilojfbpmaaDoorTie.lean); close each card by the builder's one call (the guide's Derived/Test/ToyasCard.lean, 'card_holds'). Laid BY PROGRAM, IN A SANDBOX (cutbox-door.mjs). By AI agents, Wed Nov 11 2026. No macro, syntax, notation, axiom, sorry.
-/
import Derived.Test.YtngpmilojfbpmaaDoorRows
import GoSem.ClaimSeven
namespace Go.Proofs.YtngpmilojfbpmaaDoor
namespace Rows

/-- THE TIED CARD OF 'imprimaturlaw06.VaultKeeps'. -/
def vaultKeepsCard : Claim7 := { stood := { row := vaultKeepsRow, standIns := [], harness := (true, "b5c3ed3b1612f7d6a2b0832434de8323b820326076ede83cfb53adfb1b790b48"), looks := false }, kinds := [], alts := [], laidByText := true, laidKinds := [.data], laidTests := true, laidLooks := .later }
def VaultKeepsCardSaid : Prop := Claim7.holds Tryd.pinned (.plain (OpenSpec.ofChange vaultKeepsSpec)) vaultKeepsCard

/-- THE TIED CARD OF 'imprimaturlaw07.LevelOrder'. -/
def levelOrderCard : Claim7 := { stood := { row := levelOrderRow, standIns := [], harness := (true, "b5c3ed3b1612f7d6a2b0832434de8323b820326076ede83cfb53adfb1b790b48"), looks := false }, kinds := [], alts := [], laidByText := true, laidKinds := [.data, .data, .data], laidTests := true, laidLooks := .later }
def LevelOrderCardSaid : Prop := Claim7.holds Tryd.pinned (.plain (OpenSpec.ofChange levelOrderSpec)) levelOrderCard

/-- THE TIED CARD OF 'imprimaturlaw07.LevelMax'. -/
def levelMaxCard : Claim7 := { stood := { row := levelMaxRow, standIns := [], harness := (true, "b5c3ed3b1612f7d6a2b0832434de8323b820326076ede83cfb53adfb1b790b48"), looks := false }, kinds := [], alts := [], laidByText := true, laidKinds := [.data, .data, .data], laidTests := true, laidLooks := .later }
def LevelMaxCardSaid : Prop := Claim7.holds Tryd.pinned (.plain (OpenSpec.ofChange levelMaxSpec)) levelMaxCard

/-- THE TIED CARD OF 'imprimaturlaw07.LevelInsts'. -/
def levelInstsCard : Claim7 := { stood := { row := levelInstsRow, standIns := [], harness := (true, "b5c3ed3b1612f7d6a2b0832434de8323b820326076ede83cfb53adfb1b790b48"), looks := false }, kinds := [], alts := [], laidByText := true, laidKinds := [.data, .data, .data], laidTests := true, laidLooks := .later }
def LevelInstsCardSaid : Prop := Claim7.holds Tryd.pinned (.plain (OpenSpec.ofChange levelInstsSpec)) levelInstsCard

/-- THE TIED CARD OF 'imprimaturlaw07.LevelTexts'. -/
def levelTextsCard : Claim7 := { stood := { row := levelTextsRow, standIns := [], harness := (true, "b5c3ed3b1612f7d6a2b0832434de8323b820326076ede83cfb53adfb1b790b48"), looks := false }, kinds := [], alts := [], laidByText := true, laidKinds := [.data, .data, .data], laidTests := true, laidLooks := .later }
def LevelTextsCardSaid : Prop := Claim7.holds Tryd.pinned (.plain (OpenSpec.ofChange levelTextsSpec)) levelTextsCard

/-- THE SECOND FORM's CARD OF 'imprimaturlaw06.VaultKeeps'. -/
def vaultKeepsUptoCard : Claim7 := { stood := { row := vaultKeepsUptoRow, standIns := [], harness := (true, "b5c3ed3b1612f7d6a2b0832434de8323b820326076ede83cfb53adfb1b790b48"), looks := false }, kinds := [], alts := [], laidByText := true, laidKinds := [.data], laidTests := true, laidLooks := .later }
def VaultKeepsUptoCardSaid : Prop := Claim7.holds Tryd.pinned (.plain (OpenSpec.upto vaultKeepsSpec)) vaultKeepsUptoCard

/-- THE SECOND FORM's CARD OF 'imprimaturlaw07.LevelOrder'. -/
def levelOrderUptoCard : Claim7 := { stood := { row := levelOrderUptoRow, standIns := [], harness := (true, "b5c3ed3b1612f7d6a2b0832434de8323b820326076ede83cfb53adfb1b790b48"), looks := false }, kinds := [], alts := [], laidByText := true, laidKinds := [.data, .data, .data], laidTests := true, laidLooks := .later }
def LevelOrderUptoCardSaid : Prop := Claim7.holds Tryd.pinned (.plain (OpenSpec.upto levelOrderSpec)) levelOrderUptoCard

/-- THE SECOND FORM's CARD OF 'imprimaturlaw07.LevelMax'. -/
def levelMaxUptoCard : Claim7 := { stood := { row := levelMaxUptoRow, standIns := [], harness := (true, "b5c3ed3b1612f7d6a2b0832434de8323b820326076ede83cfb53adfb1b790b48"), looks := false }, kinds := [], alts := [], laidByText := true, laidKinds := [.data, .data, .data], laidTests := true, laidLooks := .later }
def LevelMaxUptoCardSaid : Prop := Claim7.holds Tryd.pinned (.plain (OpenSpec.upto levelMaxSpec)) levelMaxUptoCard

/-- THE SECOND FORM's CARD OF 'imprimaturlaw07.LevelInsts'. -/
def levelInstsUptoCard : Claim7 := { stood := { row := levelInstsUptoRow, standIns := [], harness := (true, "b5c3ed3b1612f7d6a2b0832434de8323b820326076ede83cfb53adfb1b790b48"), looks := false }, kinds := [], alts := [], laidByText := true, laidKinds := [.data, .data, .data], laidTests := true, laidLooks := .later }
def LevelInstsUptoCardSaid : Prop := Claim7.holds Tryd.pinned (.plain (OpenSpec.upto levelInstsSpec)) levelInstsUptoCard

/-- THE SECOND FORM's CARD OF 'imprimaturlaw07.LevelTexts'. -/
def levelTextsUptoCard : Claim7 := { stood := { row := levelTextsUptoRow, standIns := [], harness := (true, "b5c3ed3b1612f7d6a2b0832434de8323b820326076ede83cfb53adfb1b790b48"), looks := false }, kinds := [], alts := [], laidByText := true, laidKinds := [.data, .data, .data], laidTests := true, laidLooks := .later }
def LevelTextsUptoCardSaid : Prop := Claim7.holds Tryd.pinned (.plain (OpenSpec.upto levelTextsSpec)) levelTextsUptoCard
end Rows
end Go.Proofs.YtngpmilojfbpmaaDoor
