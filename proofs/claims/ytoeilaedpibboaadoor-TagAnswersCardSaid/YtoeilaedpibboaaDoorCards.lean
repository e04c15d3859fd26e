/-
  DERIVED. GIVEN WITH THE SEED: THE CARDS: each row of YtoeilaedpibboaaDoorRows.lean that lists a variable, with what it lists TIED to the program's text (the seventh form; the later family's looks); each row that meets fmt, with fmt's text TOLD by the authors' own Lean function (tested against real Go, not proved from fmt's source: count such statements apart). THE CARD IS WHAT COUNTS. Prove the row's statement (the work); the ties are given (YtoeilaedpibboaaDoorTie.lean); close each card by the builder's one call (the guide's Derived/Test/ToyasCard.lean, 'card_holds'). Laid BY PROGRAM, IN A SANDBOX (cutbox-door.mjs). By AI agents, Wed Nov 11 2026. No macro, syntax, notation, axiom, sorry.
-/
import Derived.Test.YtoeilaedpibboaaDoorRows
import GoSem.ClaimSeven
namespace Go.Proofs.YtoeilaedpibboaaDoor
namespace Rows

/-- THE TIED CARD OF 'imprimaturlaw02.TagAnswers'. -/
def tagAnswersCard : Claim7 := { stood := { row := tagAnswersRow, standIns := [], harness := (true, "ea2ca63322f126d9f147680ed29e09940a00a72cc1b5a594b0b1aef848bc7ebd"), looks := false }, kinds := [], alts := [], laidByText := true, laidKinds := [.data], laidTests := true, laidLooks := .later }
def TagAnswersCardSaid : Prop := Claim7.holds Tryd.pinned (.plain (OpenSpec.ofChange tagAnswersSpec)) tagAnswersCard

/-- THE TIED CARD OF 'imprimaturlaw02.TagSets'. -/
def tagSetsCard : Claim7 := { stood := { row := tagSetsRow, standIns := [], harness := (true, "ea2ca63322f126d9f147680ed29e09940a00a72cc1b5a594b0b1aef848bc7ebd"), looks := false }, kinds := [], alts := [], laidByText := true, laidKinds := [.data], laidTests := true, laidLooks := .later }
def TagSetsCardSaid : Prop := Claim7.holds Tryd.pinned (.plain (OpenSpec.ofChange tagSetsSpec)) tagSetsCard

/-- THE SECOND FORM's CARD OF 'imprimaturlaw02.TagAnswers'. -/
def tagAnswersUptoCard : Claim7 := { stood := { row := tagAnswersUptoRow, standIns := [], harness := (true, "ea2ca63322f126d9f147680ed29e09940a00a72cc1b5a594b0b1aef848bc7ebd"), looks := false }, kinds := [], alts := [], laidByText := true, laidKinds := [.data], laidTests := true, laidLooks := .later }
def TagAnswersUptoCardSaid : Prop := Claim7.holds Tryd.pinned (.plain (OpenSpec.upto tagAnswersSpec)) tagAnswersUptoCard

/-- THE SECOND FORM's CARD OF 'imprimaturlaw02.TagSets'. -/
def tagSetsUptoCard : Claim7 := { stood := { row := tagSetsUptoRow, standIns := [], harness := (true, "ea2ca63322f126d9f147680ed29e09940a00a72cc1b5a594b0b1aef848bc7ebd"), looks := false }, kinds := [], alts := [], laidByText := true, laidKinds := [.data], laidTests := true, laidLooks := .later }
def TagSetsUptoCardSaid : Prop := Claim7.holds Tryd.pinned (.plain (OpenSpec.upto tagSetsSpec)) tagSetsUptoCard
end Rows
end Go.Proofs.YtoeilaedpibboaaDoor
