/-
  NARROWER THAN 'FOR EVERY INPUT', by the rows' own cells (each row's printed sentence says how): TermSpines: loops · MoveBack: loops · MoveSteps: loops · MoveNames: loops · MoveLevels: loops.
  DERIVED. THE GIVEN ROWS OF THIS SEAT. 5 by the template 'for every input the law returns true; each argument reads behind the call as it read before'; 0 by the template 'total and deterministic' (their statements: YtndbpmkglddjjaaTotals.lean).
  GIVEN WITH THE SEED: the statements are not yours to turn. If you find one false, say at which input.
  Laid BY PROGRAM, IN A SANDBOX (cutbox-rows.mjs): the forced cells as the released guide's own fill.sh prints them over the translation 4732368f5994d4d9… (all of the seat's roots in one cut). By AI agents, Wed Nov 11 2026. No macro, syntax, notation, axiom, sorry.
-/
import Derived.Test.YtndbpmkglddjjaaChecked
import GoSem.Claim
import GoSem.ClaimJoined
import GoSem.ClaimMapViews
import Derived.JoinedTies
import Derived.KernelRfl
namespace Go.Proofs.Ytndbpmkglddjjaa
/- THE CELL 'sum', in the pinned program and in every row, IS THE sha256 OF THE DUMP (.gsa) THAT YtndbpmkglddjjaaProg.lean LOADS. Nothing in Lean hashes anything: it is a label: what it is worth is what the hold of that sum in a sandbox is worth. -/
noncomputable def Try.pinned : Pinned := { name := "ytndbpmkglddjjaa", sum := "4732368f5994d4d99c90fb0d977027042e11c04e852571572351728237e3d7a4", checked := Try.checked }
namespace Rows
def none {H : Type} : Left H := { results := [], args := [] }

/-- 'imprimaturlaw08.TermSpines': WHATEVER THE INPUT: true; the input reads as it did. -/
def termSpinesSpec : ChangeSpec := { name := "termSpines", fn := fun _ => fun
  | [d] => { results := [.lit (.bool true)], args := [d] }
  | _ => none }
def termSpinesRow : OpenClaim := { program := "ytndbpmkglddjjaa", sum := "4732368f5994d4d99c90fb0d977027042e11c04e852571572351728237e3d7a4", func := "imprimatur/imprimaturlaw08.TermSpines", spec := "termSpines", unfollowed := true, recurses := true, loops := true, apart := false }
def TermSpinesSaid : Prop := termSpinesRow.holds Try.pinned (OpenSpec.ofChange termSpinesSpec)

/-- ITS FALSE NEIGHBOUR: 'it returns false'. Refute it at one input. -/
def termSpinesWrong : ChangeSpec := { name := "termSpines", fn := fun _ => fun
  | [d] => { results := [.lit (.bool false)], args := [d] }
  | _ => none }
def TermSpinesWrongFalsely : Prop := termSpinesRow.holds Try.pinned (OpenSpec.ofChange termSpinesWrong)

/-- 'imprimaturlaw09.MoveBack': WHATEVER THE INPUT: true; the input reads as it did. -/
def moveBackSpec : ChangeSpec := { name := "moveBack", fn := fun _ => fun
  | [d1, d2, d3] => { results := [.lit (.bool true)], args := [d1, d2, d3] }
  | _ => none }
def moveBackRow : OpenClaim := { program := "ytndbpmkglddjjaa", sum := "4732368f5994d4d99c90fb0d977027042e11c04e852571572351728237e3d7a4", func := "imprimatur/imprimaturlaw09.MoveBack", spec := "moveBack", unfollowed := true, recurses := true, loops := true, apart := false }
def MoveBackSaid : Prop := moveBackRow.holds Try.pinned (OpenSpec.ofChange moveBackSpec)

/-- ITS FALSE NEIGHBOUR: 'it returns false'. Refute it at one input. -/
def moveBackWrong : ChangeSpec := { name := "moveBack", fn := fun _ => fun
  | [d1, d2, d3] => { results := [.lit (.bool false)], args := [d1, d2, d3] }
  | _ => none }
def MoveBackWrongFalsely : Prop := moveBackRow.holds Try.pinned (OpenSpec.ofChange moveBackWrong)

/-- 'imprimaturlaw09.MoveSteps': WHATEVER THE INPUT: true; the input reads as it did. -/
def moveStepsSpec : ChangeSpec := { name := "moveSteps", fn := fun _ => fun
  | [d1, d2, d3] => { results := [.lit (.bool true)], args := [d1, d2, d3] }
  | _ => none }
def moveStepsRow : OpenClaim := { program := "ytndbpmkglddjjaa", sum := "4732368f5994d4d99c90fb0d977027042e11c04e852571572351728237e3d7a4", func := "imprimatur/imprimaturlaw09.MoveSteps", spec := "moveSteps", unfollowed := true, recurses := true, loops := true, apart := false }
def MoveStepsSaid : Prop := moveStepsRow.holds Try.pinned (OpenSpec.ofChange moveStepsSpec)

/-- ITS FALSE NEIGHBOUR: 'it returns false'. Refute it at one input. -/
def moveStepsWrong : ChangeSpec := { name := "moveSteps", fn := fun _ => fun
  | [d1, d2, d3] => { results := [.lit (.bool false)], args := [d1, d2, d3] }
  | _ => none }
def MoveStepsWrongFalsely : Prop := moveStepsRow.holds Try.pinned (OpenSpec.ofChange moveStepsWrong)

/-- 'imprimaturlaw09.MoveNames': WHATEVER THE INPUT: true; the input reads as it did. -/
def moveNamesSpec : ChangeSpec := { name := "moveNames", fn := fun _ => fun
  | [d1, d2, d3] => { results := [.lit (.bool true)], args := [d1, d2, d3] }
  | _ => none }
def moveNamesRow : OpenClaim := { program := "ytndbpmkglddjjaa", sum := "4732368f5994d4d99c90fb0d977027042e11c04e852571572351728237e3d7a4", func := "imprimatur/imprimaturlaw09.MoveNames", spec := "moveNames", unfollowed := true, recurses := true, loops := true, apart := false }
def MoveNamesSaid : Prop := moveNamesRow.holds Try.pinned (OpenSpec.ofChange moveNamesSpec)

/-- ITS FALSE NEIGHBOUR: 'it returns false'. Refute it at one input. -/
def moveNamesWrong : ChangeSpec := { name := "moveNames", fn := fun _ => fun
  | [d1, d2, d3] => { results := [.lit (.bool false)], args := [d1, d2, d3] }
  | _ => none }
def MoveNamesWrongFalsely : Prop := moveNamesRow.holds Try.pinned (OpenSpec.ofChange moveNamesWrong)

/-- 'imprimaturlaw09.MoveLevels': WHATEVER THE INPUT: true; the input reads as it did. -/
def moveLevelsSpec : ChangeSpec := { name := "moveLevels", fn := fun _ => fun
  | [d1, d2] => { results := [.lit (.bool true)], args := [d1, d2] }
  | _ => none }
def moveLevelsRow : OpenClaim := { program := "ytndbpmkglddjjaa", sum := "4732368f5994d4d99c90fb0d977027042e11c04e852571572351728237e3d7a4", func := "imprimatur/imprimaturlaw09.MoveLevels", spec := "moveLevels", unfollowed := true, recurses := true, loops := true, apart := false }
def MoveLevelsSaid : Prop := moveLevelsRow.holds Try.pinned (OpenSpec.ofChange moveLevelsSpec)

/-- ITS FALSE NEIGHBOUR: 'it returns false'. Refute it at one input. -/
def moveLevelsWrong : ChangeSpec := { name := "moveLevels", fn := fun _ => fun
  | [d1, d2] => { results := [.lit (.bool false)], args := [d1, d2] }
  | _ => none }
def MoveLevelsWrongFalsely : Prop := moveLevelsRow.holds Try.pinned (OpenSpec.ofChange moveLevelsWrong)

/- THE SECOND FORM. 'bulk': how many values and letters a reading holds, each counted each time it is reached (what is shared counts as often as it is met; a slice's spare places count too). A statement '..UptoSaid' is the law's where the arguments, and the package variables that the reading takes, are together of bulk at most 1048576: NARROWER than '..Said'. Prove '..Said' where nothing that the law and all that it calls make is longer than what came in: it says more and counts as full. Else prove '..UptoSaid'. A law counts once. -/
mutual
def uptoBulk {H : Type} : DataW H → Nat
  | .lit (.string bytes) => bytes.length + 1
  | .lit _ => 1
  | .nil => 1
  | .ptr d => uptoBulk d + 1
  | .slice elems spare => uptoBulkAll elems + uptoBulkAll spare + 1
  | .agg parts => uptoBulkAll parts + 1
  | .iface _ d => uptoBulk d + 1
  | .map entries => uptoBulkEntries entries + 1
  | .held _ => 1
def uptoBulkAll {H : Type} : List (DataW H) → Nat
  | [] => 0
  | d :: r => uptoBulk d + uptoBulkAll r
def uptoBulkEntries {H : Type} : List (Lit × DataW H) → Nat
  | [] => 0
  | x :: r => uptoBulkEntry x + uptoBulkEntries r
def uptoBulkEntry {H : Type} : Lit × DataW H → Nat
  | (.string bytes, d) => bytes.length + uptoBulk d + 1
  | (_, d) => uptoBulk d + 1
 end
def uptoSmall : (H : Type) → List (DataW H) → Bool := fun _ ds => decide (uptoBulkAll ds ≤ 1048576)
def OpenSpec.upto (s : _root_.Go.ChangeSpec) : _root_.Go.OpenSpec := { _root_.Go.OpenSpec.ofChange s with cond := some uptoSmall }

/-- 'imprimaturlaw08.TermSpines', WHERE WHAT IT READS IS OF BULK AT MOST 1048576: true; the input reads as it did. -/
def termSpinesUptoRow : OpenClaim := { program := "ytndbpmkglddjjaa", sum := "4732368f5994d4d99c90fb0d977027042e11c04e852571572351728237e3d7a4", func := "imprimatur/imprimaturlaw08.TermSpines", spec := "termSpines", unfollowed := true, recurses := true, loops := true, apart := false, narrowed := true }
def TermSpinesUptoSaid : Prop := termSpinesUptoRow.holds Try.pinned (OpenSpec.upto termSpinesSpec)

/-- 'imprimaturlaw09.MoveBack', WHERE WHAT IT READS IS OF BULK AT MOST 1048576: true; the input reads as it did. -/
def moveBackUptoRow : OpenClaim := { program := "ytndbpmkglddjjaa", sum := "4732368f5994d4d99c90fb0d977027042e11c04e852571572351728237e3d7a4", func := "imprimatur/imprimaturlaw09.MoveBack", spec := "moveBack", unfollowed := true, recurses := true, loops := true, apart := false, narrowed := true }
def MoveBackUptoSaid : Prop := moveBackUptoRow.holds Try.pinned (OpenSpec.upto moveBackSpec)

/-- 'imprimaturlaw09.MoveSteps', WHERE WHAT IT READS IS OF BULK AT MOST 1048576: true; the input reads as it did. -/
def moveStepsUptoRow : OpenClaim := { program := "ytndbpmkglddjjaa", sum := "4732368f5994d4d99c90fb0d977027042e11c04e852571572351728237e3d7a4", func := "imprimatur/imprimaturlaw09.MoveSteps", spec := "moveSteps", unfollowed := true, recurses := true, loops := true, apart := false, narrowed := true }
def MoveStepsUptoSaid : Prop := moveStepsUptoRow.holds Try.pinned (OpenSpec.upto moveStepsSpec)

/-- 'imprimaturlaw09.MoveNames', WHERE WHAT IT READS IS OF BULK AT MOST 1048576: true; the input reads as it did. -/
def moveNamesUptoRow : OpenClaim := { program := "ytndbpmkglddjjaa", sum := "4732368f5994d4d99c90fb0d977027042e11c04e852571572351728237e3d7a4", func := "imprimatur/imprimaturlaw09.MoveNames", spec := "moveNames", unfollowed := true, recurses := true, loops := true, apart := false, narrowed := true }
def MoveNamesUptoSaid : Prop := moveNamesUptoRow.holds Try.pinned (OpenSpec.upto moveNamesSpec)

/-- 'imprimaturlaw09.MoveLevels', WHERE WHAT IT READS IS OF BULK AT MOST 1048576: true; the input reads as it did. -/
def moveLevelsUptoRow : OpenClaim := { program := "ytndbpmkglddjjaa", sum := "4732368f5994d4d99c90fb0d977027042e11c04e852571572351728237e3d7a4", func := "imprimatur/imprimaturlaw09.MoveLevels", spec := "moveLevels", unfollowed := true, recurses := true, loops := true, apart := false, narrowed := true }
def MoveLevelsUptoSaid : Prop := moveLevelsUptoRow.holds Try.pinned (OpenSpec.upto moveLevelsSpec)

end Rows
end Go.Proofs.Ytndbpmkglddjjaa
