/-
  NARROWER THAN 'FOR EVERY INPUT', by the rows' own cells (each row's printed sentence says how): SealPacks: laid · SealReads: laid · SealTorn: laid · SealChanged: laid · SealRows: laid.
  DERIVED. THE GIVEN ROWS OF THIS SEAT. 5 by the template 'for every input the law returns true; each argument reads behind the call as it read before'; 0 by the template 'total and deterministic' (their statements: YtaeghgnhpgkcdaaDoorTotals.lean).
  GIVEN WITH THE SEED: the statements are not yours to turn. If you find one false, say at which input.
  Laid BY PROGRAM, IN A SANDBOX (cutbox-rows.mjs): the forced cells as the released guide's own fill.sh prints them over the translation c50593ae0d5247de… (all of the seat's roots in one cut). By AI agents, Wed Nov 11 2026. No macro, syntax, notation, axiom, sorry.
-/
import Derived.Test.YtaeghgnhpgkcdaaDoorChecked
import GoSem.Claim
import GoSem.ClaimJoined
import GoSem.ClaimMapViews
import Derived.JoinedTies
import Derived.KernelRfl
namespace Go.Proofs.YtaeghgnhpgkcdaaDoor
/- THE CELL 'sum', in the pinned program and in every row, IS THE sha256 OF THE DUMP (.gsa) THAT YtaeghgnhpgkcdaaDoorProg.lean LOADS. Nothing in Lean hashes anything: it is a label: what it is worth is what the hold of that sum in a sandbox is worth. -/
noncomputable def Tryd.pinned : Pinned := { name := "ytaeghgnhpgkcdaadoor", sum := "c50593ae0d5247dee4388af67605de7fad1d853b3bd80b289eba39daa7c81252", checked := Tryd.checked }
namespace Rows
def none {H : Type} : Left H := { results := [], args := [] }

/- WHAT THE LISTED PACKAGE-LEVEL VARIABLES READ AS WHEN THE CALL BEGINS. Each datum BY PROGRAM (the guide's laid-datum.mjs) off the statement by which the dump's own 'gosem.cut.vars' lays the variable. In a bare row this is a premise. The card (YtaeghgnhpgkcdaaDoorCards.lean) ties it to the program's text. -/
def laid_imprimatur_sha_roundWords {H : Type} : DataW H := .agg [.lit (.int .u32 1116352408), .lit (.int .u32 1899447441), .lit (.int .u32 3049323471), .lit (.int .u32 3921009573), .lit (.int .u32 961987163), .lit (.int .u32 1508970993), .lit (.int .u32 2453635748), .lit (.int .u32 2870763221), .lit (.int .u32 3624381080), .lit (.int .u32 310598401), .lit (.int .u32 607225278), .lit (.int .u32 1426881987), .lit (.int .u32 1925078388), .lit (.int .u32 2162078206), .lit (.int .u32 2614888103), .lit (.int .u32 3248222580), .lit (.int .u32 3835390401), .lit (.int .u32 4022224774), .lit (.int .u32 264347078), .lit (.int .u32 604807628), .lit (.int .u32 770255983), .lit (.int .u32 1249150122), .lit (.int .u32 1555081692), .lit (.int .u32 1996064986), .lit (.int .u32 2554220882), .lit (.int .u32 2821834349), .lit (.int .u32 2952996808), .lit (.int .u32 3210313671), .lit (.int .u32 3336571891), .lit (.int .u32 3584528711), .lit (.int .u32 113926993), .lit (.int .u32 338241895), .lit (.int .u32 666307205), .lit (.int .u32 773529912), .lit (.int .u32 1294757372), .lit (.int .u32 1396182291), .lit (.int .u32 1695183700), .lit (.int .u32 1986661051), .lit (.int .u32 2177026350), .lit (.int .u32 2456956037), .lit (.int .u32 2730485921), .lit (.int .u32 2820302411), .lit (.int .u32 3259730800), .lit (.int .u32 3345764771), .lit (.int .u32 3516065817), .lit (.int .u32 3600352804), .lit (.int .u32 4094571909), .lit (.int .u32 275423344), .lit (.int .u32 430227734), .lit (.int .u32 506948616), .lit (.int .u32 659060556), .lit (.int .u32 883997877), .lit (.int .u32 958139571), .lit (.int .u32 1322822218), .lit (.int .u32 1537002063), .lit (.int .u32 1747873779), .lit (.int .u32 1955562222), .lit (.int .u32 2024104815), .lit (.int .u32 2227730452), .lit (.int .u32 2361852424), .lit (.int .u32 2428436474), .lit (.int .u32 2756734187), .lit (.int .u32 3204031479), .lit (.int .u32 3329325298)]

/-- 'imprimaturlaw04.SealPacks': WHATEVER THE INPUT: true; the input reads as it did. -/
def sealPacksSpec : ChangeSpec := { name := "sealPacks", fn := fun _ => fun
  | [d1, d2, d3, d4, d5] => { results := [.lit (.bool true)], args := [d1, d2, d3, d4, d5] }
  | _ => none }
def sealPacksRow : OpenClaim := { program := "ytaeghgnhpgkcdaadoor", sum := "c50593ae0d5247dee4388af67605de7fad1d853b3bd80b289eba39daa7c81252", func := "imprimatur/imprimaturlaw04.SealPacks", spec := "sealPacks", named := ["imprimatur/sha.roundWords"], apart := false, laid := [("imprimatur/sha.roundWords", laid_imprimatur_sha_roundWords)] }
def SealPacksSaid : Prop := sealPacksRow.holds Tryd.pinned (OpenSpec.ofChange sealPacksSpec)

/-- ITS FALSE NEIGHBOUR: 'it returns false'. Refute it at one input. -/
def sealPacksWrong : ChangeSpec := { name := "sealPacks", fn := fun _ => fun
  | [d1, d2, d3, d4, d5] => { results := [.lit (.bool false)], args := [d1, d2, d3, d4, d5] }
  | _ => none }
def SealPacksWrongFalsely : Prop := sealPacksRow.holds Tryd.pinned (OpenSpec.ofChange sealPacksWrong)

/-- 'imprimaturlaw04.SealReads': WHATEVER THE INPUT: true; the input reads as it did. -/
def sealReadsSpec : ChangeSpec := { name := "sealReads", fn := fun _ => fun
  | [d1, d2, d3] => { results := [.lit (.bool true)], args := [d1, d2, d3] }
  | _ => none }
def sealReadsRow : OpenClaim := { program := "ytaeghgnhpgkcdaadoor", sum := "c50593ae0d5247dee4388af67605de7fad1d853b3bd80b289eba39daa7c81252", func := "imprimatur/imprimaturlaw04.SealReads", spec := "sealReads", named := ["imprimatur/sha.roundWords"], apart := false, laid := [("imprimatur/sha.roundWords", laid_imprimatur_sha_roundWords)] }
def SealReadsSaid : Prop := sealReadsRow.holds Tryd.pinned (OpenSpec.ofChange sealReadsSpec)

/-- ITS FALSE NEIGHBOUR: 'it returns false'. Refute it at one input. -/
def sealReadsWrong : ChangeSpec := { name := "sealReads", fn := fun _ => fun
  | [d1, d2, d3] => { results := [.lit (.bool false)], args := [d1, d2, d3] }
  | _ => none }
def SealReadsWrongFalsely : Prop := sealReadsRow.holds Tryd.pinned (OpenSpec.ofChange sealReadsWrong)

/-- 'imprimaturlaw04.SealTorn': WHATEVER THE INPUT: true; the input reads as it did. -/
def sealTornSpec : ChangeSpec := { name := "sealTorn", fn := fun _ => fun
  | [d1, d2, d3, d4, d5, d6, d7] => { results := [.lit (.bool true)], args := [d1, d2, d3, d4, d5, d6, d7] }
  | _ => none }
def sealTornRow : OpenClaim := { program := "ytaeghgnhpgkcdaadoor", sum := "c50593ae0d5247dee4388af67605de7fad1d853b3bd80b289eba39daa7c81252", func := "imprimatur/imprimaturlaw04.SealTorn", spec := "sealTorn", named := ["imprimatur/sha.roundWords"], apart := false, laid := [("imprimatur/sha.roundWords", laid_imprimatur_sha_roundWords)] }
def SealTornSaid : Prop := sealTornRow.holds Tryd.pinned (OpenSpec.ofChange sealTornSpec)

/-- ITS FALSE NEIGHBOUR: 'it returns false'. Refute it at one input. -/
def sealTornWrong : ChangeSpec := { name := "sealTorn", fn := fun _ => fun
  | [d1, d2, d3, d4, d5, d6, d7] => { results := [.lit (.bool false)], args := [d1, d2, d3, d4, d5, d6, d7] }
  | _ => none }
def SealTornWrongFalsely : Prop := sealTornRow.holds Tryd.pinned (OpenSpec.ofChange sealTornWrong)

/-- 'imprimaturlaw04.SealChanged': WHATEVER THE INPUT: true; the input reads as it did. -/
def sealChangedSpec : ChangeSpec := { name := "sealChanged", fn := fun _ => fun
  | [d1, d2, d3, d4, d5, d6] => { results := [.lit (.bool true)], args := [d1, d2, d3, d4, d5, d6] }
  | _ => none }
def sealChangedRow : OpenClaim := { program := "ytaeghgnhpgkcdaadoor", sum := "c50593ae0d5247dee4388af67605de7fad1d853b3bd80b289eba39daa7c81252", func := "imprimatur/imprimaturlaw04.SealChanged", spec := "sealChanged", named := ["imprimatur/sha.roundWords"], apart := false, laid := [("imprimatur/sha.roundWords", laid_imprimatur_sha_roundWords)] }
def SealChangedSaid : Prop := sealChangedRow.holds Tryd.pinned (OpenSpec.ofChange sealChangedSpec)

/-- ITS FALSE NEIGHBOUR: 'it returns false'. Refute it at one input. -/
def sealChangedWrong : ChangeSpec := { name := "sealChanged", fn := fun _ => fun
  | [d1, d2, d3, d4, d5, d6] => { results := [.lit (.bool false)], args := [d1, d2, d3, d4, d5, d6] }
  | _ => none }
def SealChangedWrongFalsely : Prop := sealChangedRow.holds Tryd.pinned (OpenSpec.ofChange sealChangedWrong)

/-- 'imprimaturlaw04.SealRows': WHATEVER THE INPUT: true; the input reads as it did. -/
def sealRowsSpec : ChangeSpec := { name := "sealRows", fn := fun _ => fun
  | [d1, d2, d3] => { results := [.lit (.bool true)], args := [d1, d2, d3] }
  | _ => none }
def sealRowsRow : OpenClaim := { program := "ytaeghgnhpgkcdaadoor", sum := "c50593ae0d5247dee4388af67605de7fad1d853b3bd80b289eba39daa7c81252", func := "imprimatur/imprimaturlaw04.SealRows", spec := "sealRows", named := ["imprimatur/sha.roundWords"], apart := false, laid := [("imprimatur/sha.roundWords", laid_imprimatur_sha_roundWords)] }
def SealRowsSaid : Prop := sealRowsRow.holds Tryd.pinned (OpenSpec.ofChange sealRowsSpec)

/-- ITS FALSE NEIGHBOUR: 'it returns false'. Refute it at one input. -/
def sealRowsWrong : ChangeSpec := { name := "sealRows", fn := fun _ => fun
  | [d1, d2, d3] => { results := [.lit (.bool false)], args := [d1, d2, d3] }
  | _ => none }
def SealRowsWrongFalsely : Prop := sealRowsRow.holds Tryd.pinned (OpenSpec.ofChange sealRowsWrong)

/- THE SECOND FORM. 'bulk': how many values and letters a reading holds, each counted each time it is reached (what is shared counts as often as it is met; a slice's spare places count too). A statement '..UptoSaid' is the law's where the arguments, and the package variables that the reading takes, are together of bulk at most 1048576: NARROWER than '..Said'. Prove '..Said' where nothing that the law and all that it calls make is longer than what came in: it says more and counts as full. Else prove '..UptoSaid'. A law counts once. -/
mutual
def uptoBulk {H : Type} : DataW H → Nat
  | .lit (.string bytes) => bytes.length + 1
  | .lit _ => 1
  | .nil => 1
  | .ptr d => uptoBulk d + 1
  | .slice elems spare => uptoBulkAll elems + uptoBulkAll spare + 1
  | .agg parts => uptoBulkAll parts + 1
  | .iface _ d => uptoBulk d + 1
  | .map entries => uptoBulkEntries entries + 1
  | .held _ => 1
def uptoBulkAll {H : Type} : List (DataW H) → Nat
  | [] => 0
  | d :: r => uptoBulk d + uptoBulkAll r
def uptoBulkEntries {H : Type} : List (Lit × DataW H) → Nat
  | [] => 0
  | x :: r => uptoBulkEntry x + uptoBulkEntries r
def uptoBulkEntry {H : Type} : Lit × DataW H → Nat
  | (.string bytes, d) => bytes.length + uptoBulk d + 1
  | (_, d) => uptoBulk d + 1
 end
def uptoSmall : (H : Type) → List (DataW H) → Bool := fun _ ds => decide (uptoBulkAll ds ≤ 1048576)
def OpenSpec.upto (s : _root_.Go.ChangeSpec) : _root_.Go.OpenSpec := { _root_.Go.OpenSpec.ofChange s with cond := some uptoSmall }

/-- 'imprimaturlaw04.SealPacks', WHERE WHAT IT READS IS OF BULK AT MOST 1048576: true; the input reads as it did. -/
def sealPacksUptoRow : OpenClaim := { program := "ytaeghgnhpgkcdaadoor", sum := "c50593ae0d5247dee4388af67605de7fad1d853b3bd80b289eba39daa7c81252", func := "imprimatur/imprimaturlaw04.SealPacks", spec := "sealPacks", named := ["imprimatur/sha.roundWords"], apart := false, laid := [("imprimatur/sha.roundWords", laid_imprimatur_sha_roundWords)], narrowed := true }
def SealPacksUptoSaid : Prop := sealPacksUptoRow.holds Tryd.pinned (OpenSpec.upto sealPacksSpec)

/-- 'imprimaturlaw04.SealReads', WHERE WHAT IT READS IS OF BULK AT MOST 1048576: true; the input reads as it did. -/
def sealReadsUptoRow : OpenClaim := { program := "ytaeghgnhpgkcdaadoor", sum := "c50593ae0d5247dee4388af67605de7fad1d853b3bd80b289eba39daa7c81252", func := "imprimatur/imprimaturlaw04.SealReads", spec := "sealReads", named := ["imprimatur/sha.roundWords"], apart := false, laid := [("imprimatur/sha.roundWords", laid_imprimatur_sha_roundWords)], narrowed := true }
def SealReadsUptoSaid : Prop := sealReadsUptoRow.holds Tryd.pinned (OpenSpec.upto sealReadsSpec)

/-- 'imprimaturlaw04.SealTorn', WHERE WHAT IT READS IS OF BULK AT MOST 1048576: true; the input reads as it did. -/
def sealTornUptoRow : OpenClaim := { program := "ytaeghgnhpgkcdaadoor", sum := "c50593ae0d5247dee4388af67605de7fad1d853b3bd80b289eba39daa7c81252", func := "imprimatur/imprimaturlaw04.SealTorn", spec := "sealTorn", named := ["imprimatur/sha.roundWords"], apart := false, laid := [("imprimatur/sha.roundWords", laid_imprimatur_sha_roundWords)], narrowed := true }
def SealTornUptoSaid : Prop := sealTornUptoRow.holds Tryd.pinned (OpenSpec.upto sealTornSpec)

/-- 'imprimaturlaw04.SealChanged', WHERE WHAT IT READS IS OF BULK AT MOST 1048576: true; the input reads as it did. -/
def sealChangedUptoRow : OpenClaim := { program := "ytaeghgnhpgkcdaadoor", sum := "c50593ae0d5247dee4388af67605de7fad1d853b3bd80b289eba39daa7c81252", func := "imprimatur/imprimaturlaw04.SealChanged", spec := "sealChanged", named := ["imprimatur/sha.roundWords"], apart := false, laid := [("imprimatur/sha.roundWords", laid_imprimatur_sha_roundWords)], narrowed := true }
def SealChangedUptoSaid : Prop := sealChangedUptoRow.holds Tryd.pinned (OpenSpec.upto sealChangedSpec)

/-- 'imprimaturlaw04.SealRows', WHERE WHAT IT READS IS OF BULK AT MOST 1048576: true; the input reads as it did. -/
def sealRowsUptoRow : OpenClaim := { program := "ytaeghgnhpgkcdaadoor", sum := "c50593ae0d5247dee4388af67605de7fad1d853b3bd80b289eba39daa7c81252", func := "imprimatur/imprimaturlaw04.SealRows", spec := "sealRows", named := ["imprimatur/sha.roundWords"], apart := false, laid := [("imprimatur/sha.roundWords", laid_imprimatur_sha_roundWords)], narrowed := true }
def SealRowsUptoSaid : Prop := sealRowsUptoRow.holds Tryd.pinned (OpenSpec.upto sealRowsSpec)

end Rows
end Go.Proofs.YtaeghgnhpgkcdaaDoor
