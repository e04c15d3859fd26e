import Derived.Test.YtmceocgddaaohaaGreatDoorQTrmW
import Derived.Test.YtmceocgddaaohaaGreatDoorQTrmR
import Derived.Test.YtmceocgddaaohaaGreatDoorQGenT
import Derived.Test.YtmceocgddaaohaaGreatDoorQTrmK
import Derived.Recover
import Derived.Test.YtmceocgddaaohaaGreatDoorQTrmD
import Derived.Deep.AppendSrc
import Derived.Test.YtmceocgddaaohaaGreatDoorCodSh
import Derived.Lib.ItoaNum
import Derived.Laws.IdiomStrings
import Derived.Deep.CutRange
import Derived.Deep.CutBlock
import Derived.Test.YtmceocgddaaohaaGreatDoorQTrmQ
namespace Go.Proofs.YtmceocgddaaohaaGreatDoor
open Go Go.RowKit
set_option maxRecDepth 100000
end Go.Proofs.YtmceocgddaaohaaGreatDoor
namespace Go.Proofs.YtmceocgddaaohaaGreatDoor
open Go Go.RowKit
set_option maxRecDepth 100000
def nT : Tm := .mk 0 0 [] [] []
structure Dc where
 kind : Int
 params : Int
 name : List UInt8
 ty : Tm
 val : Tm
 fixed : Int
 ctors : List (List UInt8 × Tm)
def valD (d : Dc) : Prop := d.kind = 2 ∨ d.kind = 3
instance (d : Dc) : Decidable (valD d) := by unfold valD; infer_instance
end Go.Proofs.YtmceocgddaaohaaGreatDoor
namespace Go.Proofs.YtmceocgddaaohaaGreatDoor
open Go Go.RowKit
section
variable {P : Program} {ops : Array Oper} {Q : Exit → Act → World → Prop} {S : World → Prop} {fuel : Nat} {listed : Array Bool} {a : Act} {w : World}
end
end Go.Proofs.YtmceocgddaaohaaGreatDoor
namespace Go.Proofs.YtmceocgddaaohaaGreatDoor
open Go Go.RowKit
set_option maxRecDepth 100000
section
variable {ops : Array Oper} {Q : Exit → Act → World → Prop} {S : World → Prop} {fuel : Nat} {listed : Array Bool} {a : Act} {w : World}
end
end Go.Proofs.YtmceocgddaaohaaGreatDoor
namespace Go.Proofs.YtmceocgddaaohaaGreatDoor
open Go Go.RowKit
set_option maxRecDepth 100000
end Go.Proofs.YtmceocgddaaohaaGreatDoor
namespace Go.Proofs.YtmceocgddaaohaaGreatDoor
open Go Go.RowKit
set_option maxRecDepth 100000
end Go.Proofs.YtmceocgddaaohaaGreatDoor
namespace Go.Proofs.YtmceocgddaaohaaGreatDoor
open Go Go.RowKit
set_option maxRecDepth 100000
section
variable {ops : Array Oper} {Q : Exit → Act → World → Prop} {a : Act} {w : World}
end
end Go.Proofs.YtmceocgddaaohaaGreatDoor
namespace Go.Proofs.YtmceocgddaaohaaGreatDoor
open Go Go.RowKit
set_option maxRecDepth 100000
end Go.Proofs.YtmceocgddaaohaaGreatDoor
namespace Go.Proofs.YtmceocgddaaohaaGreatDoor
open Go Go.RowKit
set_option maxRecDepth 100000
end Go.Proofs.YtmceocgddaaohaaGreatDoor
namespace Go.Proofs.YtmceocgddaaohaaGreatDoor
open Go Go.RowKit
set_option maxRecDepth 100000
end Go.Proofs.YtmceocgddaaohaaGreatDoor
namespace Go.Proofs.YtmceocgddaaohaaGreatDoor
open Go Go.RowKit
set_option maxRecDepth 100000
end Go.Proofs.YtmceocgddaaohaaGreatDoor
namespace Go.Proofs.YtmceocgddaaohaaGreatDoor
open Go Go.RowKit
set_option maxRecDepth 100000
end Go.Proofs.YtmceocgddaaohaaGreatDoor
namespace Go.Proofs.YtmceocgddaaohaaGreatDoor
open Go Go.RowKit
set_option maxRecDepth 100000
end Go.Proofs.YtmceocgddaaohaaGreatDoor
namespace Go.Proofs.YtmceocgddaaohaaGreatDoor
open Go Go.RowKit
set_option maxRecDepth 100000
end Go.Proofs.YtmceocgddaaohaaGreatDoor
