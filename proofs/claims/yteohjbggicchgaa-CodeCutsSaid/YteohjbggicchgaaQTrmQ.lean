/- The small functions of stage 8's laws: SameTexts, Num, Param, variable, constant, Great, same. -/
import Derived.Test.YteohjbggicchgaaQTrmY
import Derived.Test.YteohjbggicchgaaQTrmZ
namespace Go.Proofs.Yteohjbggicchgaa
open Go Go.RowKit
set_option maxRecDepth 100000
end Go.Proofs.Yteohjbggicchgaa
