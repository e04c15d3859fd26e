/- The document's own Word. -/
import Derived.Test.YteohjbggicchgaaQTrmQ
import Derived.Test.YteohjbggicchgaaQTrmR
import Derived.Test.YteohjbggicchgaaQGenT
namespace Go.Proofs.Yteohjbggicchgaa
open Go Go.RowKit
set_option maxRecDepth 100000
end Go.Proofs.Yteohjbggicchgaa
