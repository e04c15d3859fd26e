/- The document's own Word. -/
import Derived.Test.YteohjbggicchgaaBTrmQ
import Derived.Test.YteohjbggicchgaaBTrmR
import Derived.Test.YteohjbggicchgaaBGenT
namespace Go.Proofs.Yteohjbggicchgaa
open Go Go.RowKit
set_option maxRecDepth 100000
end Go.Proofs.Yteohjbggicchgaa
