/- The document's Formed. -/
import Derived.Test.YteohjbggicchgaaBCodM
import Derived.Test.YteohjbggicchgaaBTrmRw
namespace Go.Proofs.Yteohjbggicchgaa
open Go Go.RowKit
set_option maxRecDepth 100000
end Go.Proofs.Yteohjbggicchgaa
