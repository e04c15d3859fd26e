/- The document's Formed. -/
import Derived.Test.YteohjbggicchgaaQCodM
import Derived.Test.YteohjbggicchgaaQTrmRw
namespace Go.Proofs.Yteohjbggicchgaa
open Go Go.RowKit
set_option maxRecDepth 100000
end Go.Proofs.Yteohjbggicchgaa
