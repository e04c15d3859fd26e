/- Binders over a body: package term's Bind, over slices.Backward. -/
import Derived.Test.YteohjbggicchgaaKTrmH
import Derived.Test.YteohjbggicchgaaKTrmJ
namespace Go.Proofs.Yteohjbggicchgaa
open Go Go.RowKit
set_option maxRecDepth 100000
end Go.Proofs.Yteohjbggicchgaa
