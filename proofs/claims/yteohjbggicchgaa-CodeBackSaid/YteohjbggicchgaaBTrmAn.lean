/- The document's own shape and binds; its Right and Width of a level. -/
import Derived.Test.YteohjbggicchgaaBTrmRw
namespace Go.Proofs.Yteohjbggicchgaa
open Go Go.RowKit
set_option maxRecDepth 100000
end Go.Proofs.Yteohjbggicchgaa
