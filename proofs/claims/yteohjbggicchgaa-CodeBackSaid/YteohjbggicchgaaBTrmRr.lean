/- The document's own right, Right and Any: is a term right? -/
import Derived.Test.YteohjbggicchgaaBTrmAn
namespace Go.Proofs.Yteohjbggicchgaa
open Go Go.RowKit
set_option maxRecDepth 100000
end Go.Proofs.Yteohjbggicchgaa
