/- The document's Decl and Library. -/
import Derived.Test.YteohjbggicchgaaBCodN
namespace Go.Proofs.Yteohjbggicchgaa
open Go Go.RowKit
set_option maxRecDepth 100000
end Go.Proofs.Yteohjbggicchgaa
