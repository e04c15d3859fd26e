/- The document's Decl and Library. -/
import Derived.Test.YteohjbggicchgaaQCodN
namespace Go.Proofs.Yteohjbggicchgaa
open Go Go.RowKit
set_option maxRecDepth 100000
end Go.Proofs.Yteohjbggicchgaa
