/- Terms as bytes: the document's term. -/
import Derived.Test.YteohjbggicchgaaBCodG
namespace Go.Proofs.Yteohjbggicchgaa
open Go Go.RowKit
set_option maxRecDepth 100000
end Go.Proofs.Yteohjbggicchgaa
