/- The document's own Word. -/
import Derived.Test.YtndbpmkglddjjaaQTrmQ
import Derived.Test.YtndbpmkglddjjaaQTrmR
import Derived.Test.YtndbpmkglddjjaaQGenT
namespace Go.Proofs.Ytndbpmkglddjjaa
open Go Go.RowKit
set_option maxRecDepth 100000
end Go.Proofs.Ytndbpmkglddjjaa
