/- Package term's Same. -/
import Derived.Test.YtndbpmkglddjjaaQTrmF
namespace Go.Proofs.Ytndbpmkglddjjaa
open Go Go.RowKit
set_option maxRecDepth 100000
end Go.Proofs.Ytndbpmkglddjjaa
