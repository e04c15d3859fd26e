/- Ranging over the nodes of a term: the law for a caller; how many nodes. -/
import Derived.Test.YtdacmogedchnaaaQTrmI
namespace Go.Proofs.Ytdacmogedchnaaa
open Go Go.RowKit
set_option maxRecDepth 100000
end Go.Proofs.Ytdacmogedchnaaa
