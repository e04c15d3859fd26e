/- Binders over a body: package term's Bind, over slices.Backward. -/
import Derived.Test.YtdacmogedchnaaaQTrmH
import Derived.Test.YtdacmogedchnaaaQTrmJ
namespace Go.Proofs.Ytdacmogedchnaaa
open Go Go.RowKit
set_option maxRecDepth 100000
end Go.Proofs.Ytdacmogedchnaaa
