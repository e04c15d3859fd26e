/- What a node of a kind has: package term's shapeOf and fits. -/
import Derived.Test.YtdacmogedchnaaaQTrmW
import Derived.Test.YtdacmogedchnaaaQTrmB
namespace Go.Proofs.Ytdacmogedchnaaa
open Go Go.RowKit
set_option maxRecDepth 100000
end Go.Proofs.Ytdacmogedchnaaa
