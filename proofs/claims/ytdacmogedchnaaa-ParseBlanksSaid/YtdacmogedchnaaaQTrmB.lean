/- Terms, by the given answers: SameTerm. -/
import Derived.Test.YtdacmogedchnaaaQTrmA
import Derived.Test.YtdacmogedchnaaaQLevB
namespace Go.Proofs.Ytdacmogedchnaaa
open Go Go.RowKit
set_option maxRecDepth 100000
end Go.Proofs.Ytdacmogedchnaaa
