/- Terms and levels laid into new rows and appended to a row of the call's own: what CopyTerm, App, Bind, Spine, Strip do. -/
import Derived.Test.YtdacmogedchnaaaQTrmA
import Derived.Test.YtdacmogedchnaaaQLevB
namespace Go.Proofs.Ytdacmogedchnaaa
open Go Go.RowKit
set_option maxRecDepth 100000
end Go.Proofs.Ytdacmogedchnaaa
