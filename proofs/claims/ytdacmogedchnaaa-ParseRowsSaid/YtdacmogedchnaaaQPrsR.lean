/- The law's alike: terms that differ in their places alone. -/
import Derived.Test.YtdacmogedchnaaaQPrsQ
import Derived.Test.YtdacmogedchnaaaQPrsM
namespace Go.Proofs.Ytdacmogedchnaaa
open Go Go.RowKit
set_option maxRecDepth 100000
end Go.Proofs.Ytdacmogedchnaaa
