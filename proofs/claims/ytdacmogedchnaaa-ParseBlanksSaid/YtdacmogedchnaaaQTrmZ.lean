/- Package term's Same. -/
import Derived.Test.YtdacmogedchnaaaQTrmF
namespace Go.Proofs.Ytdacmogedchnaaa
open Go Go.RowKit
set_option maxRecDepth 100000
end Go.Proofs.Ytdacmogedchnaaa
