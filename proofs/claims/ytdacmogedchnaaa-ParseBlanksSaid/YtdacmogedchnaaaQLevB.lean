/- Package level: two levels are equal for the program just if they are one. -/
import Derived.Test.YtdacmogedchnaaaQLevA
namespace Go.Proofs.Ytdacmogedchnaaa
open Go Go.RowKit
set_option maxRecDepth 100000
end Go.Proofs.Ytdacmogedchnaaa
