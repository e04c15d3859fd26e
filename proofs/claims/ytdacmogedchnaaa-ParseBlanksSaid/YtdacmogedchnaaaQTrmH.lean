/- A term applied to others, and binders over a body: package term's App, and the document's own App and Bind. -/
import Derived.Test.YtdacmogedchnaaaQTrmE
namespace Go.Proofs.Ytdacmogedchnaaa
open Go Go.RowKit
set_option maxRecDepth 100000
end Go.Proofs.Ytdacmogedchnaaa
