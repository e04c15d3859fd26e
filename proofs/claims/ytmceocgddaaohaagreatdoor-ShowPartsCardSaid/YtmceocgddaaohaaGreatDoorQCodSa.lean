/- SameDecl, of one declaration lying twice. -/
import Derived.Test.YtmceocgddaaohaaGreatDoorQCodZ
namespace Go.Proofs.YtmceocgddaaohaaGreatDoor
open Go Go.RowKit
set_option maxRecDepth 100000
end Go.Proofs.YtmceocgddaaohaaGreatDoor
