/- TakeNum, TakeLibrary. -/
import Derived.Test.YtmceocgddaaohaaGreatDoorQCodY
namespace Go.Proofs.YtmceocgddaaohaaGreatDoor
open Go Go.RowKit
set_option maxRecDepth 100000
end Go.Proofs.YtmceocgddaaohaaGreatDoor
