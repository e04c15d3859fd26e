/- CopyBytes gives the same bytes in new memory of its own; append of bytes onto bytes that the call itself owns. -/
import Derived.Test.YtaeghgnhpgkcdaaDoorGenB
import Derived.Test.YtaeghgnhpgkcdaaDoorShaAlive
import Derived.Laws.AppendOwnNone
import Derived.OwnWalk
namespace Go.Proofs.YtaeghgnhpgkcdaaDoor
open Go.RowKit
set_option maxRecDepth 100000

end Go.Proofs.YtaeghgnhpgkcdaaDoor
