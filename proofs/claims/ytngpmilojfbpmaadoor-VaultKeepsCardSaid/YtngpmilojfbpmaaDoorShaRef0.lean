/- The statements' own helpers: SameBytes of equal bytes is true, CopyBytes gives the same bytes in new memory. -/
import Derived.Test.YtngpmilojfbpmaaDoorGenB
import Derived.Test.YtngpmilojfbpmaaDoorShaSum
namespace Go.Proofs.YtngpmilojfbpmaaDoor
open Go.RowKit
set_option maxRecDepth 100000

end Go.Proofs.YtngpmilojfbpmaaDoor
