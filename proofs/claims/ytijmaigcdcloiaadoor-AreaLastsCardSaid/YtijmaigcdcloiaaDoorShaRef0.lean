/- The statements' own helpers: SameBytes of equal bytes is true, CopyBytes gives the same bytes in new memory. -/
import Derived.Test.YtijmaigcdcloiaaDoorGenB
import Derived.Test.YtijmaigcdcloiaaDoorShaSum
namespace Go.Proofs.YtijmaigcdcloiaaDoor
open Go.RowKit
set_option maxRecDepth 100000

end Go.Proofs.YtijmaigcdcloiaaDoor
