/- No contract of the library's is wanted over this program; the words of its modules. -/
import Derived.Test.YtdhnlckfcccnlaaGreatProg
import Derived.Shelf.Slices.CompactS
import Derived.Shelf.Slices.Cells
import Derived.Shelf.Sort.Plain
import Derived.Shelf.Slices.In.SortNone
import Derived.Sort.OwnSorted
