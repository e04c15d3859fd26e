/- Rows tells how many bytes rows have together, or more than the most, of layer 4. -/
import Derived.Test.YtngpmilojfbpmaaDoorShaRows
namespace Go.Proofs.YtngpmilojfbpmaaDoor
open Go.RowKit
set_option maxRecDepth 100000

def RowsPost3 (zss : List (List Int)) (w : World) (e : Ending) (w' : World) : Prop := ∃ r : Nat, e = .returned (.int .i64 (r : Int)) ∧ (r ≤ 3000 → zss.flatten.length ≤ r ∧ zss.length ≤ 3000) ∧ w = w'
end Go.Proofs.YtngpmilojfbpmaaDoor
