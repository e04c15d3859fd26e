/- What the rows' own list gives: the library's table of powers of ten; a world for the witnesses. -/
import Derived.Test.YtmceocgddaaohaaGreatDoorQLevS
import Derived.Test.YtmceocgddaaohaaGreatDoorCards
import Derived.Test.YtmceocgddaaohaaGreatDoorTie
import Derived.Lib.LaidTab
namespace Go.Proofs.YtmceocgddaaohaaGreatDoor
open Go.ChangeShapes Go.WideShapes Go.ChangeAt Go.RowKit Go.Deep
set_option maxRecDepth 100000
theorem gPowT : (Tryz.prog.globals[0]?).map (·.type) = some 192 := by kernel_rfl
theorem cellsPowT : Tryz.prog.cellsOf 192 = 20 := by kernel_rfl
theorem cellsU64 : Tryz.prog.cellsOf 171 = 1 := by kernel_rfl
theorem tab_third {P : Program} {W : World} {name : String} {k : IntKind} {zs : List Int} {x y : String × DataW Unit} {rest : List (String × DataW Unit)} {g : Nat} {t e : TypeId} {n : Nat}
    (hg : P.globalNamed name = some g) (hty : (P.globals[g]?).map (·.type) = some t) (ht : P.underlying t = some (.array n e)) (he : P.underlying e = some (.int k)) (hce : P.cellsOf e = 1) (hct : P.cellsOf t = n)
    (h : laidMet P (x :: y :: (name, Lib.tabData k zs) :: rest) W) : Lib.TabIs P W name k zs := by
  obtain ⟨ps, ⟨_, _, _, _, _, _, _, _, _, _, ⟨_, _, _, _, _, _, _, _, _, _, ⟨g', t', cs, fuel, p, q, hg', ht', hvar, hd, _, _⟩, _⟩, _⟩, _⟩ := h
  obtain rfl := Option.some.inj (hg.symm.trans hg')
  obtain rfl := Option.some.inj (hty.symm.trans ht')
  unfold Lib.TabIs
  rw [hvar, ← Lib.cells_of_tab ht he hce hct hd]
theorem tab_of_laid {W : World} (h : laidMet Tryz.prog [("math/bits.deBruijn32tab", Rows.laid_math_bits_deBruijn32tab), ("math/bits.deBruijn64tab", Rows.laid_math_bits_deBruijn64tab), ("internal/strconv.uint64pow10", Rows.laid_internal_strconv_uint64pow10)] W) : TabW W :=
 tab_third (k := .u64) (zs := Lib.pow10Tab) gPow gPowT Tryz.underlying192 Tryz.underlying171 cellsU64 cellsPowT (show laidMet Tryz.prog (_ :: _ :: ("internal/strconv.uint64pow10", Lib.tabData .u64 Lib.pow10Tab) :: []) W from h)
/-- The cells that a table's datum tells. -/
def litCells : DataW Unit → Array Value
 | .agg ls => (ls.map fun | .lit l => l.value | _ => undef).toArray
 | _ => #[]
def layCells (d : DataW Unit) : Obj → Obj
 | .cells _ t frozen => .cells (litCells d) t frozen
 | o => o
/-- A world for the witnesses: the settled one, the tables holding what their initialisers lay. -/
noncomputable def laidWorld (os : Os) : World :=
 { World.holding Tryz.prog os ⟨#[], #[], []⟩ with heap := (((World.holding Tryz.prog os ⟨#[], #[], []⟩).heap.modify 2 (layCells Rows.laid_math_bits_deBruijn32tab)).modify 3 (layCells Rows.laid_math_bits_deBruijn64tab)).modify 0 (layCells Rows.laid_internal_strconv_uint64pow10) }
end Go.Proofs.YtmceocgddaaohaaGreatDoor
