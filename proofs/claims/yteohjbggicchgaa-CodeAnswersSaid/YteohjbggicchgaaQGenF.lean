/- How a row's arguments are opened, for a program without package sha. -/
import Derived.Test.YteohjbggicchgaaRows
import Derived.Test.YteohjbggicchgaaQGenT
import Derived.ProofKit
import Derived.OpenShut
import Derived.ChangeOld
import Derived.SizedLaws
import Derived.Deep.Matrix
import Derived.Deep.Slices
import Derived.Deep.DeepHandedRow
namespace Go.Proofs.Yteohjbggicchgaa
open Go.ChangeShapes Go.WideShapes Go.ChangeAt Go.RowKit Go.Deep
set_option maxRecDepth 100000
theorem own : ownKnob Try.prog.godebug = none := by kernel_rfl
theorem laidOut : laidOutB Try.prog = true := by kernel_rfl
theorem weights_in {H : Type} {P : Program} {e : TypeId} : ∀ {l : List (DataW H)} {d : DataW H}, d ∈ l → ∀ n ∈ d.weights P e, n ∈ DataW.weightsAll P e l
 | _ :: _, d, h, n, hn => by
  rw [DataW.weightsAll, List.mem_append]
  rcases List.mem_cons.1 h with rfl | h
  ·exact Or.inl hn
  ·exact Or.inr (weights_in h n hn)
theorem addr_plain {w : World} {a : Addr} {v : Value} (h : w.cell? (a.add 0) = some v) : a = ⟨a.block, a.off, none⟩ := by
 have : a.spot = none := World.cell?_spot (by simpa [Addr.add] using h)
 cases a; simp_all
theorem ints_of_array {H : Type} {enc : TypeId × Value → H} {P : Program} {w : World} {base : Nat} {spare : Nat → Bool} {held : Bool} {fuel : Nat} {t e : TypeId} {n : Nat} {k : IntKind} {cs : List Value} {x : DataW H × List MemPlace}
    (ht : P.underlying t = some (.array n e)) (he : P.underlying e = some (.int k)) (ce : P.cellsOf e = 1) (ct : P.cellsOf t = n) (h : DataW.trod enc P w base spare held fuel t cs = some x) : ∃ zs : List Int, cs = ints k zs ∧ zs.length = n := by
  obtain ⟨xs, m, rfl, -, hl, hxl, hi⟩ := DataW.trod_array ht h
  rw [ct] at hl
  refine ⟨cs.map valOf, ?_, by rw [List.length_map, hl]⟩
  apply List.ext_getElem?
  intro i
  by_cases hin : i < n
  · have h1 := hi i hin
    rw [ce, Nat.mul_one, List.getElem?_eq_getElem (by omega)] at h1
    obtain ⟨z, hz, _⟩ := DataW.trod_int he h1
    have h2 : cs[i]? = some (.int k z) := by
      have : ((cs.drop i).take 1)[0]? = some (.int k z) := by rw [hz]; rfl
      simpa [List.getElem?_take, List.getElem?_drop] using this
    rw [h2]
    simp [ints, h2, valOf]
  · rw [List.getElem?_eq_none (by omega), List.getElem?_eq_none (by rw [ints_length, List.length_map]; omega)]
theorem ints_of_array' {H : Type} {enc : TypeId × Value → H} {P : Program} {w : World} {base : Nat} {spare : Nat → Bool} {held : Bool} {fuel : Nat} {t e : TypeId} {n : Nat} {k : IntKind} {cs : List Value} {x : DataW H × List MemPlace}
    (ht : P.underlying t = some (.array n e)) (he : P.underlying e = some (.int k)) (ce : P.cellsOf e = 1) (ct : P.cellsOf t = n) (h : DataW.trod enc P w base spare held fuel t cs = some x) : ∃ zs : List Int, cs = ints k zs ∧ zs.length = n ∧ ∀ z ∈ zs, (Lit.int k z).wf = true := by
  obtain ⟨zs, rfl, hz⟩ := ints_of_array ht he ce ct h
  refine ⟨zs, rfl, hz, fun z hzm => ?_⟩
  obtain ⟨i, hi, rfl⟩ := List.mem_iff_getElem.1 hzm
  obtain ⟨xs, m, rfl, -, hl, hxl, hix⟩ := DataW.trod_array ht h
  have h1 := hix i (by omega)
  rw [ce, Nat.mul_one, List.getElem?_eq_getElem (by omega)] at h1
  obtain ⟨z, hz1, _, hw⟩ := DataW.trod_int he h1
  have h2 : ((ints k zs).drop i).take 1 = [.int k zs[i]] := by
    apply List.ext_getElem?
    intro j
    cases j with
    | zero => simp [List.getElem?_drop, ints, hi]
    | succ j => simp [List.getElem?_take]
  rw [h2] at hz1
  have : zs[i] = z := by simpa using hz1
  rw [this]
  exact hw
end Go.Proofs.Yteohjbggicchgaa
