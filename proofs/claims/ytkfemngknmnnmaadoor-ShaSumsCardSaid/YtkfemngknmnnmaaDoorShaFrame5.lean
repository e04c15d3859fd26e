/- An argument that is an array of integers, opened: it is just so many integers, each of its kind. -/
import Derived.Test.YtkfemngknmnnmaaDoorShaFrame4
namespace Go.Proofs.YtkfemngknmnnmaaDoor
open Go.ChangeShapes Go.WideShapes Go.ChangeAt Go.RowKit Go.Deep
set_option maxRecDepth 100000

theorem ints_of_array' {H : Type} {enc : TypeId × Value → H} {P : Program} {w : World} {base : Nat} {spare : Nat → Bool} {held : Bool} {fuel : Nat} {t e : TypeId} {n : Nat} {k : IntKind} {cs : List Value} {x : DataW H × List MemPlace}
    (ht : P.underlying t = some (.array n e)) (he : P.underlying e = some (.int k)) (ce : P.cellsOf e = 1) (ct : P.cellsOf t = n) (h : DataW.trod enc P w base spare held fuel t cs = some x) : ∃ zs : List Int, cs = ints k zs ∧ zs.length = n ∧ ∀ z ∈ zs, (Lit.int k z).wf = true := by
  obtain ⟨zs, rfl, hz⟩ := ints_of_array ht he ce ct h
  refine ⟨zs, rfl, hz, fun z hzm => ?_⟩
  obtain ⟨i, hi, rfl⟩ := List.mem_iff_getElem.1 hzm
  obtain ⟨xs, m, rfl, -, hl, hxl, hix⟩ := DataW.trod_array ht h
  have h1 := hix i (by omega)
  rw [ce, Nat.mul_one, List.getElem?_eq_getElem (by omega)] at h1
  obtain ⟨z, hz1, _, hw⟩ := DataW.trod_int he h1
  have h2 : ((ints k zs).drop i).take 1 = [.int k zs[i]] := by
    apply List.ext_getElem?
    intro j
    cases j with
    | zero => simp [List.getElem?_drop, ints, hi]
    | succ j => simp [List.getElem?_take]
  rw [h2] at hz1
  have : zs[i] = z := by simpa using hz1
  rw [this]
  exact hw
theorem open_ints_array {H : Type} {enc : TypeId × Value → H} {P : Program} {W : World} {base b0 : Nat} {spare : Nat → Bool} {held : Bool} {r : Reach} {t e : TypeId} {n : Nat} {k : IntKind} {v : Value} {d : DataW H} {p : List MemPlace}
    (ht : P.underlying t = some (.array n e)) (he : P.underlying e = some (.int k)) (ce : P.cellsOf e = 1) (ct : P.cellsOf t = n) (hval : Value.okWide P W r b0 t v) (h : DataW.Trod enc P W base spare held t v d p) :
    (∃ zs : List Int, v = .agg (ints k zs).toArray ∧ zs.length = n ∧ ∀ z ∈ zs, (Lit.int k z).wf = true) ∧ ∀ x ∈ p, x.block < W.heap.size := by
  simp only [Value.okWide, ht] at hval
  obtain ⟨cs, rfl, h2, _⟩ := hval
  obtain ⟨m, hm⟩ := h
  refine ⟨?_, DataW.trod_lt m _ _ _ hm⟩
  obtain ⟨zs, e1, e2, e3⟩ := ints_of_array' ht he ce ct hm
  refine ⟨zs, ?_, e2, e3⟩
  simp only [Value.cells] at e1
  rw [← e1]
theorem cellsState : Tryd.prog.cellsOf 24 = 8 := by kernel_rfl
theorem cellsDigest : Tryd.prog.cellsOf 29 = 32 := by kernel_rfl
end Go.Proofs.YtkfemngknmnnmaaDoor
