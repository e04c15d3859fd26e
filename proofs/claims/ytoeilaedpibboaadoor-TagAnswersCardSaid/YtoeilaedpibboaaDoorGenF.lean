/- How a row's arguments are opened, for a program without package sha. -/
import Derived.Test.YtoeilaedpibboaaDoorRows
import Derived.Test.YtoeilaedpibboaaDoorGenB
import Derived.ProofKit
import Derived.OpenShut
import Derived.ChangeOld
import Derived.SizedLaws
import Derived.Deep.Matrix
import Derived.Deep.Slices
import Derived.Deep.DeepHandedRow
namespace Go.Proofs.YtoeilaedpibboaaDoor
open Go.ChangeShapes Go.WideShapes Go.ChangeAt Go.RowKit Go.Deep
set_option maxRecDepth 100000

theorem own : ownKnob Tryd.prog.godebug = none := by kernel_rfl
theorem laidOut : laidOutB Tryd.prog = true := by kernel_rfl
theorem cellsByte : Tryd.prog.cellsOf 5 = 1 := by kernel_rfl
/-- What is known of a slice of bytes that came in. -/
def ByteArg (W : World) (v : Value) (zs : List Int) : Prop := BytesIn W v zs ∧ NilOk v ∧ ∀ z ∈ zs, 0 ≤ z ∧ z ≤ 255
theorem open_bytes {H : Type} {enc : TypeId × Value → H} {W : World} {base : Nat} {v : Value} {d : DataW H} {p : List MemPlace} (hval : Value.okWide Tryd.prog W .any base 36 v)
    (h : DataW.Trod enc Tryd.prog W 0 (fun _ => true) true 36 v d p) : (∃ zs, ByteArg W v zs) ∧ ∀ x ∈ p, x.block < W.heap.size := by
  obtain ⟨a0, len0, cap0, rfl⟩ := okWide_slice Tryd.underlying36 hval
  refine ⟨?_, by obtain ⟨m, hm⟩ := h; exact DataW.trod_lt m _ _ _ hm⟩
  obtain ⟨fuel, hf⟩ := h
  rcases open_ints Tryd.underlying36 Tryd.underlying5 cellsByte hf with ⟨hcs, _⟩ | ⟨x, l, c, zs, hcs, _, hl, hm, hz, _, hcell, hwz⟩
  · simp [Value.cells] at hcs
    obtain ⟨rfl, rfl, rfl⟩ := hcs
    exact ⟨[], bytes_nil W, ⟨rfl, rfl⟩, fun z hz => by cases hz⟩
  · simp [Value.cells] at hcs
    obtain ⟨rfl, rfl, rfl⟩ := hcs
    have hz' : zs.length = cap0 := by simpa using hz
    have hlen : (zs.take len0).length = len0 := by rw [List.length_take]; omega
    refine ⟨zs.take len0, ⟨some x, cap0, by rw [hlen], by rw [hlen]; exact hl, fun hp => ?_⟩, trivial, fun z hzm => ?_⟩
    · rw [hlen] at hp
      obtain ⟨b, off, rfl, hc⟩ := ints_at hcell (by omega)
      have h0 := hc 0 (by omega)
      refine ⟨b, off, rfl, block_lt_of_cell h0, fun j u hu => ?_⟩
      have hj : j < len0 := by have := (List.getElem?_eq_some_iff.1 hu).1; rw [ints_length, hlen] at this; exact this
      rw [hc j (by omega)]
      rw [← hu, ints_getD (by rw [hlen]; exact hj)]
      simp only [List.getD_eq_getElem?_getD, List.getElem?_take, if_pos hj]
    · have := hwz z (List.mem_of_mem_take hzm)
      simpa [Lit.wf, IntKind.min, IntKind.max, IntKind.signed, IntKind.bits] using this
theorem bytesByte : Tryd.prog.bytesOf 5 = 1 := by kernel_rfl
theorem weights_in {H : Type} {P : Program} {e : TypeId} : ∀ {l : List (DataW H)} {d : DataW H}, d ∈ l → ∀ n ∈ d.weights P e, n ∈ DataW.weightsAll P e l
  | _ :: _, d, h, n, hn => by
    rw [DataW.weightsAll, List.mem_append]
    rcases List.mem_cons.1 h with rfl | h
    · exact Or.inl hn
    · exact Or.inr (weights_in h n hn)
theorem addr_plain {w : World} {a : Addr} {v : Value} (h : w.cell? (a.add 0) = some v) : a = ⟨a.block, a.off, none⟩ := by
  have : a.spot = none := World.cell?_spot (by simpa [Addr.add] using h)
  cases a; simp_all
theorem ints_of_array {H : Type} {enc : TypeId × Value → H} {P : Program} {w : World} {base : Nat} {spare : Nat → Bool} {held : Bool} {fuel : Nat} {t e : TypeId} {n : Nat} {k : IntKind} {cs : List Value} {x : DataW H × List MemPlace}
    (ht : P.underlying t = some (.array n e)) (he : P.underlying e = some (.int k)) (ce : P.cellsOf e = 1) (ct : P.cellsOf t = n) (h : DataW.trod enc P w base spare held fuel t cs = some x) : ∃ zs : List Int, cs = ints k zs ∧ zs.length = n := by
  obtain ⟨xs, m, rfl, -, hl, hxl, hi⟩ := DataW.trod_array ht h
  rw [ct] at hl
  refine ⟨cs.map valOf, ?_, by rw [List.length_map, hl]⟩
  apply List.ext_getElem?
  intro i
  by_cases hin : i < n
  · have h1 := hi i hin
    rw [ce, Nat.mul_one, List.getElem?_eq_getElem (by omega)] at h1
    obtain ⟨z, hz, _⟩ := DataW.trod_int he h1
    have h2 : cs[i]? = some (.int k z) := by
      have : ((cs.drop i).take 1)[0]? = some (.int k z) := by rw [hz]; rfl
      simpa [List.getElem?_take, List.getElem?_drop] using this
    rw [h2]
    simp [ints, h2, valOf]
  · rw [List.getElem?_eq_none (by omega), List.getElem?_eq_none (by rw [ints_length, List.length_map]; omega)]
theorem ints_of_array' {H : Type} {enc : TypeId × Value → H} {P : Program} {w : World} {base : Nat} {spare : Nat → Bool} {held : Bool} {fuel : Nat} {t e : TypeId} {n : Nat} {k : IntKind} {cs : List Value} {x : DataW H × List MemPlace}
    (ht : P.underlying t = some (.array n e)) (he : P.underlying e = some (.int k)) (ce : P.cellsOf e = 1) (ct : P.cellsOf t = n) (h : DataW.trod enc P w base spare held fuel t cs = some x) : ∃ zs : List Int, cs = ints k zs ∧ zs.length = n ∧ ∀ z ∈ zs, (Lit.int k z).wf = true := by
  obtain ⟨zs, rfl, hz⟩ := ints_of_array ht he ce ct h
  refine ⟨zs, rfl, hz, fun z hzm => ?_⟩
  obtain ⟨i, hi, rfl⟩ := List.mem_iff_getElem.1 hzm
  obtain ⟨xs, m, rfl, -, hl, hxl, hix⟩ := DataW.trod_array ht h
  have h1 := hix i (by omega)
  rw [ce, Nat.mul_one, List.getElem?_eq_getElem (by omega)] at h1
  obtain ⟨z, hz1, _, hw⟩ := DataW.trod_int he h1
  have h2 : ((ints k zs).drop i).take 1 = [.int k zs[i]] := by
    apply List.ext_getElem?
    intro j
    cases j with
    | zero => simp [List.getElem?_drop, ints, hi]
    | succ j => simp [List.getElem?_take]
  rw [h2] at hz1
  have : zs[i] = z := by simpa using hz1
  rw [this]
  exact hw
theorem open_ints_array {H : Type} {enc : TypeId × Value → H} {P : Program} {W : World} {base b0 : Nat} {spare : Nat → Bool} {held : Bool} {r : Reach} {t e : TypeId} {n : Nat} {k : IntKind} {v : Value} {d : DataW H} {p : List MemPlace}
    (ht : P.underlying t = some (.array n e)) (he : P.underlying e = some (.int k)) (ce : P.cellsOf e = 1) (ct : P.cellsOf t = n) (hval : Value.okWide P W r b0 t v) (h : DataW.Trod enc P W base spare held t v d p) :
    (∃ zs : List Int, v = .agg (ints k zs).toArray ∧ zs.length = n ∧ ∀ z ∈ zs, (Lit.int k z).wf = true) ∧ ∀ x ∈ p, x.block < W.heap.size := by
  simp only [Value.okWide, ht] at hval
  obtain ⟨cs, rfl, h2, _⟩ := hval
  obtain ⟨m, hm⟩ := h
  refine ⟨?_, DataW.trod_lt m _ _ _ hm⟩
  obtain ⟨zs, e1, e2, e3⟩ := ints_of_array' ht he ce ct hm
  refine ⟨zs, ?_, e2, e3⟩
  simp only [Value.cells] at e1
  rw [← e1]
theorem bytes_of_wf {zs : List Int} (h : ∀ z ∈ zs, (Lit.int .u8 z).wf = true) : isBytes zs := fun z hz => by
  have := h z hz
  simpa [Lit.wf, IntKind.min, IntKind.max, IntKind.signed, IntKind.bits] using this
end Go.Proofs.YtoeilaedpibboaaDoor
