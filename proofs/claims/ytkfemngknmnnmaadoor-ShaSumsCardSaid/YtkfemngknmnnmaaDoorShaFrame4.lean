/- An argument that is a slice of blocks of 64 bytes, opened. -/
import Derived.Test.YtkfemngknmnnmaaDoorShaFrame3
import Derived.Test.YtkfemngknmnnmaaDoorShaBlocks
namespace Go.Proofs.YtkfemngknmnnmaaDoor
open Go.ChangeShapes Go.WideShapes Go.ChangeAt Go.RowKit Go.Deep
set_option maxRecDepth 100000

theorem cellsBlock : Tryd.prog.cellsOf 25 = 64 := by kernel_rfl
def valOf : Value → Int | .int _ z => z | _ => 0
theorem ints_of_array {H : Type} {enc : TypeId × Value → H} {P : Program} {w : World} {base : Nat} {spare : Nat → Bool} {held : Bool} {fuel : Nat} {t e : TypeId} {n : Nat} {k : IntKind} {cs : List Value} {x : DataW H × List MemPlace}
    (ht : P.underlying t = some (.array n e)) (he : P.underlying e = some (.int k)) (ce : P.cellsOf e = 1) (ct : P.cellsOf t = n) (h : DataW.trod enc P w base spare held fuel t cs = some x) : ∃ zs : List Int, cs = ints k zs ∧ zs.length = n := by
  obtain ⟨xs, m, rfl, -, hl, hxl, hi⟩ := DataW.trod_array ht h
  rw [ct] at hl
  refine ⟨cs.map valOf, ?_, by rw [List.length_map, hl]⟩
  apply List.ext_getElem?
  intro i
  by_cases hin : i < n
  · have h1 := hi i hin
    rw [ce, Nat.mul_one, List.getElem?_eq_getElem (by omega)] at h1
    obtain ⟨z, hz, _⟩ := DataW.trod_int he h1
    have h2 : cs[i]? = some (.int k z) := by
      have : ((cs.drop i).take 1)[0]? = some (.int k z) := by rw [hz]; rfl
      simpa [List.getElem?_take, List.getElem?_drop] using this
    rw [h2]
    simp [ints, h2, valOf]
  · rw [List.getElem?_eq_none (by omega), List.getElem?_eq_none (by rw [ints_length, List.length_map]; omega)]
theorem open_blocks {H : Type} {enc : TypeId × Value → H} {W : World} {base : Nat} {v : Value} {d : DataW H} {p : List MemPlace} (hval : Value.okWide Tryd.prog W .any base 46 v)
    (h : DataW.Trod enc Tryd.prog W 0 (fun _ => true) true 46 v d p) : (∃ a zss cap, v = .slice a (List.length zss) cap ∧ BlocksIn W v zss) ∧ ∀ x ∈ p, x.block < W.heap.size := by
  obtain ⟨a0, len0, cap0, rfl⟩ := okWide_slice Tryd.underlying46 hval
  refine ⟨?_, by obtain ⟨m, hm⟩ := h; exact DataW.trod_lt m _ _ _ hm⟩
  obtain ⟨fuel, hf⟩ := h
  rcases open_slice Tryd.underlying46 hf with ⟨hcs, _⟩ | ⟨x, l, c, m, n, D, Pl, hcs, _, hl, hm, hmm, _, hx⟩
  · simp [Value.cells] at hcs
    obtain ⟨rfl, rfl, rfl⟩ := hcs
    exact ⟨none, [], 0, rfl, none, 0, rfl, (fun zs hz => by simp at hz), fun h => absurd h (by simp)⟩
  · simp [Value.cells] at hcs
    obtain ⟨rfl, rfl, rfl⟩ := hcs
    simp only [if_true] at hmm
    have each : ∀ i, i < len0 → ∃ zs : List Int, zs.length = 64 ∧ ∀ j, j < 64 → W.cell? ((x.add (i * 64)).add j) = (ints .u8 zs)[j]? := fun i hi => by
      obtain ⟨cs', h1, h2⟩ := hx i (by omega)
      rw [cellsBlock] at h1
      obtain ⟨zs, rfl, hz⟩ := ints_of_array Tryd.underlying25 Tryd.underlying5 cellsByte cellsBlock h2
      obtain ⟨_, h4, h5⟩ := World.cells?_some h1
      exact ⟨zs, hz, fun j hj => h5 j (by omega)⟩
    have hex : ∃ f : Nat → List Int, ∀ i, i < len0 → (f i).length = 64 ∧ ∀ j, j < 64 → W.cell? ((x.add (i * 64)).add j) = (ints .u8 (f i))[j]? :=
      ⟨fun i => if hi : i < len0 then (each i hi).choose else [], fun i hi => by
        simp only [hi, dif_pos]
        exact (each i hi).choose_spec⟩
    obtain ⟨f, hfs⟩ := hex
    refine ⟨some x, (List.range len0).map f, cap0, by simp, some x, cap0, by simp, fun zs hz => ?_, fun hp => ?_⟩
    · obtain ⟨i, hi, rfl⟩ := List.mem_map.1 hz
      exact (hfs i (by simpa using hi)).1
    · have hp0 : 0 < len0 := by simpa using hp
      have c0 := (hfs 0 hp0).2 0 (by omega)
      rw [List.getElem?_eq_getElem (by rw [ints_length, (hfs 0 hp0).1]; omega)] at c0
      have e := addr_plain (a := x) (by simpa [Addr.add] using c0)
      obtain ⟨xb, xo, sp⟩ := x
      obtain rfl : sp = none := by have := congrArg Addr.spot e; simpa using this
      refine ⟨xb, xo, rfl, ?_, fun k zs hk j v hv => ?_⟩
      · obtain ⟨u, hu⟩ : ∃ u, W.cell? (((⟨xb, xo, none⟩ : Addr).add (0 * 64)).add 0) = some u := ⟨_, c0⟩
        rw [Addr.add_mid, Addr.add_mid] at hu
        exact block_lt_of_cell (a := ⟨xb, xo + 0 * 64 + 0, none⟩) hu
      · simp only [List.getElem?_map, Option.map_eq_some_iff] at hk
        obtain ⟨r, hr1, rfl⟩ := hk
        obtain ⟨hj, rfl⟩ : k < len0 ∧ k = r := by simpa using (List.getElem?_eq_some_iff.1 hr1)
        have hjl : j < 64 := by have := (List.getElem?_eq_some_iff.1 hv).1; rw [ints_length, (hfs k hj).1] at this; exact this
        have := (hfs k hj).2 j hjl
        rw [Addr.add_mid, Addr.add_mid, hv] at this
        exact this
end Go.Proofs.YtkfemngknmnnmaaDoor
