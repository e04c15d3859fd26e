/- An argument that is a slice of digests, opened. -/
import Derived.Test.YtoeilaedpibboaaDoorShaFrame
import Derived.Test.YtoeilaedpibboaaDoorTagSoG
namespace Go.Proofs.YtoeilaedpibboaaDoor
open Go.ChangeShapes Go.WideShapes Go.ChangeAt Go.RowKit Go.Deep
set_option maxRecDepth 100000

def digK (f : Nat → List Int) (k : Nat) : List (List Int) := (List.range k).map f
theorem digK_succ (f : Nat → List Int) (k : Nat) : (digK f (k + 1)).flatten = (digK f k).flatten ++ f k := by
  unfold digK
  rw [List.range_succ, List.map_append, List.flatten_append]
  simp
theorem digK_length (f : Nat → List Int) (k : Nat) : (digK f k).length = k := by simp [digK]
theorem digK_flat {f : Nat → List Int} {n : Nat} (h : ∀ i, i < n → (f i).length = 32) : ∀ k, k ≤ n → (digK f k).flatten.length = 32 * k
  | 0, _ => rfl
  | k + 1, hk => by rw [digK_succ, List.length_append, digK_flat h k (by omega), h k (by omega)]; omega
theorem digK_at {f : Nat → List Int} {n b o : Nat} {w : World} (h : ∀ i, i < n → (f i).length = 32) (hc : ∀ i, i < n → ∀ j v, (ints .u8 (f i))[j]? = some v → w.cell? ⟨b, o + 32 * i + j, none⟩ = some v) : ∀ k, k ≤ n → w.rangeAt b o (ints .u8 (digK f k).flatten)
  | 0, _ => fun j v hv => by simp [digK, ints] at hv
  | k + 1, hk => fun j v hv => by
    have hl := digK_flat h k (by omega)
    rw [digK_succ, ints_append] at hv
    by_cases hj : j < 32 * k
    · rw [List.getElem?_append_left (by rw [ints_length, hl]; exact hj)] at hv
      exact digK_at h hc k (by omega) j v hv
    · rw [List.getElem?_append_right (by rw [ints_length, hl]; omega), ints_length, hl] at hv
      have h1 := hc k (by omega) (j - 32 * k) v hv
      rw [show o + 32 * k + (j - 32 * k) = o + j by omega] at h1
      exact h1
def DigsArg (W : World) (v : Value) (ds : List (List Int)) : Prop := DigsIn W v ds ∧ NilOk v ∧ okD ds
theorem open_digests {H : Type} {enc : TypeId × Value → H} {W : World} {base : Nat} {v : Value} {d : DataW H} {p : List MemPlace} (hval : Value.okWide Tryd.prog W .any base 22 v)
    (h : DataW.Trod enc Tryd.prog W 0 (fun _ => true) true 22 v d p) (_ : ∀ n ∈ d.weights Tryd.prog 22, n ≤ reachBytes) : (∃ ds, DigsArg W v ds) ∧ ∀ x ∈ p, x.block < W.heap.size := by
  obtain ⟨a0, len0, cap0, rfl⟩ := okWide_slice Tryd.underlying22 hval
  refine ⟨?_, by obtain ⟨m, hm⟩ := h; exact DataW.trod_lt m _ _ _ hm⟩
  obtain ⟨fuel, hf⟩ := h
  rcases open_slice Tryd.underlying22 hf with ⟨hcs, _⟩ | ⟨x, l, c, m, n, D, Pl, hcs, _, hl, hm, hmm, _, hx⟩
  · simp [Value.cells] at hcs
    obtain ⟨rfl, rfl, rfl⟩ := hcs
    exact ⟨[], ⟨none, 0, rfl, fun h => absurd h (by simp)⟩, ⟨rfl, rfl⟩, fun x hx => by cases hx⟩
  · simp [Value.cells] at hcs
    obtain ⟨rfl, rfl, rfl⟩ := hcs
    simp only [if_true] at hmm
    have each : ∀ i, i < len0 → ∃ zs : List Int, zs.length = 32 ∧ isBytes zs ∧ ∀ j, j < 32 → W.cell? ((x.add (i * 32)).add j) = (ints .u8 zs)[j]? := fun i hi => by
      obtain ⟨cs', h1, h2⟩ := hx i (by omega)
      rw [cellsDigest] at h1
      obtain ⟨zs, rfl, hz, hw⟩ := ints_of_array' Tryd.underlying24 Tryd.underlying5 cellsByte cellsDigest h2
      obtain ⟨_, h4, h5⟩ := World.cells?_some h1
      exact ⟨zs, hz, bytes_of_wf hw, fun j hj => h5 j (by omega)⟩
    have hex : ∃ f : Nat → List Int, ∀ i, i < len0 → (f i).length = 32 ∧ isBytes (f i) ∧ ∀ j, j < 32 → W.cell? ((x.add (i * 32)).add j) = (ints .u8 (f i))[j]? :=
      ⟨fun i => if hi : i < len0 then (each i hi).choose else [], fun i hi => by
        simp only [hi, dif_pos]
        exact (each i hi).choose_spec⟩
    obtain ⟨f, hfs⟩ := hex
    refine ⟨digK f len0, ⟨some x, cap0, by rw [digK_length], fun hp0 => ?_⟩, trivial, fun z hz => ?_⟩
    · rw [digK_length] at hp0
      have c0 := (hfs 0 hp0).2.2 0 (by omega)
      rw [List.getElem?_eq_getElem (by rw [ints_length, (hfs 0 hp0).1]; omega)] at c0
      have e := addr_plain (a := x) (by simpa [Addr.add] using c0)
      obtain ⟨xb, xo, sp⟩ := x
      obtain rfl : sp = none := by have := congrArg Addr.spot e; simpa using this
      refine ⟨xb, xo, rfl, ?_, digK_at (n := len0) (fun i hi => (hfs i hi).1) (fun i hi j v hv => ?_) _ (Nat.le_refl _)⟩
      · obtain ⟨u, hu⟩ : ∃ u, W.cell? (((⟨xb, xo, none⟩ : Addr).add (0 * 32)).add 0) = some u := ⟨_, c0⟩
        rw [Addr.add_mid, Addr.add_mid] at hu
        exact block_lt_of_cell (a := ⟨xb, xo + 0 * 32 + 0, none⟩) hu
      · have hjl : j < 32 := by have := (List.getElem?_eq_some_iff.1 hv).1; rw [ints_length, (hfs i hi).1] at this; exact this
        have := (hfs i hi).2.2 j hjl
        rw [Addr.add_mid, Addr.add_mid, hv, Nat.mul_comm] at this
        exact this
    · obtain ⟨i, hi, rfl⟩ := List.mem_map.1 hz
      have := hfs i (List.mem_range.1 hi)
      exact ⟨this.1, this.2.1⟩
end Go.Proofs.YtoeilaedpibboaaDoor
