/- An argument that is a slice of sectors, opened. -/
import Derived.Test.YtaeghgnhpgkcdaaDoorShaFrame
import Derived.Test.YtaeghgnhpgkcdaaDoorSealJ
namespace Go.Proofs.YtaeghgnhpgkcdaaDoor
open Go.ChangeShapes Go.WideShapes Go.ChangeAt Go.RowKit Go.Deep
set_option maxRecDepth 100000

theorem cellsBlk4 : Tryd.prog.cellsOf 37 = 64 := by kernel_rfl
def blksK (f : Nat → List Int) : Nat → List Int
  | 0 => []
  | k + 1 => blksK f k ++ f k
theorem blksK_length {f : Nat → List Int} {n : Nat} (h : ∀ i, i < n → (f i).length = 64) : ∀ k, k ≤ n → (blksK f k).length = 64 * k
  | 0, _ => rfl
  | k + 1, hk => by rw [blksK, List.length_append, blksK_length h k (by omega), h k (by omega)]; omega
theorem blksK_bytes {f : Nat → List Int} {n : Nat} (h : ∀ i, i < n → isBytes (f i)) : ∀ k, k ≤ n → isBytes (blksK f k)
  | 0, _ => fun x hx => by simp [blksK] at hx
  | k + 1, hk => bytes_app (blksK_bytes h k (by omega)) (h k (by omega))
theorem blksK_at {f : Nat → List Int} {n b o : Nat} {w : World} (h : ∀ i, i < n → (f i).length = 64) (hc : ∀ i, i < n → ∀ j v, (ints .u8 (f i))[j]? = some v → w.cell? ⟨b, o + 64 * i + j, none⟩ = some v) : ∀ k, k ≤ n → w.rangeAt b o (ints .u8 (blksK f k))
  | 0, _ => fun j v hv => by simp [blksK, ints] at hv
  | k + 1, hk => fun j v hv => by
    have hl := blksK_length h k (by omega)
    rw [blksK, ints_append] at hv
    by_cases hj : j < 64 * k
    · rw [List.getElem?_append_left (by rw [ints_length, hl]; exact hj)] at hv
      exact blksK_at h hc k (by omega) j v hv
    · rw [List.getElem?_append_right (by rw [ints_length, hl]; omega), ints_length, hl] at hv
      have h1 := hc k (by omega) (j - 64 * k) v hv
      rw [show o + 64 * k + (j - 64 * k) = o + j by omega] at h1
      exact h1
def BlksArg (W : World) (v : Value) (n : Nat) (l : List Int) : Prop := BlksIn W v n l ∧ NilOk v ∧ isBytes l
theorem open_blks {H : Type} {enc : TypeId × Value → H} {W : World} {base : Nat} {v : Value} {d : DataW H} {p : List MemPlace} (hval : Value.okWide Tryd.prog W .any base 23 v)
    (h : DataW.Trod enc Tryd.prog W 0 (fun _ => true) true 23 v d p) : (∃ n l, BlksArg W v n l) ∧ ∀ x ∈ p, x.block < W.heap.size := by
  obtain ⟨a0, len0, cap0, rfl⟩ := okWide_slice Tryd.underlying23 hval
  refine ⟨?_, by obtain ⟨m, hm⟩ := h; exact DataW.trod_lt m _ _ _ hm⟩
  obtain ⟨fuel, hf⟩ := h
  rcases open_slice Tryd.underlying23 hf with ⟨hcs, _⟩ | ⟨x, l, c, m, n, D, Pl, hcs, _, hl, hm, hmm, _, hx⟩
  · simp [Value.cells] at hcs
    obtain ⟨rfl, rfl, rfl⟩ := hcs
    exact ⟨0, [], ⟨none, 0, rfl, Nat.le_refl _, rfl, fun h => absurd h (by omega)⟩, ⟨rfl, rfl⟩, fun x hx => by simp at hx⟩
  · simp [Value.cells] at hcs
    obtain ⟨rfl, rfl, rfl⟩ := hcs
    simp only [if_true] at hmm
    have each : ∀ i, i < len0 → ∃ zs : List Int, zs.length = 64 ∧ isBytes zs ∧ ∀ j, j < 64 → W.cell? ((x.add (i * 64)).add j) = (ints .u8 zs)[j]? := fun i hi => by
      obtain ⟨cs', h1, h2⟩ := hx i (by omega)
      rw [cellsBlk4] at h1
      obtain ⟨zs, rfl, hz, hw⟩ := ints_of_array' Tryd.underlying37 Tryd.underlying5 cellsByte cellsBlk4 h2
      obtain ⟨_, h4, h5⟩ := World.cells?_some h1
      exact ⟨zs, hz, bytes_of_wf hw, fun j hj => h5 j (by omega)⟩
    have hex : ∃ f : Nat → List Int, ∀ i, i < len0 → (f i).length = 64 ∧ isBytes (f i) ∧ ∀ j, j < 64 → W.cell? ((x.add (i * 64)).add j) = (ints .u8 (f i))[j]? :=
      ⟨fun i => if hi : i < len0 then (each i hi).choose else [], fun i hi => by
        simp only [hi, dif_pos]
        exact (each i hi).choose_spec⟩
    obtain ⟨f, hfs⟩ := hex
    refine ⟨len0, blksK f len0, ⟨some x, cap0, rfl, hl, blksK_length (fun i hi => (hfs i hi).1) _ (Nat.le_refl _), fun hp0 => ?_⟩, trivial, blksK_bytes (fun i hi => (hfs i hi).2.1) _ (Nat.le_refl _)⟩
    have c0 := (hfs 0 hp0).2.2 0 (by omega)
    rw [List.getElem?_eq_getElem (by rw [ints_length, (hfs 0 hp0).1]; omega)] at c0
    have e := addr_plain (a := x) (by simpa [Addr.add] using c0)
    obtain ⟨xb, xo, sp⟩ := x
    obtain rfl : sp = none := by have := congrArg Addr.spot e; simpa using this
    refine ⟨xb, xo, rfl, ?_, blksK_at (n := len0) (fun i hi => (hfs i hi).1) (fun i hi j v hv => ?_) _ (Nat.le_refl _)⟩
    · obtain ⟨u, hu⟩ : ∃ u, W.cell? (((⟨xb, xo, none⟩ : Addr).add (0 * 64)).add 0) = some u := ⟨_, c0⟩
      rw [Addr.add_mid, Addr.add_mid] at hu
      exact block_lt_of_cell (a := ⟨xb, xo + 0 * 64 + 0, none⟩) hu
    · have hjl : j < 64 := by have := (List.getElem?_eq_some_iff.1 hv).1; rw [ints_length, (hfs i hi).1] at this; exact this
      have := (hfs i hi).2.2 j hjl
      rw [Addr.add_mid, Addr.add_mid, hv, Nat.mul_comm] at this
      exact this
end Go.Proofs.YtaeghgnhpgkcdaaDoor
