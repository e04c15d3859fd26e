/- How a slice of bools that came in is opened. -/
import Derived.Test.YtngpmilojfbpmaaDoorVltKe
import Derived.Test.YtngpmilojfbpmaaDoorGenF
namespace Go.Proofs.YtngpmilojfbpmaaDoor
open Go.ChangeShapes Go.WideShapes Go.ChangeAt Go.RowKit Go.Deep
set_option maxRecDepth 100000

theorem cellsBool : Tryd.prog.cellsOf 4 = 1 := by kernel_rfl
theorem open_bools {H : Type} {enc : TypeId × Value → H} {W : World} {base : Nat} {v : Value} {d : DataW H} {p : List MemPlace} (hval : Value.okWide Tryd.prog W .any base 23 v)
    (h : DataW.Trod enc Tryd.prog W 0 (fun _ => true) true 23 v d p) : (∃ bs, BoolsIn W v bs) ∧ ∀ x ∈ p, x.block < W.heap.size := by
  obtain ⟨a0, len0, cap0, rfl⟩ := okWide_slice Tryd.underlying23 hval
  refine ⟨?_, by obtain ⟨m, hm⟩ := h; exact DataW.trod_lt m _ _ _ hm⟩
  obtain ⟨fuel, hf⟩ := h
  rcases open_slice Tryd.underlying23 hf with ⟨hcs, _⟩ | ⟨x, l, c, m, n, D, Pl, hcs, _, hl, hm, hmm, hx, hi⟩
  · simp [Value.cells] at hcs
    obtain ⟨rfl, rfl, rfl⟩ := hcs
    exact ⟨[], none, 0, rfl, fun h => by simp at h⟩
  · simp [Value.cells] at hcs
    obtain ⟨rfl, rfl, rfl⟩ := hcs
    simp only [if_true] at hmm
    subst hmm
    have hat0 : ∀ i, i < len0 → ∃ b : Bool, W.cell? (x.add (i * 1)) = some (.bool b) := fun i hil => by
      obtain ⟨cs', hc, ht⟩ := hi i (by omega)
      rw [cellsBool] at hc
      obtain ⟨b, e, -⟩ := DataW.trod_bool Tryd.underlying4 ht
      obtain ⟨_, _, hat⟩ := World.cells?_some hc
      have h0 := hat 0 (by omega)
      rw [e, add_add] at h0
      exact ⟨b, h0⟩
    have hplain : 0 < len0 → x = ⟨x.block, x.off, none⟩ := fun hp => by
      obtain ⟨b, h0⟩ := hat0 0 hp
      exact addr_plain (v := .bool b) (by simpa using h0)
    have each : ∀ i, ∃ b : Bool, i < len0 → W.cell? ⟨x.block, x.off + i, none⟩ = some (.bool b) := fun i => by
      by_cases hil : i < len0
      · obtain ⟨b, h0⟩ := hat0 i hil
        rw [hplain (by omega), Addr.add_mid, Nat.mul_one] at h0
        exact ⟨b, fun _ => h0⟩
      · exact ⟨false, fun h => absurd h hil⟩
    refine ⟨(List.range len0).map fun i => (each i).choose, some x, m, by simp, fun hp => ?_⟩
    have hp0 : 0 < len0 := by simpa using hp
    refine ⟨x.block, x.off, by rw [← hplain hp0], ?_, fun k b hk => ?_⟩
    · exact block_lt_of_cell (a := ⟨x.block, x.off + 0, none⟩) ((each 0).choose_spec hp0)
    · rw [List.getElem?_map, Option.map_eq_some_iff] at hk
      obtain ⟨r, hr1, rfl⟩ := hk
      obtain ⟨hj, rfl⟩ : k < len0 ∧ k = r := by simpa using (List.getElem?_eq_some_iff.1 hr1)
      exact (each k).choose_spec hj
end Go.Proofs.YtngpmilojfbpmaaDoor
