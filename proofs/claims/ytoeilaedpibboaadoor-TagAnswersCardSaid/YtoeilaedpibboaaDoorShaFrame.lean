/- What the rows' own list gives: the table of the round constants lies in its variable; and a world in which it does, for the rows' witnesses. -/
import Derived.Test.YtoeilaedpibboaaDoorGenF
import Derived.Test.YtoeilaedpibboaaDoorCards
import Derived.Test.YtoeilaedpibboaaDoorTie
import Derived.Test.YtoeilaedpibboaaDoorShaAlive
import Derived.ProofKit
import Derived.OpenShut
import Derived.Deep.DeepHandedRow
import Derived.Lib.LaidTab
import Derived.ChangeOld
import Derived.Test.YtoeilaedpibboaaDoorShaRows
import Derived.Deep.Matrix
import Derived.SizedLaws
import Derived.Test.YtoeilaedpibboaaDoorShaBlocks
namespace Go.Proofs.YtoeilaedpibboaaDoor
open Go.ChangeShapes Go.WideShapes Go.ChangeAt Go.RowKit
set_option maxRecDepth 100000

theorem gTab : Tryd.prog.globalNamed "imprimatur/sha.roundWords" = some 1 := by kernel_rfl
theorem gTabType : (Tryd.prog.globals[1]?).map (·.type) = some 100 := by kernel_rfl
theorem cellsWords : Tryd.prog.cellsOf 100 = 64 := by kernel_rfl
theorem cellsU32 : Tryd.prog.cellsOf 67 = 1 := by kernel_rfl

theorem kw_of_laid {W : World} (h : laidMetH Tryd.prog [("imprimatur/sha.roundWords", Rows.laid_imprimatur_sha_roundWords)] W) : KW W := by
  have ht : Lib.TabIs Tryd.prog W "imprimatur/sha.roundWords" .u32 Sha.K := Lib.tabIs_of_head (rest := []) gTab gTabType Tryd.underlying100 Tryd.underlying67 cellsU32 cellsWords h
  intro i hi
  have := ht.cell gTab i (by exact hi)
  simpa [List.getD_eq_getElem?_getD] using this

/-- A world for the witnesses: the settled one, the table holding what its initialiser lays. -/
noncomputable def laidWorld (os : Os) : World :=
  { World.holding Tryd.prog os ⟨#[], #[], []⟩ with heap := (World.holding Tryd.prog os ⟨#[], #[], []⟩).heap.modify 1 fun
      | .cells _ t frozen => .cells (ints .u32 Sha.K).toArray t frozen
      | o => o }
end Go.Proofs.YtoeilaedpibboaaDoor
/- An argument that is a slice of bytes, opened: its bytes lie somewhere; behind a call that changes nothing that was there it reads as it did. -/
namespace Go.Proofs.YtoeilaedpibboaaDoor
open Go.ChangeShapes Go.WideShapes Go.ChangeAt Go.RowKit
set_option maxRecDepth 100000

end Go.Proofs.YtoeilaedpibboaaDoor
/- An argument that is a slice of slices of bytes, opened. -/
namespace Go.Proofs.YtoeilaedpibboaaDoor
open Go.ChangeShapes Go.WideShapes Go.ChangeAt Go.RowKit Go.Deep
set_option maxRecDepth 100000

theorem cellsBytes : Tryd.prog.cellsOf 36 = 1 := by kernel_rfl
theorem bytesBytes : Tryd.prog.bytesOf 36 = 24 := by kernel_rfl
theorem open_parts {H : Type} {enc : TypeId × Value → H} {W : World} {base : Nat} {v : Value} {d : DataW H} {p : List MemPlace} (hval : Value.okWide Tryd.prog W .any base 38 v)
    (h : DataW.Trod enc Tryd.prog W 0 (fun _ => true) true 38 v d p) (hsz : ∀ n ∈ d.weights Tryd.prog 38, n ≤ reachBytes) : (∃ a zss cap, v = .slice a (List.length zss) cap ∧ PartsIn W v zss) ∧ ∀ x ∈ p, x.block < W.heap.size := by
  obtain ⟨a0, len0, cap0, rfl⟩ := okWide_slice Tryd.underlying38 hval
  refine ⟨?_, by obtain ⟨m, hm⟩ := h; exact DataW.trod_lt m _ _ _ hm⟩
  obtain ⟨fuel, hf⟩ := h
  rcases open_int_rows Tryd.underlying38 Tryd.underlying36 Tryd.underlying5 cellsBytes cellsByte hf with ⟨hcs, _⟩ | ⟨x, l, c, A, L, C, Z, hcs, _, hl, hm, hx, hcell⟩
  · simp [Value.cells] at hcs
    obtain ⟨rfl, rfl, rfl⟩ := hcs
    exact ⟨none, [], 0, rfl, none, 0, [], rfl, rfl, by simp, fun h => absurd h (by simp), fun k v zs hv => by simp at hv⟩
  · simp [Value.cells] at hcs
    obtain ⟨rfl, rfl, rfl⟩ := hcs
    have hd : d = _ := congrArg Prod.fst hx
    dsimp only at hd
    have hr : reachBytes = 140737488351232 := rfl
    have hlen : len0 ≤ 140737488351232 := by
      have := hsz ((((List.range len0).map fun r => intRow (H := H) .u8 (A r) (L r) (Z r)).length + ((List.range (cap0 - len0)).map fun j => intRow (H := H) .u8 (A (len0 + j)) (L (len0 + j)) (Z (len0 + j))).length) * Tryd.prog.bytesOf 36) (by rw [hd]; simp [DataW.weights, Tryd.underlying38])
      rw [bytesBytes, hr] at this
      simp at this
      omega
    have hpart : ∀ r, r < len0 → L r ≤ 140737488351232 := fun r hrl => by
      obtain ⟨_, h1, _, h3, _, h5, _⟩ := hcell r (by omega)
      cases hA : A r with
      | none => have := h5 hA; omega
      | some a' =>
        have := hsz (((lits (H := H) .u8 ((Z r).take (L r))).length + (lits (H := H) .u8 ((Z r).drop (L r))).length) * Tryd.prog.bytesOf 5) (by
          rw [hd]
          simp only [DataW.weights, Tryd.underlying38]
          refine List.mem_cons_of_mem _ (List.mem_append_left _ (weights_in (d := intRow .u8 (A r) (L r) (Z r)) (List.mem_map.2 ⟨r, by simpa using hrl, rfl⟩) _ ?_))
          rw [hA]
          simp [intRow, DataW.weights, Tryd.underlying36])
        rw [bytesByte, hr] at this
        simp [lits] at this
        omega
    refine ⟨some x, (List.range len0).map (fun r => (Z r).take (L r)), cap0, by simp, some x, cap0, (List.range len0).map (fun r => .slice (A r) (L r) (C r)), by simp, by simp, by simpa using hlen, fun hp => ?_, fun k v zs hv hz => ?_⟩
    · have hp0 : 0 < len0 := by simpa using hp
      have e := addr_plain (hcell 0 (by omega)).1
      refine ⟨x.block, x.off, by rw [← e], ?_, fun j v hv => ?_⟩
      · have h0 := (hcell 0 (by omega)).1
        rw [e, Addr.add_mid] at h0
        exact block_lt_of_cell (a := ⟨x.block, x.off + 0, none⟩) h0
      · simp only [List.getElem?_map, Option.map_eq_some_iff] at hv
        obtain ⟨r, hr1, rfl⟩ := hv
        obtain ⟨hj, rfl⟩ : j < len0 ∧ j = r := by simpa [List.getElem?_range'] using (List.getElem?_eq_some_iff.1 hr1)
        have := (hcell j (by omega)).1
        rwa [e, Addr.add_mid] at this
    · simp only [List.getElem?_map, Option.map_eq_some_iff] at hv hz
      obtain ⟨r, hr1, rfl⟩ := hv
      obtain ⟨r', hr1', rfl⟩ := hz
      have er : r = r' := Option.some.inj (hr1.symm.trans hr1')
      subst er
      obtain ⟨hj, rfl⟩ : k < len0 ∧ k = r := by simpa using (List.getElem?_eq_some_iff.1 hr1)
      obtain ⟨_, h1, h2, h3, h4, h5, h6⟩ := hcell k (by omega)
      have hlk : ((Z k).take (L k)).length = L k := by rw [List.length_take]; omega
      refine ⟨⟨A k, C k, by rw [hlk], by rw [hlk]; exact h1, fun hp => ?_⟩, ?_, by rw [hlk]; exact hpart k hj⟩
      · rw [hlk] at hp
        cases hA : A k with
        | none => have := h5 hA; omega
        | some a' =>
          obtain ⟨_, h7⟩ := h6 a' hA
          have e := addr_plain (h7 0 (by omega))
          have h70 := h7 0 (by omega)
          rw [e, Addr.add_mid] at h70
          refine ⟨a'.block, a'.off, by rw [← e], block_lt_of_cell (a := ⟨a'.block, a'.off + 0, none⟩) h70, fun j u hu => ?_⟩
          have hjl : j < L k := by have := (List.getElem?_eq_some_iff.1 hu).1; rw [ints_length, hlk] at this; exact this
          have h7j := h7 j (by omega)
          rw [e, Addr.add_mid] at h7j
          rw [h7j, ← hu, ints_getD (by rw [hlk]; exact hjl)]
          simp only [List.getD_eq_getElem?_getD, List.getElem?_take, if_pos hjl]
      · cases hA : A k with
        | none => have := h5 hA; exact ⟨by omega, this⟩
        | some a' => trivial
end Go.Proofs.YtoeilaedpibboaaDoor
/- An argument that is a slice of blocks of 64 bytes, opened. -/
namespace Go.Proofs.YtoeilaedpibboaaDoor
open Go.ChangeShapes Go.WideShapes Go.ChangeAt Go.RowKit Go.Deep
set_option maxRecDepth 100000

theorem cellsBlock : Tryd.prog.cellsOf 49 = 64 := by kernel_rfl
def valOfSha : Value → Int | .int _ z => z | _ => 0
end Go.Proofs.YtoeilaedpibboaaDoor
/- An argument that is an array of integers, opened: it is just so many integers, each of its kind. -/
namespace Go.Proofs.YtoeilaedpibboaaDoor
open Go.ChangeShapes Go.WideShapes Go.ChangeAt Go.RowKit Go.Deep
set_option maxRecDepth 100000

theorem cellsState : Tryd.prog.cellsOf 68 = 8 := by kernel_rfl
theorem cellsDigest : Tryd.prog.cellsOf 24 = 32 := by kernel_rfl
end Go.Proofs.YtoeilaedpibboaaDoor
/- What a row's own reading tells of bytes. -/
namespace Go.Proofs.YtoeilaedpibboaaDoor
open Go.ChangeShapes Go.WideShapes Go.ChangeAt Go.RowKit

end Go.Proofs.YtoeilaedpibboaaDoor
