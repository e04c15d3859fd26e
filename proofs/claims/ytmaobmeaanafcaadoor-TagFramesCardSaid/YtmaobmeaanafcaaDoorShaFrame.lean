/- What the rows' own list gives: the table of the round constants lies in its variable; and a world in which it does, for the rows' witnesses. -/
import Derived.Test.YtmaobmeaanafcaaDoorCards
import Derived.Test.YtmaobmeaanafcaaDoorTie
import Derived.Test.YtmaobmeaanafcaaDoorShaAlive
import Derived.ProofKit
import Derived.OpenShut
import Derived.Deep.DeepHandedRow
import Derived.Lib.LaidTab
import Derived.Test.YtmaobmeaanafcaaDoorShaApp
import Derived.ChangeOld
import Derived.Test.YtmaobmeaanafcaaDoorShaRows
import Derived.Deep.Matrix
import Derived.SizedLaws
import Derived.Test.YtmaobmeaanafcaaDoorShaBlocks
import Derived.Test.YtmaobmeaanafcaaDoorTagCmp
namespace Go.Proofs.YtmaobmeaanafcaaDoor
open Go.ChangeShapes Go.WideShapes Go.ChangeAt Go.RowKit
set_option maxRecDepth 100000

theorem own : ownKnob Tryd.prog.godebug = none := by kernel_rfl
theorem gTab : Tryd.prog.globalNamed "imprimatur/sha.roundWords" = some 1 := by kernel_rfl
theorem gTabType : (Tryd.prog.globals[1]?).map (·.type) = some 101 := by kernel_rfl
theorem cellsWords : Tryd.prog.cellsOf 101 = 64 := by kernel_rfl
theorem cellsU32 : Tryd.prog.cellsOf 73 = 1 := by kernel_rfl

theorem kw_of_laid {W : World} (h : laidMetH Tryd.prog [("imprimatur/sha.roundWords", Rows.laid_imprimatur_sha_roundWords)] W) : KW W := by
  have ht : Lib.TabIs Tryd.prog W "imprimatur/sha.roundWords" .u32 Sha.K := Lib.tabIs_of_head (rest := []) gTab gTabType Tryd.underlying101 Tryd.underlying73 cellsU32 cellsWords h
  intro i hi
  have := ht.cell gTab i (by exact hi)
  simpa [List.getD_eq_getElem?_getD] using this

/-- A world for the witnesses: the settled one, the table holding what its initialiser lays. -/
noncomputable def laidWorld (os : Os) : World :=
  { World.holding Tryd.prog os ⟨#[], #[], []⟩ with heap := (World.holding Tryd.prog os ⟨#[], #[], []⟩).heap.modify 1 fun
      | .cells _ t frozen => .cells (ints .u32 Sha.K).toArray t frozen
      | o => o }
end Go.Proofs.YtmaobmeaanafcaaDoor
/- An argument that is a slice of bytes, opened: its bytes lie somewhere; behind a call that changes nothing that was there it reads as it did. -/
namespace Go.Proofs.YtmaobmeaanafcaaDoor
open Go.ChangeShapes Go.WideShapes Go.ChangeAt Go.RowKit
set_option maxRecDepth 100000

theorem laidOut : laidOutB Tryd.prog = true := by kernel_rfl
theorem cellsByte : Tryd.prog.cellsOf 5 = 1 := by kernel_rfl
/-- What is known of a slice of bytes that came in. -/
def ByteArg (W : World) (v : Value) (zs : List Int) : Prop := BytesIn W v zs ∧ NilOk v ∧ ∀ z ∈ zs, 0 ≤ z ∧ z ≤ 255
theorem open_bytes {H : Type} {enc : TypeId × Value → H} {W : World} {base : Nat} {v : Value} {d : DataW H} {p : List MemPlace} (hval : Value.okWide Tryd.prog W .any base 37 v)
    (h : DataW.Trod enc Tryd.prog W 0 (fun _ => true) true 37 v d p) : (∃ zs, ByteArg W v zs) ∧ ∀ x ∈ p, x.block < W.heap.size := by
  obtain ⟨a0, len0, cap0, rfl⟩ := okWide_slice Tryd.underlying37 hval
  refine ⟨?_, by obtain ⟨m, hm⟩ := h; exact DataW.trod_lt m _ _ _ hm⟩
  obtain ⟨fuel, hf⟩ := h
  rcases open_ints Tryd.underlying37 Tryd.underlying5 cellsByte hf with ⟨hcs, _⟩ | ⟨x, l, c, zs, hcs, _, hl, hm, hz, _, hcell, hwz⟩
  · simp [Value.cells] at hcs
    obtain ⟨rfl, rfl, rfl⟩ := hcs
    exact ⟨[], bytes_nil W, ⟨rfl, rfl⟩, fun z hz => by cases hz⟩
  · simp [Value.cells] at hcs
    obtain ⟨rfl, rfl, rfl⟩ := hcs
    have hz' : zs.length = cap0 := by simpa using hz
    have hlen : (zs.take len0).length = len0 := by rw [List.length_take]; omega
    refine ⟨zs.take len0, ⟨some x, cap0, by rw [hlen], by rw [hlen]; exact hl, fun hp => ?_⟩, trivial, fun z hzm => ?_⟩
    · rw [hlen] at hp
      obtain ⟨b, off, rfl, hc⟩ := ints_at hcell (by omega)
      have h0 := hc 0 (by omega)
      refine ⟨b, off, rfl, block_lt_of_cell h0, fun j u hu => ?_⟩
      have hj : j < len0 := by have := (List.getElem?_eq_some_iff.1 hu).1; rw [ints_length, hlen] at this; exact this
      rw [hc j (by omega)]
      rw [← hu, ints_getD (by rw [hlen]; exact hj)]
      simp only [List.getD_eq_getElem?_getD, List.getElem?_take, if_pos hj]
    · have := hwz z (List.mem_of_mem_take hzm)
      simpa [Lit.wf, IntKind.min, IntKind.max, IntKind.signed, IntKind.bits] using this
end Go.Proofs.YtmaobmeaanafcaaDoor
/- An argument that is a slice of slices of bytes, opened. -/
namespace Go.Proofs.YtmaobmeaanafcaaDoor
open Go.ChangeShapes Go.WideShapes Go.ChangeAt Go.RowKit Go.Deep
set_option maxRecDepth 100000

theorem cellsBytes : Tryd.prog.cellsOf 37 = 1 := by kernel_rfl
theorem bytesByte : Tryd.prog.bytesOf 5 = 1 := by kernel_rfl
theorem bytesBytes : Tryd.prog.bytesOf 37 = 24 := by kernel_rfl
theorem weights_in {H : Type} {P : Program} {e : TypeId} : ∀ {l : List (DataW H)} {d : DataW H}, d ∈ l → ∀ n ∈ d.weights P e, n ∈ DataW.weightsAll P e l
  | _ :: _, d, h, n, hn => by
    rw [DataW.weightsAll, List.mem_append]
    rcases List.mem_cons.1 h with rfl | h
    · exact Or.inl hn
    · exact Or.inr (weights_in h n hn)
theorem addr_plain {w : World} {a : Addr} {v : Value} (h : w.cell? (a.add 0) = some v) : a = ⟨a.block, a.off, none⟩ := by
  have : a.spot = none := World.cell?_spot (by simpa [Addr.add] using h)
  cases a; simp_all
theorem open_parts {H : Type} {enc : TypeId × Value → H} {W : World} {base : Nat} {v : Value} {d : DataW H} {p : List MemPlace} (hval : Value.okWide Tryd.prog W .any base 35 v)
    (h : DataW.Trod enc Tryd.prog W 0 (fun _ => true) true 35 v d p) (hsz : ∀ n ∈ d.weights Tryd.prog 35, n ≤ reachBytes) : (∃ a zss cap, v = .slice a (List.length zss) cap ∧ PartsIn W v zss) ∧ ∀ x ∈ p, x.block < W.heap.size := by
  obtain ⟨a0, len0, cap0, rfl⟩ := okWide_slice Tryd.underlying35 hval
  refine ⟨?_, by obtain ⟨m, hm⟩ := h; exact DataW.trod_lt m _ _ _ hm⟩
  obtain ⟨fuel, hf⟩ := h
  rcases open_int_rows Tryd.underlying35 Tryd.underlying37 Tryd.underlying5 cellsBytes cellsByte hf with ⟨hcs, _⟩ | ⟨x, l, c, A, L, C, Z, hcs, _, hl, hm, hx, hcell⟩
  · simp [Value.cells] at hcs
    obtain ⟨rfl, rfl, rfl⟩ := hcs
    exact ⟨none, [], 0, rfl, none, 0, [], rfl, rfl, by simp, fun h => absurd h (by simp), fun k v zs hv => by simp at hv⟩
  · simp [Value.cells] at hcs
    obtain ⟨rfl, rfl, rfl⟩ := hcs
    have hd : d = _ := congrArg Prod.fst hx
    dsimp only at hd
    have hr : reachBytes = 140737488351232 := rfl
    have hlen : len0 ≤ 140737488351232 := by
      have := hsz ((((List.range len0).map fun r => intRow (H := H) .u8 (A r) (L r) (Z r)).length + ((List.range (cap0 - len0)).map fun j => intRow (H := H) .u8 (A (len0 + j)) (L (len0 + j)) (Z (len0 + j))).length) * Tryd.prog.bytesOf 37) (by rw [hd]; simp [DataW.weights, Tryd.underlying35])
      rw [bytesBytes, hr] at this
      simp at this
      omega
    have hpart : ∀ r, r < len0 → L r ≤ 140737488351232 := fun r hrl => by
      obtain ⟨_, h1, _, h3, _, h5, _⟩ := hcell r (by omega)
      cases hA : A r with
      | none => have := h5 hA; omega
      | some a' =>
        have := hsz (((lits (H := H) .u8 ((Z r).take (L r))).length + (lits (H := H) .u8 ((Z r).drop (L r))).length) * Tryd.prog.bytesOf 5) (by
          rw [hd]
          simp only [DataW.weights, Tryd.underlying35]
          refine List.mem_cons_of_mem _ (List.mem_append_left _ (weights_in (d := intRow .u8 (A r) (L r) (Z r)) (List.mem_map.2 ⟨r, by simpa using hrl, rfl⟩) _ ?_))
          rw [hA]
          simp [intRow, DataW.weights, Tryd.underlying37])
        rw [bytesByte, hr] at this
        simp [lits] at this
        omega
    refine ⟨some x, (List.range len0).map (fun r => (Z r).take (L r)), cap0, by simp, some x, cap0, (List.range len0).map (fun r => .slice (A r) (L r) (C r)), by simp, by simp, by simpa using hlen, fun hp => ?_, fun k v zs hv hz => ?_⟩
    · have hp0 : 0 < len0 := by simpa using hp
      have e := addr_plain (hcell 0 (by omega)).1
      refine ⟨x.block, x.off, by rw [← e], ?_, fun j v hv => ?_⟩
      · have h0 := (hcell 0 (by omega)).1
        rw [e, Addr.add_mid] at h0
        exact block_lt_of_cell (a := ⟨x.block, x.off + 0, none⟩) h0
      · simp only [List.getElem?_map, Option.map_eq_some_iff] at hv
        obtain ⟨r, hr1, rfl⟩ := hv
        obtain ⟨hj, rfl⟩ : j < len0 ∧ j = r := by simpa [List.getElem?_range'] using (List.getElem?_eq_some_iff.1 hr1)
        have := (hcell j (by omega)).1
        rwa [e, Addr.add_mid] at this
    · simp only [List.getElem?_map, Option.map_eq_some_iff] at hv hz
      obtain ⟨r, hr1, rfl⟩ := hv
      obtain ⟨r', hr1', rfl⟩ := hz
      have er : r = r' := Option.some.inj (hr1.symm.trans hr1')
      subst er
      obtain ⟨hj, rfl⟩ : k < len0 ∧ k = r := by simpa using (List.getElem?_eq_some_iff.1 hr1)
      obtain ⟨_, h1, h2, h3, h4, h5, h6⟩ := hcell k (by omega)
      have hlk : ((Z k).take (L k)).length = L k := by rw [List.length_take]; omega
      refine ⟨⟨A k, C k, by rw [hlk], by rw [hlk]; exact h1, fun hp => ?_⟩, ?_, by rw [hlk]; exact hpart k hj⟩
      · rw [hlk] at hp
        cases hA : A k with
        | none => have := h5 hA; omega
        | some a' =>
          obtain ⟨_, h7⟩ := h6 a' hA
          have e := addr_plain (h7 0 (by omega))
          have h70 := h7 0 (by omega)
          rw [e, Addr.add_mid] at h70
          refine ⟨a'.block, a'.off, by rw [← e], block_lt_of_cell (a := ⟨a'.block, a'.off + 0, none⟩) h70, fun j u hu => ?_⟩
          have hjl : j < L k := by have := (List.getElem?_eq_some_iff.1 hu).1; rw [ints_length, hlk] at this; exact this
          have h7j := h7 j (by omega)
          rw [e, Addr.add_mid] at h7j
          rw [h7j, ← hu, ints_getD (by rw [hlk]; exact hjl)]
          simp only [List.getD_eq_getElem?_getD, List.getElem?_take, if_pos hjl]
      · cases hA : A k with
        | none => have := h5 hA; exact ⟨by omega, this⟩
        | some a' => trivial
end Go.Proofs.YtmaobmeaanafcaaDoor
/- An argument that is a slice of blocks of 64 bytes, opened. -/
namespace Go.Proofs.YtmaobmeaanafcaaDoor
open Go.ChangeShapes Go.WideShapes Go.ChangeAt Go.RowKit Go.Deep
set_option maxRecDepth 100000

theorem cellsBlock : Tryd.prog.cellsOf 63 = 64 := by kernel_rfl
def valOf : Value → Int | .int _ z => z | _ => 0
theorem ints_of_array {H : Type} {enc : TypeId × Value → H} {P : Program} {w : World} {base : Nat} {spare : Nat → Bool} {held : Bool} {fuel : Nat} {t e : TypeId} {n : Nat} {k : IntKind} {cs : List Value} {x : DataW H × List MemPlace}
    (ht : P.underlying t = some (.array n e)) (he : P.underlying e = some (.int k)) (ce : P.cellsOf e = 1) (ct : P.cellsOf t = n) (h : DataW.trod enc P w base spare held fuel t cs = some x) : ∃ zs : List Int, cs = ints k zs ∧ zs.length = n := by
  obtain ⟨xs, m, rfl, -, hl, hxl, hi⟩ := DataW.trod_array ht h
  rw [ct] at hl
  refine ⟨cs.map valOf, ?_, by rw [List.length_map, hl]⟩
  apply List.ext_getElem?
  intro i
  by_cases hin : i < n
  · have h1 := hi i hin
    rw [ce, Nat.mul_one, List.getElem?_eq_getElem (by omega)] at h1
    obtain ⟨z, hz, _⟩ := DataW.trod_int he h1
    have h2 : cs[i]? = some (.int k z) := by
      have : ((cs.drop i).take 1)[0]? = some (.int k z) := by rw [hz]; rfl
      simpa [List.getElem?_take, List.getElem?_drop] using this
    rw [h2]
    simp [ints, h2, valOf]
  · rw [List.getElem?_eq_none (by omega), List.getElem?_eq_none (by rw [ints_length, List.length_map]; omega)]
end Go.Proofs.YtmaobmeaanafcaaDoor
/- An argument that is an array of integers, opened: it is just so many integers, each of its kind. -/
namespace Go.Proofs.YtmaobmeaanafcaaDoor
open Go.ChangeShapes Go.WideShapes Go.ChangeAt Go.RowKit Go.Deep
set_option maxRecDepth 100000

theorem ints_of_array' {H : Type} {enc : TypeId × Value → H} {P : Program} {w : World} {base : Nat} {spare : Nat → Bool} {held : Bool} {fuel : Nat} {t e : TypeId} {n : Nat} {k : IntKind} {cs : List Value} {x : DataW H × List MemPlace}
    (ht : P.underlying t = some (.array n e)) (he : P.underlying e = some (.int k)) (ce : P.cellsOf e = 1) (ct : P.cellsOf t = n) (h : DataW.trod enc P w base spare held fuel t cs = some x) : ∃ zs : List Int, cs = ints k zs ∧ zs.length = n ∧ ∀ z ∈ zs, (Lit.int k z).wf = true := by
  obtain ⟨zs, rfl, hz⟩ := ints_of_array ht he ce ct h
  refine ⟨zs, rfl, hz, fun z hzm => ?_⟩
  obtain ⟨i, hi, rfl⟩ := List.mem_iff_getElem.1 hzm
  obtain ⟨xs, m, rfl, -, hl, hxl, hix⟩ := DataW.trod_array ht h
  have h1 := hix i (by omega)
  rw [ce, Nat.mul_one, List.getElem?_eq_getElem (by omega)] at h1
  obtain ⟨z, hz1, _, hw⟩ := DataW.trod_int he h1
  have h2 : ((ints k zs).drop i).take 1 = [.int k zs[i]] := by
    apply List.ext_getElem?
    intro j
    cases j with
    | zero => simp [List.getElem?_drop, ints, hi]
    | succ j => simp [List.getElem?_take]
  rw [h2] at hz1
  have : zs[i] = z := by simpa using hz1
  rw [this]
  exact hw
theorem open_ints_array {H : Type} {enc : TypeId × Value → H} {P : Program} {W : World} {base b0 : Nat} {spare : Nat → Bool} {held : Bool} {r : Reach} {t e : TypeId} {n : Nat} {k : IntKind} {v : Value} {d : DataW H} {p : List MemPlace}
    (ht : P.underlying t = some (.array n e)) (he : P.underlying e = some (.int k)) (ce : P.cellsOf e = 1) (ct : P.cellsOf t = n) (hval : Value.okWide P W r b0 t v) (h : DataW.Trod enc P W base spare held t v d p) :
    (∃ zs : List Int, v = .agg (ints k zs).toArray ∧ zs.length = n ∧ ∀ z ∈ zs, (Lit.int k z).wf = true) ∧ ∀ x ∈ p, x.block < W.heap.size := by
  simp only [Value.okWide, ht] at hval
  obtain ⟨cs, rfl, h2, _⟩ := hval
  obtain ⟨m, hm⟩ := h
  refine ⟨?_, DataW.trod_lt m _ _ _ hm⟩
  obtain ⟨zs, e1, e2, e3⟩ := ints_of_array' ht he ce ct hm
  refine ⟨zs, ?_, e2, e3⟩
  simp only [Value.cells] at e1
  rw [← e1]
theorem cellsState : Tryd.prog.cellsOf 74 = 8 := by kernel_rfl
theorem cellsDigest : Tryd.prog.cellsOf 24 = 32 := by kernel_rfl
end Go.Proofs.YtmaobmeaanafcaaDoor
/- What a row's own reading tells of bytes. -/
namespace Go.Proofs.YtmaobmeaanafcaaDoor
open Go.ChangeShapes Go.WideShapes Go.ChangeAt Go.RowKit

theorem bytes_of_wf {zs : List Int} (h : ∀ z ∈ zs, (Lit.int .u8 z).wf = true) : isBytes zs := fun z hz => by
  have := h z hz
  simpa [Lit.wf, IntKind.min, IntKind.max, IntKind.signed, IntKind.bits] using this
end Go.Proofs.YtmaobmeaanafcaaDoor
