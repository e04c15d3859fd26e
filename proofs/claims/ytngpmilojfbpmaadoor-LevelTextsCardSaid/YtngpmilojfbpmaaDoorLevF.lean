/- How the rows' arguments of layer 7 are opened: levels, slices of levels, slices of ints; what the rows' own list gives: the library's table of powers of ten. -/
import Derived.Test.YtngpmilojfbpmaaDoorLevL
import Derived.Test.YtngpmilojfbpmaaDoorCards
import Derived.Test.YtngpmilojfbpmaaDoorTie
import Derived.Lib.LaidTab
namespace Go.Proofs.YtngpmilojfbpmaaDoor
open Go.ChangeShapes Go.WideShapes Go.ChangeAt Go.RowKit Go.Deep
set_option maxRecDepth 100000

theorem cellsInt7 : Tryd.prog.cellsOf 3 = 1 := by kernel_rfl
theorem cellsArr4 : Tryd.prog.cellsOf 44 = 4 := by kernel_rfl
theorem cellsLv7 : Tryd.prog.cellsOf 46 = 5 := by kernel_rfl
theorem bytesLv7 : Tryd.prog.bytesOf 46 = 40 := by kernel_rfl
theorem in_wf {z : Int} (h : (Lit.int .i64 z).wf = true) : -9223372036854775808 ≤ z ∧ z ≤ 9223372036854775807 := by
  simpa [Lit.wf, IntKind.min, IntKind.max, IntKind.signed, IntKind.bits] using h
theorem level_of_trod {H : Type} {enc : TypeId × Value → H} {W : World} {base : Nat} {spare : Nat → Bool} {held : Bool} {fuel : Nat} {cs : List Value} {x : DataW H × List MemPlace} (h : DataW.trod enc Tryd.prog W base spare held fuel 46 cs = some x) :
    ∃ l : Lv, cs = ints .i64 l.zs ∧ l.p.length = 4 := by
  obtain ⟨y0, y1, n, -, hl, h0, h1⟩ := trod_struct2 Tryd.underlying46 h
  have h0' : DataW.trod enc Tryd.prog W base spare held n 3 ((cs.drop 0).take (Tryd.prog.cellsOf 3)) = some y0 := h0
  have h1' : DataW.trod enc Tryd.prog W base spare held n 44 ((cs.drop 1).take (Tryd.prog.cellsOf 44)) = some y1 := h1
  rw [cellsInt7] at h0'
  rw [cellsArr4] at h1'
  rw [cellsLv7] at hl
  obtain ⟨z, e0, -, -⟩ := DataW.trod_int Tryd.underlying3 h0'
  obtain ⟨zs, e1, e2, -⟩ := ints_of_array' Tryd.underlying44 Tryd.underlying3 cellsInt7 cellsArr4 h1'
  refine ⟨⟨z, zs⟩, ?_, e2⟩
  match cs, hl with
  | [c0, c1, c2, c3, c4], _ =>
    have a0 : [c0] = [Value.int .i64 z] := e0
    have a1 : [c1, c2, c3, c4] = ints .i64 zs := e1
    show c0 :: [c1, c2, c3, c4] = _
    rw [a1, (List.cons.inj a0).1]
    rfl
theorem open_level {H : Type} {enc : TypeId × Value → H} {W : World} {base b0 : Nat} {spare : Nat → Bool} {held : Bool} {r : Reach} {v : Value} {d : DataW H} {p : List MemPlace}
    (hval : Value.okWide Tryd.prog W r b0 46 v) (h : DataW.Trod enc Tryd.prog W base spare held 46 v d p) : (∃ l : Lv, v = .agg (ints .i64 l.zs).toArray ∧ l.p.length = 4) ∧ ∀ x ∈ p, x.block < W.heap.size := by
  simp only [Value.okWide, Tryd.underlying46] at hval
  obtain ⟨cs, rfl, -⟩ := hval
  obtain ⟨m, hm⟩ := h
  refine ⟨?_, DataW.trod_lt m _ _ _ hm⟩
  obtain ⟨l, e, h4⟩ := level_of_trod hm
  refine ⟨l, ?_, h4⟩
  simp only [Value.cells] at e
  rw [← e]
theorem open_nums {H : Type} {enc : TypeId × Value → H} {W : World} {base : Nat} {v : Value} {d : DataW H} {p : List MemPlace} (hval : Value.okWide Tryd.prog W .any base 47 v)
    (h : DataW.Trod enc Tryd.prog W 0 (fun _ => true) true 47 v d p) : (∃ zs, NumsIn W v zs ∧ NilOk v ∧ ∀ z ∈ zs, -9223372036854775808 ≤ z ∧ z ≤ 9223372036854775807) ∧ ∀ x ∈ p, x.block < W.heap.size := by
  obtain ⟨a0, len0, cap0, rfl⟩ := okWide_slice Tryd.underlying47 hval
  refine ⟨?_, by obtain ⟨m, hm⟩ := h; exact DataW.trod_lt m _ _ _ hm⟩
  obtain ⟨fuel, hf⟩ := h
  rcases open_ints Tryd.underlying47 Tryd.underlying3 cellsInt7 hf with ⟨hcs, _⟩ | ⟨x, l, c, zs, hcs, _, hl, hm, hz, _, hcell, hwz⟩
  · simp [Value.cells] at hcs
    obtain ⟨rfl, rfl, rfl⟩ := hcs
    exact ⟨[], ⟨none, 0, rfl, Nat.le_refl _, fun h => by simp at h⟩, ⟨rfl, rfl⟩, fun z hz => by cases hz⟩
  · simp [Value.cells] at hcs
    obtain ⟨rfl, rfl, rfl⟩ := hcs
    have hz' : zs.length = cap0 := by simpa using hz
    have hlen : (zs.take len0).length = len0 := by rw [List.length_take]; omega
    refine ⟨zs.take len0, ⟨some x, cap0, by rw [hlen], by rw [hlen]; exact hl, fun hp => ?_⟩, trivial, fun z hzm => in_wf (hwz z (List.mem_of_mem_take hzm))⟩
    rw [hlen] at hp
    obtain ⟨b, off, rfl, hc⟩ := ints_at hcell (by omega)
    have h0 := hc 0 (by omega)
    refine ⟨b, off, rfl, block_lt_of_cell h0, fun j u hu => ?_⟩
    have hj : j < len0 := by have := (List.getElem?_eq_some_iff.1 hu).1; rw [ints_length, hlen] at this; exact this
    rw [hc j (by omega), ← hu, ints_getD (by rw [hlen]; exact hj)]
    simp only [List.getD_eq_getElem?_getD, List.getElem?_take, if_pos hj]
theorem open_levels {H : Type} {enc : TypeId × Value → H} {W : World} {base : Nat} {v : Value} {d : DataW H} {p : List MemPlace} (hval : Value.okWide Tryd.prog W .any base 53 v)
    (h : DataW.Trod enc Tryd.prog W 0 (fun _ => true) true 53 v d p) (hsz : ∀ n ∈ d.weights Tryd.prog 53, n ≤ reachBytes) : (∃ ls, LvsIn W v ls) ∧ ∀ x ∈ p, x.block < W.heap.size := by
  obtain ⟨a0, len0, cap0, rfl⟩ := okWide_slice Tryd.underlying53 hval
  refine ⟨?_, by obtain ⟨m, hm⟩ := h; exact DataW.trod_lt m _ _ _ hm⟩
  obtain ⟨fuel, hf⟩ := h
  rcases open_slice Tryd.underlying53 hf with ⟨hcs, _⟩ | ⟨x, l, c, m, n, D, Pl, hcs, _, hl, hm, hmm, hx, hi⟩
  · simp [Value.cells] at hcs
    obtain ⟨rfl, rfl, rfl⟩ := hcs
    exact ⟨[], none_in W⟩
  · simp [Value.cells] at hcs
    obtain ⟨rfl, rfl, rfl⟩ := hcs
    simp only [if_true] at hmm
    subst hmm
    have hd : d = _ := congrArg Prod.fst hx
    dsimp only at hd
    have hr : reachBytes = 140737488351232 := rfl
    have hplain : 0 < len0 → x = ⟨x.block, x.off, none⟩ := fun hp => by
      obtain ⟨cs', hc, ht⟩ := hi 0 (by omega)
      rw [cellsLv7] at hc
      obtain ⟨lv, e, h4⟩ := level_of_trod ht
      obtain ⟨_, _, hat⟩ := World.cells?_some hc
      have h0 := hat 0 (by omega)
      rw [e, add_add] at h0
      exact addr_plain (v := .int .i64 lv.b) h0
    have each : ∀ i, ∃ lv : Lv, lv.p.length = 4 ∧ (i < len0 → W.rangeAt x.block (x.off + 5 * i) (ints .i64 lv.zs) ∧ x = ⟨x.block, x.off, none⟩) := fun i => by
      by_cases hil : i < len0
      · obtain ⟨cs', hc, ht⟩ := hi i (by omega)
        rw [cellsLv7] at hc
        obtain ⟨lv, e, h4⟩ := level_of_trod ht
        obtain ⟨_, _, hat⟩ := World.cells?_some hc
        refine ⟨lv, h4, fun _ => ⟨fun j u hu => ?_, hplain (by omega)⟩⟩
        have hj := (List.getElem?_eq_some_iff.1 hu).1
        rw [ints_length] at hj
        have h5 : lv.zs.length = 5 := by simp [Lv.zs, h4]
        have h0 := hat j (by omega)
        rw [e, hplain (by omega), Addr.add_mid, Addr.add_mid, hu] at h0
        rw [← h0, Nat.mul_comm 5 i]
      · exact ⟨zeroL, rfl, fun h => absurd h hil⟩
    have hlen : len0 ≤ 140737488351232 := by
      have := hsz ((((List.range len0).map D).length + ((List.range (m - len0)).map fun j => D (len0 + j)).length) * Tryd.prog.bytesOf 46) (by rw [hd]; simp [DataW.weights, Tryd.underlying53])
      rw [bytesLv7, hr] at this
      simp at this
      omega
    refine ⟨(List.range len0).map fun i => (each i).choose, some x, m, by simp, by simpa using hl, by simp; omega, fun lv hlv => ?_, fun hp => ?_⟩
    · obtain ⟨i, -, rfl⟩ := List.mem_map.1 hlv
      exact (each i).choose_spec.1
    · have hp0 : 0 < len0 := by simpa using hp
      have e := ((each 0).choose_spec.2 hp0)
      refine ⟨x.block, x.off, by rw [← e.2], ?_, fun k c hk => ?_⟩
      · exact block_lt_of_cell (a := ⟨x.block, x.off + 5 * 0 + 0, none⟩) (e.1 0 _ rfl)
      · rw [List.getElem?_map, Option.map_eq_some_iff] at hk
        obtain ⟨r, hr1, rfl⟩ := hk
        obtain ⟨hj, rfl⟩ : k < len0 ∧ k = r := by simpa using (List.getElem?_eq_some_iff.1 hr1)
        exact ((each k).choose_spec.2 hj).1
theorem gPowT : (Tryd.prog.globals[0]?).map (·.type) = some 178 := by kernel_rfl
theorem cellsPowT : Tryd.prog.cellsOf 178 = 20 := by kernel_rfl
theorem cellsU64 : Tryd.prog.cellsOf 159 = 1 := by kernel_rfl
theorem tab_third {P : Program} {W : World} {name : String} {k : IntKind} {zs : List Int} {x y : String × DataW Unit} {rest : List (String × DataW Unit)} {g : Nat} {t e : TypeId} {n : Nat}
    (hg : P.globalNamed name = some g) (hty : (P.globals[g]?).map (·.type) = some t) (ht : P.underlying t = some (.array n e)) (he : P.underlying e = some (.int k)) (hce : P.cellsOf e = 1) (hct : P.cellsOf t = n)
    (h : laidMet P (x :: y :: (name, Lib.tabData k zs) :: rest) W) : Lib.TabIs P W name k zs := by
  obtain ⟨ps, ⟨_, _, _, _, _, _, _, _, _, _, ⟨_, _, _, _, _, _, _, _, _, _, ⟨g', t', cs, fuel, p, q, hg', ht', hvar, hd, _, _⟩, _⟩, _⟩, _⟩ := h
  obtain rfl := Option.some.inj (hg.symm.trans hg')
  obtain rfl := Option.some.inj (hty.symm.trans ht')
  unfold Lib.TabIs
  rw [hvar, ← Lib.cells_of_tab ht he hce hct hd]
theorem tab_of_laid {W : World} (h : laidMet Tryd.prog [("math/bits.deBruijn32tab", Rows.laid_math_bits_deBruijn32tab), ("math/bits.deBruijn64tab", Rows.laid_math_bits_deBruijn64tab), ("internal/strconv.uint64pow10", Rows.laid_internal_strconv_uint64pow10)] W) : TabW W :=
  tab_third (k := .u64) (zs := Lib.pow10Tab) gPow gPowT Tryd.underlying178 Tryd.underlying159 cellsU64 cellsPowT (show laidMet Tryd.prog (_ :: _ :: ("internal/strconv.uint64pow10", Lib.tabData .u64 Lib.pow10Tab) :: []) W from h)
/-- The cells that a table's datum tells. -/
def litCells : DataW Unit → Array Value
  | .agg ls => (ls.map fun | .lit l => l.value | _ => undef).toArray
  | _ => #[]
def layCells (d : DataW Unit) : Obj → Obj
  | .cells _ t frozen => .cells (litCells d) t frozen
  | o => o
/-- A world for the witnesses: the settled one, the tables holding what their initialisers lay. -/
noncomputable def laidWorld (os : Os) : World :=
  { World.holding Tryd.prog os ⟨#[], #[], []⟩ with heap := (((World.holding Tryd.prog os ⟨#[], #[], []⟩).heap.modify 2 (layCells Rows.laid_math_bits_deBruijn32tab)).modify 3 (layCells Rows.laid_math_bits_deBruijn64tab)).modify 0 (layCells Rows.laid_internal_strconv_uint64pow10) }
end Go.Proofs.YtngpmilojfbpmaaDoor
