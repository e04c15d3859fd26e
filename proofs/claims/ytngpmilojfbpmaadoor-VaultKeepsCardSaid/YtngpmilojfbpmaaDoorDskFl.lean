/- package disk: Read, Flush. -/
import Derived.Test.YtngpmilojfbpmaaDoorDskWr
namespace Go.Proofs.YtngpmilojfbpmaaDoor
open Go Go.RowKit
set_option maxRecDepth 100000

theorem calls_at {P : Program} {f : FuncId} {args : Array Value} {w w' : World} {R : Ending → World → Prop} (h : w = w') (hc : Calls P f args w' R) : Calls P f args w R := by rw [h]; exact hc
theorem boxed (w : World) (t : TypeId) (z vs : List Value) (hl : vs.length = z.length) : Blk ((w.alloc (.cells z.toArray t)).setCells w.heap.size 0 vs) w.heap.size t vs ∧ Below w.heap.size w ((w.alloc (.cells z.toArray t)).setCells w.heap.size 0 vs) ∧ ((w.alloc (.cells z.toArray t)).setCells w.heap.size 0 vs).heap.size = w.heap.size + 1 :=
  ⟨(Blk.new w t z).setWhole vs hl, below_setCells vs ((Below.refl _ _).alloc (Nat.le_refl _) _) 0 (Nat.le_refl _), by rw [size_setCells]; simp⟩
theorem zeroBlk : (Tryd.prog.info? 91).map (·.zero) = some (some (.agg (ints .u8 zB).toArray)) := by kernel_rfl
theorem zeroWr : (Tryd.prog.info? 93).map (·.zero) = some (some (.agg zW.toArray)) := by kernel_rfl
theorem zW_length : zW.length = 65 := by simp [zW, ints_length, zB_length]
theorem getB_range {w : World} {B n sz : Nat} {t : TypeId} {l : List Int} {r : List Value} (h : Blk w B t (ints .u8 l ++ r)) (hl : l.length = 64 * sz) (hn : n < sz) : w.rangeAt B (0 + 64 * n) (ints .u8 (getB l n)) := fun j v hv => by
  refine h.cell ?_
  have hj : j < 64 := by have := (List.getElem?_eq_some_iff.1 hv).1; rwa [ints_length, getB_length hl hn] at this
  rw [List.getElem?_append_left (by rw [ints_length]; omega)]
  unfold getB at hv
  rw [ints, List.getElem?_map, List.getElem?_take, if_pos hj, List.getElem?_drop] at hv
  rw [ints, List.getElem?_map, Nat.zero_add]
  exact hv
theorem own_range {w : World} {g n cap sz k : Nat} {p : List Wr} (h : w.ownsRow 0 93 65 (.slice (some ⟨g, 0, none⟩) n cap) p.length (pcells p)) (hok : okW sz p) (hk : k < p.length) : w.rangeAt g (0 + 65 * k) (wcells (wrAt p k)) := fun j v hv => by
  obtain ⟨h1, h2⟩ := h
  rcases h2 with ⟨e, _⟩ | ⟨g', cap', cur, e, _, hg, _, _, hs, ht⟩
  · cases e
  · obtain ⟨e1, -, -⟩ := Value.slice.inj e
    obtain rfl : g = g' := by simpa using e1
    rw [cell_of_row w g _ cur 93 (0, 0) hg]
    have h3 := pcells_at hok hk hv
    rw [← ht, List.getElem?_take] at h3
    split at h3
    · rw [Nat.zero_add]; simpa using h3
    · cases h3

set_option maxHeartbeats 1000000 in
theorem read_yes (d sz n : Nat) (F : List Nat) (seen dur : List Int) (pend : List Wr) (left : Int) (w : World) (h : Dk w F d sz seen dur pend left) (hn : n < sz) :
    Calls Tryd.prog 110 #[.pointer (some ⟨d, 0, none⟩), .int .i64 (n : Int)] w fun e w' => e = .returned (.tuple #[.agg (ints .u8 (getB seen n)).toArray, .int .i64 0]) ∧ Below w.heap.size w w' := by
  obtain ⟨sB, dB, sc, dc, rs, rd, pv, rfl, hx⟩ := h
  have HX := Lib.hid (hx.alloc (.cells (ints .u8 zB).toArray 91))
  have HG := Lib.hid (getB_length hx.ls hn)
  clear hx
  go_enter Tryd.func110, Tryd.ntmps110
  go_wp2_with fail
  refine calls_at (w' := w.alloc (.cells (ints .u8 zB).toArray 91)) (by kernel_rfl) ?_
  refine (has_yes d sz n sc _ _ HX.out.c0 hn).mono ?_
  rintro e w1 ⟨rfl, rfl⟩
  have IG : Hid ((Tryd.prog.info? 91).map (·.size) = some (ints .u8 (getB seen n)).length) := infoBlk _ HG.out
  have HGR : Hid (World.rangeAt _ sB (0 + 64 * n) (ints .u8 (getB seen n))) := getB_range HX.out.hs HX.out.ls hn
  have BX := Lib.hid (boxed w 91 (ints .u8 zB) (ints .u8 (getB seen n)) (by rw [ints_length, ints_length, HG.out, zB_length]))
  have C0 := Lib.hid HX.out.c0
  clear HX
  obtain ⟨bl, hbl⟩ : ∃ bl, Hid (getB seen n = bl) := ⟨_, rfl⟩
  rw [hbl.out] at IG HGR BX HG
  have NB : Hid (Blk (w.alloc (.cells (ints .u8 zB).toArray 91)) w.heap.size 91 (ints .u8 zB)) := Blk.new _ _ _
  have TH : Hid (World.there (w.alloc (.cells (ints .u8 zB).toArray 91)) w.heap.size 0 (ints .u8 bl).length) := NB.out.there 0 _ (by rw [ints_length, ints_length, HG.out, zB_length]; omega)
  go_upto_region 3 with (fail)
  refine lin_begin (opsOf Tryd.f110 3) (by kernel_rfl) ?_
  refine lin_now 0 (.pointer (some ⟨d, 0, none⟩)) (some 11) (by kernel_rfl) (by kernel_rfl) (by kernel_rfl) ?_
  refine lin_now 1 (.pointer (some ⟨d, 0, none⟩)) (some 12) (by kernel_rfl) (by kernel_rfl) (by kernel_rfl) ?_
  refine lin_now 2 (.pointer (some ⟨d, 0, none⟩)) (some 13) (by kernel_rfl) (by kernel_rfl) (by kernel_rfl) ?_
  refine lin_now 3 (.slice (some ⟨sB, 0, none⟩) sz sc) (some 14) (by kernel_rfl) (by kernel_rfl) (exec_load_cell 67 (.tmp 13) (by kernel_rfl) d 0 (by kernel_rfl) _ C0.out _ Tryd.underlying67 rfl) ?_
  refine lin_now 4 (.int .i64 (n : Int)) (some 15) (by kernel_rfl) (by kernel_rfl) (by kernel_rfl) ?_
  refine lin_now 5 (.pointer (some ⟨sB, 0 + 64 * n, none⟩)) (some 16) (by kernel_rfl) (by kernel_rfl) (exec_indexAt 67 (.tmp 14) (.tmp 15) (by kernel_rfl) _ _ _ (by kernel_rfl) (by kernel_rfl) (run_at_block sB 0 sz sc n hn _)) ?_
  refine lin_now 6 (.agg (ints .u8 bl).toArray) (some 17) (by kernel_rfl) (by kernel_rfl) (exec_load_mid 91 (.tmp 16) (by kernel_rfl) sB (0 + 64 * n) (by kernel_rfl) (ints .u8 bl) _ HGR.out Tryd.underlying91 rfl IG.out) ?_
  refine lin_store 7 _ (by kernel_rfl) (by kernel_rfl) (exec_store_mid 91 (.tmp 4) (.tmp 17) (by kernel_rfl) w.heap.size 0 (ints .u8 bl) (by kernel_rfl) (by kernel_rfl) TH.out IG.out (ints_oneCell _ _)) ?_
  refine lin_now 8 (.int .i64 0) (some 5) (by kernel_rfl) (by kernel_rfl) (by kernel_rfl) ?_
  refine lin_done 9 (by kernel_rfl) ?_
  clear TH NB C0 HGR
  generalize (w.alloc (.cells (ints .u8 zB).toArray 91)).setCells w.heap.size 0 (ints .u8 bl) = wf at *
  generalize hact : Act.put _ (some 5) (.int .i64 0) = act
  have h4 : act.tmps.getD 4 undef = .pointer (some ⟨w.heap.size, 0, none⟩) := by rw [← hact]; kernel_rfl
  have h5 : act.tmps.getD 5 undef = .int .i64 0 := by rw [← hact]; kernel_rfl
  have hd : act.defers = [] := by rw [← hact]; kernel_rfl
  clear hact
  go_wp2
  refine bodyPost_ret (v := .tuple #[.agg (ints .u8 bl).toArray, .int .i64 0]) ?_ hd ⟨by rw [hbl.out], BX.out.2.1⟩
  exact results_cell_tmp Tryd.results110 _ _ w.heap.size 91 (ints .u8 bl).toArray (0, 0) _ _ h4 h5 BX.out.1 Tryd.underlying91 rfl (by rw [List.size_toArray]; exact IG.out)
set_option maxHeartbeats 1000000 in
theorem read_no (d sz : Nat) (n : Int) (F : List Nat) (seen dur : List Int) (pend : List Wr) (left : Int) (w : World) (h : Dk w F d sz seen dur pend left) (hn : n < 0 ∨ (sz : Int) ≤ n) :
    Calls Tryd.prog 110 #[.pointer (some ⟨d, 0, none⟩), .int .i64 n] w fun e w' => e = .returned (.tuple #[.agg (ints .u8 zB).toArray, .int .i64 11]) ∧ Below w.heap.size w w' := by
  obtain ⟨sB, dB, sc, dc, rs, rd, pv, rfl, hx⟩ := h
  have HX := Lib.hid (hx.alloc (.cells (ints .u8 zB).toArray 91))
  clear hx
  go_enter Tryd.func110, Tryd.ntmps110
  go_wp2_with fail
  refine calls_at (w' := w.alloc (.cells (ints .u8 zB).toArray 91)) (by kernel_rfl) ?_
  refine (has_no d sz sc n _ _ HX.out.c0 hn).mono ?_
  rintro e w1 ⟨rfl, rfl⟩
  have BX := Lib.hid (boxed w 91 (ints .u8 zB) (ints .u8 zB) rfl)
  clear HX
  have NB : Hid (Blk (w.alloc (.cells (ints .u8 zB).toArray 91)) w.heap.size 91 (ints .u8 zB)) := Blk.new _ _ _
  have TH : Hid (World.there (w.alloc (.cells (ints .u8 zB).toArray 91)) w.heap.size 0 (ints .u8 zB).length) := NB.out.there 0 _ (by omega)
  have IG : Hid ((Tryd.prog.info? 91).map (·.size) = some (ints .u8 zB).length) := infoBlk _ zB_length
  have hbl : Hid (ints .u8 zB = ints .u8 zB) := rfl
  go_upto_region 2 with (fail)
  refine lin_begin (opsOf Tryd.f110 2) (by kernel_rfl) ?_
  refine lin_now 0 (.agg (ints .u8 zB).toArray) (some 10) (by kernel_rfl) (by kernel_rfl) (by kernel_rfl) ?_
  refine lin_store 1 _ (by kernel_rfl) (by kernel_rfl) (exec_store_mid 91 (.tmp 4) (.tmp 10) (by kernel_rfl) w.heap.size 0 (ints .u8 zB) (by kernel_rfl) (by kernel_rfl) TH.out IG.out (ints_oneCell _ _)) ?_
  refine lin_now 2 (.int .i64 11) (some 5) (by kernel_rfl) (by kernel_rfl) (by kernel_rfl) ?_
  refine lin_done 3 (by kernel_rfl) ?_
  clear TH NB hbl
  generalize (w.alloc (.cells (ints .u8 zB).toArray 91)).setCells w.heap.size 0 (ints .u8 zB) = wf at *
  generalize hact : Act.put _ (some 5) (.int .i64 11) = act
  have h4 : act.tmps.getD 4 undef = .pointer (some ⟨w.heap.size, 0, none⟩) := by rw [← hact]; kernel_rfl
  have h5 : act.tmps.getD 5 undef = .int .i64 11 := by rw [← hact]; kernel_rfl
  have hd : act.defers = [] := by rw [← hact]; kernel_rfl
  clear hact
  go_wp2
  refine bodyPost_ret (v := .tuple #[.agg (ints .u8 zB).toArray, .int .i64 11]) ?_ hd ⟨rfl, BX.out.2.1⟩
  exact results_cell_tmp Tryd.results110 _ _ w.heap.size 91 (ints .u8 zB).toArray (0, 0) _ _ h4 h5 BX.out.1 Tryd.underlying91 rfl (by rw [List.size_toArray]; exact IG.out)
theorem run_arr_head (q n : Nat) (h : n ≤ 64) (w : World) : (Instr.sliceAt 91 (.pointer (some ⟨q, 0, none⟩)) none (some (.int .i64 (n : Int))) none).run Tryd.prog w = .ok (.slice (some ⟨q, 0, none⟩) n 64) w := by
  have ht : Tryd.prog.underlying 91 = some (.array (Tryd.prog.arrayLen 91) (Tryd.prog.elem 91)) := by kernel_rfl
  have hz : (sizeOf (Tryd.prog.elem 91)).run Tryd.prog w = .ok 1 w := by kernel_rfl
  have hl : Tryd.prog.arrayLen 91 = 64 := by kernel_rfl
  rw [run_sliceAt_array_h w 91 _ ht .i64 (n : Int) (by omega) (by rw [hl]; omega), hz, hl]
  simp [slicedAt, Addr.add]
def zeros (n : Nat) : List Int := List.replicate n 0
theorem zeros_length (n : Nat) : (zeros n).length = n := by simp [zeros]
theorem zB_get (j : Nat) (h : j < 64) : (ints .u8 zB)[j]? = some (.int .u8 0) := by
  rw [ints, List.getElem?_map, zB, List.getElem?_replicate, if_pos h]; rfl
theorem made_zeros (n : Nat) : (madeCells (ints .u8 zB).toArray (n * 64)).toList = ints .u8 (zeros (64 * n)) := by
  apply List.ext_getElem?
  intro j
  by_cases hj : j < n * 64
  · have h1 : (ints .u8 (zeros (64 * n)))[j]? = some (.int .u8 0) := by
      rw [ints, List.getElem?_map, zeros, List.getElem?_replicate, if_pos (by omega)]; rfl
    have h2 : (ints .u8 zB)[j % 64]? = some (.int .u8 0) := zB_get _ (Nat.mod_lt _ (by decide))
    rw [h1]
    have hs : (ints .u8 zB).length = 64 := by rw [ints_length, zB_length]
    have h3 : (ints .u8 zB)[j % 64]! = .int .u8 0 := by
      rw [List.getElem!_eq_getElem?_getD, h2]; rfl
    simp [madeCells, hj, hs]
    simpa using h3
  · rw [List.getElem?_eq_none (by simp [madeCells]; omega), List.getElem?_eq_none (by rw [ints_length, zeros_length]; omega)]
theorem run_arr_all (q : Nat) (w : World) : (Instr.sliceAt 91 (.pointer (some ⟨q, 0, none⟩)) none none none).run Tryd.prog w = .ok (.slice (some ⟨q, 0, none⟩) 64 64) w := by kernel_rfl
theorem take_next (l : List Int) (k : Nat) : l.take (64 * k) ++ getB l k = l.take (64 * (k + 1)) := by
  unfold getB
  rw [show 64 * (k + 1) = 64 * k + 64 by omega, List.take_add]
end Go.Proofs.YtngpmilojfbpmaaDoor
