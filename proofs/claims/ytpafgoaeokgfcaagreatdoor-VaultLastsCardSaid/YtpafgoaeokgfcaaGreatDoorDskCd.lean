/- package disk: crashed. -/
import Derived.Test.YtpafgoaeokgfcaaGreatDoorDskCr
import Derived.IntWalk
namespace Go.Proofs.YtpafgoaeokgfcaaGreatDoor
open Go Go.RowKit
set_option maxRecDepth 100000

theorem ret_tup2 {a b : List Int} {t u : Bool} (h : a = b) (h2 : t = u) : Ending.returned (.tuple #[.agg (ints .u8 a).toArray, .bool t]) = .returned (.tuple #[.agg (ints .u8 b).toArray, .bool u]) := by rw [h, h2]
set_option maxHeartbeats 2000000 in
theorem crashed_walk (bf af : List Int) (p : Int) (hb : bf.length = 64) (ha : af.length = 64) (h0 : 0 ≤ p) (h1 : p ≤ 255) (w : World) :
    Calls Tryz.prog 40 #[.agg (ints .u8 bf).toArray, .agg (ints .u8 af).toArray, .int .u8 p] w fun e w' => e = .returned (.tuple #[.agg (ints .u8 (crash1 bf af p)).toArray, .bool (decide (64 ≤ p))]) ∧ Below w.heap.size w w' := by
  have HB := Lib.hid hb
  have HA := Lib.hid ha
  have m0 : 0 ≤ p % 64 := Int.emod_nonneg p (by decide)
  have m1 : p % 64 ≤ 63 := by have := Int.emod_lt_of_pos p (show (0 : Int) < 64 by decide); omega
  have IBF : Hid ((Tryz.prog.info? 79).map (·.size) = some (ints .u8 bf).length) := infoBlk bf hb
  have IAF : Hid ((Tryz.prog.info? 79).map (·.size) = some (ints .u8 af).length) := infoBlk af ha
  clear hb ha
  obtain ⟨W0, hW0⟩ : ∃ W0, Hid (W0 = ((w.alloc (.cells (ints .u8 bf).toArray 79)).alloc (.cells (ints .u8 af).toArray 79)).alloc (.cells (ints .u8 zB).toArray 79)) := ⟨_, rfl⟩
  have B1 : Hid (Blk W0 w.heap.size 79 (ints .u8 bf)) := by unfold Hid; rw [hW0.out]; exact ((Blk.new _ _ _).alloc _).alloc _
  have B2 : Hid (Blk W0 (w.heap.size + 1) 79 (ints .u8 af)) := by unfold Hid; rw [hW0.out]; exact (Blk.new2 _ _ _ _ _ (by simp) rfl).alloc _
  have B3 : Hid (Blk W0 (w.heap.size + 1 + 1) 79 (ints .u8 zB)) := by unfold Hid; rw [hW0.out]; exact Blk.new2 _ _ _ _ _ (by simp) rfl
  have BE0 : Hid (Below w.heap.size w W0) := by unfold Hid; rw [hW0.out]; exact (((Below.refl _ _).alloc (Nat.le_refl _) _).alloc (by simp) _).alloc (by simp; omega) _
  have hq : p / 64 = 0 ∨ p / 64 = 1 ∨ p / 64 = 2 ∨ p / 64 = 3 := by omega
  go_enter Tryz.func40, Tryz.ntmps40
  go_upto_region 1 with (fail)
  refine wp_at (w' := W0) (by rw [hW0.out]; kernel_rfl) ?_
  clear hW0
  rcases hq with hq | hq | hq | hq
  · have HQ := Lib.hid hq
    have s1 : (p / 64 == 1) = false := by rw [hq]; rfl
    have s2 : (p / 64 == 2) = false := by rw [hq]; rfl
    have s3 : (p / 64 == 3) = false := by rw [hq]; rfl
    clear hq
    have BW : Hid (Blk (W0.setCells (w.heap.size + 1 + 1) 0 (ints .u8 bf)) (w.heap.size + 1 + 1) 79 (ints .u8 bf)) := B3.out.setWhole _ (by rw [ints_length, ints_length, HB.out, zB_length])
    have BE2 := Lib.hid (below_setCells (ints .u8 bf) BE0.out (b := w.heap.size + 1 + 1) 0 (by omega))
    have TH : Hid (W0.there (w.heap.size + 1 + 1) 0 (ints .u8 bf).length) := B3.out.there 0 _ (by rw [ints_length, ints_length, HB.out, zB_length]; omega)
    go_upto_region 9 with (fail)
    refine lin_begin (opsOf Tryz.f40 9) (by kernel_rfl) ?_
    refine lin_now 0 (.agg (ints .u8 bf).toArray) (some 30) (by kernel_rfl) (by kernel_rfl) (exec_load_mid 79 (.tmp 3) (by kernel_rfl) w.heap.size 0 (by kernel_rfl) (ints .u8 bf) _ B1.out.whole Tryz.underlying79 rfl IBF.out) ?_
    refine lin_store 1 (W0.setCells (w.heap.size + 1 + 1) 0 (ints .u8 bf)) (by kernel_rfl) (by kernel_rfl) (exec_store_mid 79 (.tmp 6) (.tmp 30) (by kernel_rfl) (w.heap.size + 1 + 1) 0 (ints .u8 bf) (by kernel_rfl) (by kernel_rfl) TH.out IBF.out (ints_oneCell _ _)) ?_
    refine lin_now 2 (.bool false) (some 7) (by kernel_rfl) (by kernel_rfl) (by kernel_rfl) ?_
    refine lin_done 3 (by kernel_rfl) ?_
    clear TH B1 B2 B3 BE0
    generalize W0.setCells (w.heap.size + 1 + 1) 0 (ints .u8 bf) = W2 at *
    have HFIN : Hid (bf = crash1 bf af p) := by unfold Hid; unfold crash1; rw [if_neg (by rw [HQ.out]; decide), if_neg (by rw [HQ.out]; decide), if_neg (by rw [HQ.out]; decide)]
    have HGE : Hid (false = decide (64 ≤ p)) := by unfold Hid; have := HQ.out; first | exact (decide_eq_true (by omega)).symm | exact (decide_eq_false (by omega)).symm
    generalize hact : Act.put _ (some 7) (.bool false) = act
    have h6 : act.tmps.getD 6 undef = .pointer (some ⟨w.heap.size + 1 + 1, 0, none⟩) := by rw [← hact]; kernel_rfl
    have h7 : act.tmps.getD 7 undef = .bool false := by rw [← hact]; kernel_rfl
    have hd : act.defers = [] := by rw [← hact]; kernel_rfl
    clear hact
    go_wp2
    refine bodyPost_ret (v := .tuple #[.agg (ints .u8 bf).toArray, .bool false]) ?_ hd ⟨ret_tup2 HFIN.out HGE.out, BE2.out⟩
    exact results_cell_tmp Tryz.results40 _ _ (w.heap.size + 1 + 1) 79 (ints .u8 bf).toArray (0, 0) _ _ h6 h7 BW.out Tryz.underlying79 rfl (by rw [List.size_toArray]; exact IBF.out)
  · have HQ := Lib.hid hq
    have s1 : (p / 64 == 1) = true := by rw [hq]; rfl
    have s2 : (p / 64 == 2) = false := by rw [hq]; rfl
    have s3 : (p / 64 == 3) = false := by rw [hq]; rfl
    clear hq
    have BW : Hid (Blk (W0.setCells (w.heap.size + 1 + 1) 0 (ints .u8 af)) (w.heap.size + 1 + 1) 79 (ints .u8 af)) := B3.out.setWhole _ (by rw [ints_length, ints_length, HA.out, zB_length])
    have BE2 := Lib.hid (below_setCells (ints .u8 af) BE0.out (b := w.heap.size + 1 + 1) 0 (by omega))
    have TH : Hid (W0.there (w.heap.size + 1 + 1) 0 (ints .u8 af).length) := B3.out.there 0 _ (by rw [ints_length, ints_length, HA.out, zB_length]; omega)
    go_upto_region 4 with (fail)
    refine lin_begin (opsOf Tryz.f40 4) (by kernel_rfl) ?_
    refine lin_now 0 (.agg (ints .u8 af).toArray) (some 16) (by kernel_rfl) (by kernel_rfl) (exec_load_mid 79 (.tmp 4) (by kernel_rfl) (w.heap.size + 1) 0 (by kernel_rfl) (ints .u8 af) _ B2.out.whole Tryz.underlying79 rfl IAF.out) ?_
    refine lin_store 1 (W0.setCells (w.heap.size + 1 + 1) 0 (ints .u8 af)) (by kernel_rfl) (by kernel_rfl) (exec_store_mid 79 (.tmp 6) (.tmp 16) (by kernel_rfl) (w.heap.size + 1 + 1) 0 (ints .u8 af) (by kernel_rfl) (by kernel_rfl) TH.out IAF.out (ints_oneCell _ _)) ?_
    refine lin_now 2 (.bool true) (some 7) (by kernel_rfl) (by kernel_rfl) (by kernel_rfl) ?_
    refine lin_done 3 (by kernel_rfl) ?_
    clear TH B1 B2 B3 BE0
    generalize W0.setCells (w.heap.size + 1 + 1) 0 (ints .u8 af) = W2 at *
    have HFIN : Hid (af = crash1 bf af p) := by unfold Hid; unfold crash1; rw [if_pos HQ.out]
    have HGE : Hid (true = decide (64 ≤ p)) := by unfold Hid; have := HQ.out; first | exact (decide_eq_true (by omega)).symm | exact (decide_eq_false (by omega)).symm
    generalize hact : Act.put _ (some 7) (.bool true) = act
    have h6 : act.tmps.getD 6 undef = .pointer (some ⟨w.heap.size + 1 + 1, 0, none⟩) := by rw [← hact]; kernel_rfl
    have h7 : act.tmps.getD 7 undef = .bool true := by rw [← hact]; kernel_rfl
    have hd : act.defers = [] := by rw [← hact]; kernel_rfl
    clear hact
    go_wp2
    refine bodyPost_ret (v := .tuple #[.agg (ints .u8 af).toArray, .bool true]) ?_ hd ⟨ret_tup2 HFIN.out HGE.out, BE2.out⟩
    exact results_cell_tmp Tryz.results40 _ _ (w.heap.size + 1 + 1) 79 (ints .u8 af).toArray (0, 0) _ _ h6 h7 BW.out Tryz.underlying79 rfl (by rw [List.size_toArray]; exact IAF.out)
  · have HQ := Lib.hid hq
    have s1 : (p / 64 == 1) = false := by rw [hq]; rfl
    have s2 : (p / 64 == 2) = true := by rw [hq]; rfl
    have s3 : (p / 64 == 3) = false := by rw [hq]; rfl
    clear hq
    obtain ⟨r, hr⟩ : ∃ r, Hid (joinL af bf (p % 64).toNat = r) := ⟨_, rfl⟩
    have HRL : Hid (r.length = 64) := by unfold Hid; rw [← hr.out]; exact joinL_length HA.out HB.out _ (by omega)
    have IR : Hid ((Tryz.prog.info? 79).map (·.size) = some (ints .u8 r).length) := infoBlk r HRL.out
    have HJ := Lib.hid (joined_walk af bf (p % 64) HA.out HB.out (by omega) (by omega) W0)
    rw [hr.out] at HJ
    go_upto_region 6 with (fail)
    refine lin_begin (opsOf Tryz.f40 6) (by kernel_rfl) ?_
    refine lin_now 0 (.agg (ints .u8 af).toArray) (some 19) (by kernel_rfl) (by kernel_rfl) (exec_load_mid 79 (.tmp 4) (by kernel_rfl) (w.heap.size + 1) 0 (by kernel_rfl) (ints .u8 af) _ B2.out.whole Tryz.underlying79 rfl IAF.out) ?_
    refine lin_now 1 (.agg (ints .u8 bf).toArray) (some 20) (by kernel_rfl) (by kernel_rfl) (exec_load_mid 79 (.tmp 3) (by kernel_rfl) w.heap.size 0 (by kernel_rfl) (ints .u8 bf) _ B1.out.whole Tryz.underlying79 rfl IBF.out) ?_
    refine lin_now 2 (.int .i64 (p % 64)) (some 21) (by kernel_rfl) (by kernel_rfl) (by kernel_rfl) ?_
    refine lin_call 3 57 #[.agg (ints .u8 af).toArray, .agg (ints .u8 bf).toArray, .int .i64 (p % 64)] (some 22) _ (by kernel_rfl) (by kernel_rfl) (by kernel_rfl) HJ.out ?_
    rintro e W1 ⟨rfl, hbj⟩
    refine ⟨_, rfl, ?_⟩
    have C3 := Lib.hid (B3.out.below hbj B3.out.lt)
    have BE1 := Lib.hid (BE0.out.trans (hbj.mono BE0.out.size))
    clear hbj B1 B2 B3 BE0 HJ
    have BW : Hid (Blk (W1.setCells (w.heap.size + 1 + 1) 0 (ints .u8 r)) (w.heap.size + 1 + 1) 79 (ints .u8 r)) := C3.out.setWhole _ (by rw [ints_length, ints_length, HRL.out, zB_length])
    have BE2 := Lib.hid (below_setCells (ints .u8 r) BE1.out (b := w.heap.size + 1 + 1) 0 (by omega))
    have TH : Hid (W1.there (w.heap.size + 1 + 1) 0 (ints .u8 r).length) := C3.out.there 0 _ (by rw [ints_length, ints_length, HRL.out, zB_length]; omega)
    refine lin_store 4 (W1.setCells (w.heap.size + 1 + 1) 0 (ints .u8 r)) (by kernel_rfl) (by kernel_rfl) (exec_store_mid 79 (.tmp 6) (.tmp 22) (by kernel_rfl) (w.heap.size + 1 + 1) 0 (ints .u8 r) (by kernel_rfl) (by kernel_rfl) TH.out IR.out (ints_oneCell _ _)) ?_
    refine lin_now 5 (.bool true) (some 7) (by kernel_rfl) (by kernel_rfl) (by kernel_rfl) ?_
    refine lin_done 6 (by kernel_rfl) ?_
    clear TH C3 BE1
    generalize W1.setCells (w.heap.size + 1 + 1) 0 (ints .u8 r) = W2 at *
    have HFIN : Hid (r = crash1 bf af p) := by unfold Hid; rw [← hr.out]; unfold crash1 joinL; rw [if_neg (by rw [HQ.out]; decide), if_pos HQ.out]
    have HGE : Hid (true = decide (64 ≤ p)) := by unfold Hid; have := HQ.out; first | exact (decide_eq_true (by omega)).symm | exact (decide_eq_false (by omega)).symm
    generalize hact : Act.put _ (some 7) (.bool true) = act
    have h6 : act.tmps.getD 6 undef = .pointer (some ⟨w.heap.size + 1 + 1, 0, none⟩) := by rw [← hact]; kernel_rfl
    have h7 : act.tmps.getD 7 undef = .bool true := by rw [← hact]; kernel_rfl
    have hd : act.defers = [] := by rw [← hact]; kernel_rfl
    clear hact
    go_wp2
    refine bodyPost_ret (v := .tuple #[.agg (ints .u8 r).toArray, .bool true]) ?_ hd ⟨ret_tup2 HFIN.out HGE.out, BE2.out⟩
    exact results_cell_tmp Tryz.results40 _ _ (w.heap.size + 1 + 1) 79 (ints .u8 r).toArray (0, 0) _ _ h6 h7 BW.out Tryz.underlying79 rfl (by rw [List.size_toArray]; exact IR.out)
  · have HQ := Lib.hid hq
    have s1 : (p / 64 == 1) = false := by rw [hq]; rfl
    have s2 : (p / 64 == 2) = false := by rw [hq]; rfl
    have s3 : (p / 64 == 3) = true := by rw [hq]; rfl
    clear hq
    obtain ⟨r, hr⟩ : ∃ r, Hid (joinL bf af (64 - p % 64).toNat = r) := ⟨_, rfl⟩
    have HRL : Hid (r.length = 64) := by unfold Hid; rw [← hr.out]; exact joinL_length HB.out HA.out _ (by omega)
    have IR : Hid ((Tryz.prog.info? 79).map (·.size) = some (ints .u8 r).length) := infoBlk r HRL.out
    have HJ := Lib.hid (joined_walk bf af (64 - p % 64) HB.out HA.out (by omega) (by omega) W0)
    rw [hr.out] at HJ
    go_upto_region 8 with (fail)
    refine lin_begin (opsOf Tryz.f40 8) (by kernel_rfl) ?_
    refine lin_now 0 (.agg (ints .u8 bf).toArray) (some 25) (by kernel_rfl) (by kernel_rfl) (exec_load_mid 79 (.tmp 3) (by kernel_rfl) w.heap.size 0 (by kernel_rfl) (ints .u8 bf) _ B1.out.whole Tryz.underlying79 rfl IBF.out) ?_
    refine lin_now 1 (.agg (ints .u8 af).toArray) (some 26) (by kernel_rfl) (by kernel_rfl) (exec_load_mid 79 (.tmp 4) (by kernel_rfl) (w.heap.size + 1) 0 (by kernel_rfl) (ints .u8 af) _ B2.out.whole Tryz.underlying79 rfl IAF.out) ?_
    refine lin_now 2 (.int .i64 (p % 64)) (some 27) (by kernel_rfl) (by kernel_rfl) (by kernel_rfl) ?_
    refine lin_now 3 (.int .i64 (IntKind.i64.wrap (64 - p % 64))) (some 28) (by kernel_rfl) (by kernel_rfl) (by kernel_rfl) ?_
    rw [show IntKind.i64.wrap (64 - p % 64) = 64 - p % 64 from IntWalk.i64_in _ (by omega)]
    refine lin_call 4 57 #[.agg (ints .u8 bf).toArray, .agg (ints .u8 af).toArray, .int .i64 (64 - p % 64)] (some 29) _ (by kernel_rfl) (by kernel_rfl) (by kernel_rfl) HJ.out ?_
    rintro e W1 ⟨rfl, hbj⟩
    refine ⟨_, rfl, ?_⟩
    have C3 := Lib.hid (B3.out.below hbj B3.out.lt)
    have BE1 := Lib.hid (BE0.out.trans (hbj.mono BE0.out.size))
    clear hbj B1 B2 B3 BE0 HJ
    have BW : Hid (Blk (W1.setCells (w.heap.size + 1 + 1) 0 (ints .u8 r)) (w.heap.size + 1 + 1) 79 (ints .u8 r)) := C3.out.setWhole _ (by rw [ints_length, ints_length, HRL.out, zB_length])
    have BE2 := Lib.hid (below_setCells (ints .u8 r) BE1.out (b := w.heap.size + 1 + 1) 0 (by omega))
    have TH : Hid (W1.there (w.heap.size + 1 + 1) 0 (ints .u8 r).length) := C3.out.there 0 _ (by rw [ints_length, ints_length, HRL.out, zB_length]; omega)
    refine lin_store 5 (W1.setCells (w.heap.size + 1 + 1) 0 (ints .u8 r)) (by kernel_rfl) (by kernel_rfl) (exec_store_mid 79 (.tmp 6) (.tmp 29) (by kernel_rfl) (w.heap.size + 1 + 1) 0 (ints .u8 r) (by kernel_rfl) (by kernel_rfl) TH.out IR.out (ints_oneCell _ _)) ?_
    refine lin_now 6 (.bool true) (some 7) (by kernel_rfl) (by kernel_rfl) (by kernel_rfl) ?_
    refine lin_done 7 (by kernel_rfl) ?_
    clear TH C3 BE1
    generalize W1.setCells (w.heap.size + 1 + 1) 0 (ints .u8 r) = W2 at *
    have HFIN : Hid (r = crash1 bf af p) := by unfold Hid; rw [← hr.out]; unfold crash1 joinL; rw [if_neg (by rw [HQ.out]; decide), if_neg (by rw [HQ.out]; decide), if_pos HQ.out, show (64 - p % 64).toNat = 64 - (p % 64).toNat by omega]
    have HGE : Hid (true = decide (64 ≤ p)) := by unfold Hid; have := HQ.out; first | exact (decide_eq_true (by omega)).symm | exact (decide_eq_false (by omega)).symm
    generalize hact : Act.put _ (some 7) (.bool true) = act
    have h6 : act.tmps.getD 6 undef = .pointer (some ⟨w.heap.size + 1 + 1, 0, none⟩) := by rw [← hact]; kernel_rfl
    have h7 : act.tmps.getD 7 undef = .bool true := by rw [← hact]; kernel_rfl
    have hd : act.defers = [] := by rw [← hact]; kernel_rfl
    clear hact
    go_wp2
    refine bodyPost_ret (v := .tuple #[.agg (ints .u8 r).toArray, .bool true]) ?_ hd ⟨ret_tup2 HFIN.out HGE.out, BE2.out⟩
    exact results_cell_tmp Tryz.results40 _ _ (w.heap.size + 1 + 1) 79 (ints .u8 r).toArray (0, 0) _ _ h6 h7 BW.out Tryz.underlying79 rfl (by rw [List.size_toArray]; exact IR.out)
end Go.Proofs.YtpafgoaeokgfcaaGreatDoor
