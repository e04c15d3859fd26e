/- Package seal: Whole, Mark, Data, Need. -/
import Derived.Test.YtaeghgnhpgkcdaaDoorSealC
namespace Go.Proofs.YtaeghgnhpgkcdaaDoor
open Go Go.RowKit
set_option maxRecDepth 100000

theorem eqGuardBlk : Tryd.prog.eqGuardType Tryd.prog.depth 37 = false := by kernel_rfl
theorem run_arr_mid (q l h : Nat) (h64 : l < 64) (hl : l ≤ h) (hh : h ≤ 64) (w : World) : (Instr.sliceAt 37 (.pointer (some ⟨q, 0, none⟩)) (some (.int .i64 (l : Int))) (some (.int .i64 (h : Int))) none).run Tryd.prog w = .ok (.slice (some ⟨q, l, none⟩) (h - l) (64 - l)) w := by
  have hz : (sizeOf (Tryd.prog.elem 37)).run Tryd.prog w = .ok 1 w := by kernel_rfl
  have hA : Tryd.prog.arrayLen 37 = 64 := by kernel_rfl
  have ht : Tryd.prog.underlying 37 = some (.array (Tryd.prog.arrayLen 37) (Tryd.prog.elem 37)) := by kernel_rfl
  rw [run_sliceAt_array_lh w 37 _ ht .i64 .i64 (l : Int) (h : Int) (by omega) (by omega) (by rw [hA]; omega), hz, hA]
  simp only [Result.andThen_ok, slicedAt]
  rw [if_neg (by omega), Addr.add_mid]
  simp
theorem need_walk (n : Int) (w : World) : Calls Tryd.prog 14 #[.int .i64 n] w fun e w' => e = .returned (.int .i64 (needI n)) ∧ w = w' := by
  by_cases h : n < 0 ∨ 2000 < n
  · rw [needI_no n h]
    go_enter Tryd.func14, Tryd.ntmps14
    rcases h with h | h
    · go_wp2
      go_ret
      exact ⟨rfl, rfl⟩
    · have h' : ¬ n < 0 := by omega
      go_wp2
      go_ret
      exact ⟨rfl, rfl⟩
  · have e : needI n = (n + 79) / 46 := if_neg h
    rw [e]
    have h1 : ¬ n < 0 := by omega
    have h2 : ¬ 2000 < n := by omega
    have h3 : 0 ≤ n := by omega
    have h4 : n ≤ 2000 := by omega
    clear e h
    go_enter Tryd.func14, Tryd.ntmps14
    go_wp2
    go_ret
    exact ⟨ret_int (by omega), rfl⟩
set_option maxHeartbeats 2000000 in
theorem whole_small (b : List Int) (hl : b.length = 64) (hb : isBytes b) (hc : cntP b ≤ 46) (w : World) :
    Calls Tryd.prog 19 #[.agg (ints .u8 b).toArray] w fun e w' => e = .returned (.bool (decide (wholeP b))) ∧ Below w.heap.size w w' := by
  have HL := Lib.hid hl
  have HB := Lib.hid hb
  have IB : Hid ((Tryd.prog.info? 37).map (·.size) = some (ints .u8 b).length) := infoBlk b hl
  obtain ⟨n, hn⟩ : ∃ n : Nat, cntP b = (n : Int) := Int.eq_ofNat_of_zero_le (cntP_range hb hl).1
  have HN := Lib.hid hn
  obtain ⟨B, hB⟩ : ∃ B, Hid (w.heap.size = B) := ⟨_, rfl⟩
  have n46 : n ≤ 46 := by omega
  obtain ⟨s, hs⟩ : ∃ s, Hid (sectorP (b.take 8) ((b.drop 10).take n) = s) := ⟨_, rfl⟩
  have HDL : Hid (((b.drop 10).take n).length = n) := by unfold Hid; rw [List.length_take, List.length_drop, hl]; omega
  have HSL : Hid (s.length = 64) := by unfold Hid; rw [← hs.out]; exact sectorP_length (by rw [List.length_take, hl]; rfl) (by rw [HDL.out]; omega)
  have e0 : decide (wholeP b) = decide (b = s) := by
    have h1 : wholeP b ↔ b = s := by
      unfold wholeP
      rw [hn, Int.toNat_natCast, hs.out]
      exact ⟨fun h => h.2, fun h => ⟨by omega, h⟩⟩
    rw [Bool.eq_iff_iff]
    simp only [decide_eq_true_eq]
    exact h1
  rw [e0]
  rw [hB.out]
  clear hl hb hn e0 hc
  go_enter Tryd.func19, Tryd.ntmps19
  go_upto_region 0 with (fail)
  refine lin_begin (opsOf Tryd.f19 0) (by kernel_rfl) ?_
  refine lin_box 0 37 (.tmp 0) (ints .u8 b) (B) (some 1) (by kernel_rfl) (by kernel_rfl) (by kernel_rfl) (by kernel_rfl) hB ?_
  intro w1 b1 be1 hs1
  refine lin_now 1 (.bool false) (some 2) (by kernel_rfl) (by kernel_rfl) (by kernel_rfl) ?_
  refine lin_done 2 (by kernel_rfl) ?_
  have X1 := Lib.hid b1
  have BE1 := Lib.hid be1
  clear b1 be1
  generalize hact : Act.put _ (some 2) _ = act
  simp only [Act.put, List.setIfInBounds_toArray, List.set_cons_succ, List.set_cons_zero] at hact
  subst hact
  go_upto_region 1 with (fail)
  refine lin_begin (opsOf Tryd.f19 1) (by kernel_rfl) ?_
  refine lin_now 0 (.slice (some ⟨B, 8, none⟩) 2 56) (some 4) (by kernel_rfl) (by kernel_rfl) (by kernel_rfl) ?_
  refine lin_call 1 37 #[.slice (some ⟨B, 8, none⟩) 2 56] (some 5) _ (by kernel_rfl) (by kernel_rfl) (by kernel_rfl) (number_walk B 8 2 56 ((b.drop 8).take 2) _ (range_part X1.out 8 2) (by rw [List.length_take, List.length_drop, HL.out]; rfl) (bytes_take (bytes_drop HB.out 8) 2) (by omega)) ?_
  rintro e w2 ⟨rfl, rfl⟩
  refine ⟨_, rfl, ?_⟩
  rw [show numB ((b.drop 8).take 2) = (n : Int) from HN.out]
  refine lin_now 2 (.int .i64 (n : Int)) (some 3) (by kernel_rfl) (by kernel_rfl) (by kernel_rfl) ?_
  refine lin_done 3 (by kernel_rfl) ?_
  generalize hact : Act.put _ (some 3) _ = act
  simp only [Act.put, List.setIfInBounds_toArray, List.set_cons_succ, List.set_cons_zero] at hact
  subst hact
  go_upto_region 2 with (fail)
  refine region_begin (opsOf Tryd.f19 2) (fun w' => Blk w' B 37 (ints .u8 b)) (by kernel_rfl) (by kernel_rfl) 13 (by kernel_rfl) ?_
  intro Q' hQN hN
  have hS : Blk w1.drew B 37 (ints .u8 b) := X1.out
  refine reg_now 0 (.int .i64 (n : Int)) (some 6) hQN hS (by kernel_rfl) (by kernel_rfl) (fun w => by kernel_rfl) ?_
  refine reg_now 1 (.bool (decide ((n : Int) ≤ 46))) (some 7) hQN hS (by kernel_rfl) (by kernel_rfl) (fun w => by kernel_rfl) ?_
  rw [show decide ((n : Int) ≤ 46) = true from decide_eq_true (by omega)]
  refine reg_now 2 (.bool true) (some 8) hQN hS (by kernel_rfl) (by kernel_rfl) (fun w => by kernel_rfl) ?_
  refine reg_nowIf 3 (.agg (ints .u8 b).toArray) (some 9) hQN hS (by kernel_rfl) (by kernel_rfl) (fun w' hw => exec_load_mid 37 (.tmp 1) (by kernel_rfl) B 0 (by kernel_rfl) (ints .u8 b) _ hw.whole Tryd.underlying37 rfl IB.out) ?_
  refine reg_nowIf 4 (.agg (ints .u8 b).toArray) (some 10) hQN hS (by kernel_rfl) (by kernel_rfl) (fun w' hw => exec_load_mid 37 (.tmp 1) (by kernel_rfl) B 0 (by kernel_rfl) (ints .u8 b) _ hw.whole Tryd.underlying37 rfl IB.out) ?_
  refine reg_now 6 (.int .i64 (n : Int)) (some 12) hQN hS (by kernel_rfl) (by kernel_rfl) (fun w => by kernel_rfl) ?_
  refine reg_now 7 (.int .i64 (IntKind.i64.wrap (10 + (n : Int)))) (some 13) hQN hS (by kernel_rfl) (by kernel_rfl) (fun w => by kernel_rfl) ?_
  rw [show IntKind.i64.wrap (10 + (n : Int)) = ((10 + n : Nat) : Int) from (IntWalk.i64_in _ (by omega)).trans (by omega)]
  refine reg_now 8 (.slice (some ⟨B, 10, none⟩) (10 + n - 10) 54) (some 14) hQN hS (by kernel_rfl) (by kernel_rfl) (fun w' => exec_of (Instr.sliceAt 37 (.pointer (some ⟨B, 0, none⟩)) (some (.int .i64 ((10 : Nat) : Int))) (some (.int .i64 ((10 + n : Nat) : Int))) none) _ (by kernel_rfl) (run_arr_mid B 10 (10 + n) (by omega) (by omega) (by omega) w')) ?_
  rw [show 10 + n - 10 = n by omega]
  refine reg_call 5 33 #[.agg (ints .u8 b).toArray] (some 11) _ (by kernel_rfl) (by kernel_rfl) (by kernel_rfl) (firstmark_walk b HL.out _) ?_
  rintro e w3 ⟨rfl, hb3⟩
  have hS3 : Blk w3 B 37 (ints .u8 b) := hS.below hb3 hS.lt
  refine ⟨_, rfl, hS3, ?_⟩
  refine reg_call 9 27 #[.agg (ints .u8 (b.take 8)).toArray, .slice (some ⟨B, 10, none⟩) n 54] (some 15) _ (by kernel_rfl) (by kernel_rfl) (by kernel_rfl) (sector_walk (b.take 8) ((b.drop 10).take n) B 10 n 54 (by rw [List.length_take, HL.out]; rfl) HDL.out n46 _ (range_part hS3 10 n) hS3.lt) ?_
  rintro e w4 ⟨rfl, hb4⟩
  have hS4 : Blk w4 B 37 (ints .u8 b) := hS3.below hb4 hS3.lt
  refine ⟨_, rfl, hS4, ?_⟩
  rw [hs.out]
  refine reg_now 10 (.bool (decide (b = s))) (some 16) hQN hS4 (by kernel_rfl) (by kernel_rfl) (fun w' => exec_eql w' (.tmp 9) (.tmp 15) 37 (by kernel_rfl) Tryd.underlying37 Tryd.underlying5 size1Byte eqGuardBlk b s HL.out HSL.out (by kernel_rfl) (by kernel_rfl)) ?_
  obtain ⟨r, hr⟩ : ∃ r, Hid (decide (b = s) = r) := ⟨_, rfl⟩
  rw [hr.out]
  refine reg_now 11 (.bool r) (some 17) hQN hS4 (by kernel_rfl) (by kernel_rfl) (fun w => by kernel_rfl) ?_
  refine reg_now 12 (.bool r) (some 2) hQN hS4 (by kernel_rfl) (by kernel_rfl) (fun w => by kernel_rfl) ?_
  refine reg_done (by kernel_rfl) (hN _ _ ?_)
  have BE4 : Hid (Below B w w4) := ((BE1.out.drew).trans (hb3.mono (by have : w1.drew.heap.size = B + 1 := hs1.out; omega))).trans (hb4.mono (by have : w1.drew.heap.size = B + 1 := hs1.out; have := hb3.size; omega))
  clear hQN hN hS hS3 hS4 hb3 hb4 X1 BE1 hs1
  generalize hact : Act.put _ (some 2) _ = act
  simp only [Act.put, List.setIfInBounds_toArray, List.set_cons_succ, List.set_cons_zero] at hact
  subst hact
  go_wp2
  go_ret
  exact ⟨ret_bool hr.out.symm, BE4.out⟩
set_option maxHeartbeats 2000000 in
theorem whole_big (b : List Int) (hl : b.length = 64) (hb : isBytes b) (hc : 46 < cntP b) (w : World) :
    Calls Tryd.prog 19 #[.agg (ints .u8 b).toArray] w fun e w' => e = .returned (.bool (decide (wholeP b))) ∧ Below w.heap.size w w' := by
  have HL := Lib.hid hl
  have HB := Lib.hid hb
  have IB : Hid ((Tryd.prog.info? 37).map (·.size) = some (ints .u8 b).length) := infoBlk b hl
  obtain ⟨n, hn⟩ : ∃ n : Nat, cntP b = (n : Int) := Int.eq_ofNat_of_zero_le (cntP_range hb hl).1
  have HN := Lib.hid hn
  obtain ⟨B, hB⟩ : ∃ B, Hid (w.heap.size = B) := ⟨_, rfl⟩
  have n46 : 46 < n := by omega
  have e0 : decide (wholeP b) = false := decide_eq_false (fun h => by have := h.1; omega)
  rw [e0]
  rw [hB.out]
  clear hl hb hn e0 hc
  go_enter Tryd.func19, Tryd.ntmps19
  go_upto_region 0 with (fail)
  refine lin_begin (opsOf Tryd.f19 0) (by kernel_rfl) ?_
  refine lin_box 0 37 (.tmp 0) (ints .u8 b) (B) (some 1) (by kernel_rfl) (by kernel_rfl) (by kernel_rfl) (by kernel_rfl) hB ?_
  intro w1 b1 be1 hs1
  refine lin_now 1 (.bool false) (some 2) (by kernel_rfl) (by kernel_rfl) (by kernel_rfl) ?_
  refine lin_done 2 (by kernel_rfl) ?_
  have X1 := Lib.hid b1
  have BE1 := Lib.hid be1
  clear b1 be1
  generalize hact : Act.put _ (some 2) _ = act
  simp only [Act.put, List.setIfInBounds_toArray, List.set_cons_succ, List.set_cons_zero] at hact
  subst hact
  go_upto_region 1 with (fail)
  refine lin_begin (opsOf Tryd.f19 1) (by kernel_rfl) ?_
  refine lin_now 0 (.slice (some ⟨B, 8, none⟩) 2 56) (some 4) (by kernel_rfl) (by kernel_rfl) (by kernel_rfl) ?_
  refine lin_call 1 37 #[.slice (some ⟨B, 8, none⟩) 2 56] (some 5) _ (by kernel_rfl) (by kernel_rfl) (by kernel_rfl) (number_walk B 8 2 56 ((b.drop 8).take 2) _ (range_part X1.out 8 2) (by rw [List.length_take, List.length_drop, HL.out]; rfl) (bytes_take (bytes_drop HB.out 8) 2) (by omega)) ?_
  rintro e w2 ⟨rfl, rfl⟩
  refine ⟨_, rfl, ?_⟩
  rw [show numB ((b.drop 8).take 2) = (n : Int) from HN.out]
  refine lin_now 2 (.int .i64 (n : Int)) (some 3) (by kernel_rfl) (by kernel_rfl) (by kernel_rfl) ?_
  refine lin_done 3 (by kernel_rfl) ?_
  generalize hact : Act.put _ (some 3) _ = act
  simp only [Act.put, List.setIfInBounds_toArray, List.set_cons_succ, List.set_cons_zero] at hact
  subst hact
  go_upto_region 2 with (fail)
  refine region_begin (opsOf Tryd.f19 2) (fun w' => Blk w' B 37 (ints .u8 b)) (by kernel_rfl) (by kernel_rfl) 13 (by kernel_rfl) ?_
  intro Q' hQN hN
  have hS : Blk w1.drew B 37 (ints .u8 b) := X1.out
  refine reg_now 0 (.int .i64 (n : Int)) (some 6) hQN hS (by kernel_rfl) (by kernel_rfl) (fun w => by kernel_rfl) ?_
  refine reg_now 1 (.bool (decide ((n : Int) ≤ 46))) (some 7) hQN hS (by kernel_rfl) (by kernel_rfl) (fun w => by kernel_rfl) ?_
  rw [show decide ((n : Int) ≤ 46) = false from decide_eq_false (by omega)]
  refine reg_now 2 (.bool false) (some 8) hQN hS (by kernel_rfl) (by kernel_rfl) (fun w => by kernel_rfl) ?_
  refine reg_pass 3 (some 9) hQN hS (by kernel_rfl) (by kernel_rfl) ?_
  refine reg_pass 4 (some 10) hQN hS (by kernel_rfl) (by kernel_rfl) ?_
  refine reg_pass 5 (some 11) hQN hS (by kernel_rfl) (by kernel_rfl) ?_
  refine reg_pass 6 (some 12) hQN hS (by kernel_rfl) (by kernel_rfl) ?_
  refine reg_pass 7 (some 13) hQN hS (by kernel_rfl) (by kernel_rfl) ?_
  refine reg_pass 8 (some 14) hQN hS (by kernel_rfl) (by kernel_rfl) ?_
  refine reg_pass 9 (some 15) hQN hS (by kernel_rfl) (by kernel_rfl) ?_
  refine reg_pass 10 (some 16) hQN hS (by kernel_rfl) (by kernel_rfl) ?_
  refine reg_now 11 (.bool false) (some 17) hQN hS (by kernel_rfl) (by kernel_rfl) (fun w => by kernel_rfl) ?_
  refine reg_now 12 (.bool false) (some 2) hQN hS (by kernel_rfl) (by kernel_rfl) (fun w => by kernel_rfl) ?_
  refine reg_done (by kernel_rfl) (hN _ _ ?_)
  have BE2 := Lib.hid BE1.out.drew
  clear hQN hN hS X1 BE1
  generalize w1.drew = W2 at *
  generalize hact : Act.put _ (some 2) _ = act
  simp only [Act.put, List.setIfInBounds_toArray, List.set_cons_succ, List.set_cons_zero] at hact
  subst hact
  go_wp2
  go_ret
  exact ⟨rfl, BE2.out⟩
theorem whole_walk (b : List Int) (hl : b.length = 64) (hb : isBytes b) (w : World) :
    Calls Tryd.prog 19 #[.agg (ints .u8 b).toArray] w fun e w' => e = .returned (.bool (decide (wholeP b))) ∧ Below w.heap.size w w' := by
  by_cases hc : cntP b ≤ 46
  · exact whole_small b hl hb hc w
  · exact whole_big b hl hb (by omega) w
def genP (b : List Int) : Int := numB ((b.take 8).take 4)
def numP (b : List Int) : Int := numB ((b.take 8).drop 4)
set_option maxHeartbeats 2000000 in
theorem mark_yes (b : List Int) (hl : b.length = 64) (hb : isBytes b) (hw : wholeP b) (w : World) :
    Calls Tryd.prog 17 #[.agg (ints .u8 b).toArray] w fun e w' => e = .returned (.tuple #[.int .i64 (genP b), .int .i64 (numP b), .bool true]) ∧ Below w.heap.size w w' := by
  have HL := Lib.hid hl
  have HB := Lib.hid hb
  have IB : Hid ((Tryd.prog.info? 37).map (·.size) = some (ints .u8 b).length) := infoBlk b hl
  have HW : Hid (decide (wholeP b) = true) := decide_eq_true hw
  obtain ⟨B, hB⟩ : ∃ B, Hid (w.heap.size = B) := ⟨_, rfl⟩
  rw [hB.out]
  clear hl hb hw
  go_enter Tryd.func17, Tryd.ntmps17
  go_upto_region 0 with (fail)
  refine lin_begin (opsOf Tryd.f17 0) (by kernel_rfl) ?_
  refine lin_box 0 37 (.tmp 0) (ints .u8 b) (B) (some 1) (by kernel_rfl) (by kernel_rfl) (by kernel_rfl) (by kernel_rfl) hB ?_
  intro w1 b1 be1 hs1
  refine lin_now 1 (.int .i64 0) (some 2) (by kernel_rfl) (by kernel_rfl) (by kernel_rfl) ?_
  refine lin_now 2 (.int .i64 0) (some 3) (by kernel_rfl) (by kernel_rfl) (by kernel_rfl) ?_
  refine lin_now 3 (.bool false) (some 4) (by kernel_rfl) (by kernel_rfl) (by kernel_rfl) ?_
  refine lin_done 4 (by kernel_rfl) ?_
  have X1 := Lib.hid b1
  have BE1 := Lib.hid be1
  clear b1 be1
  generalize hact : Act.put _ (some 4) _ = act
  simp only [Act.put, List.setIfInBounds_toArray, List.set_cons_succ, List.set_cons_zero] at hact
  subst hact
  go_upto_region 1 with (fail)
  refine lin_begin (opsOf Tryd.f17 1) (by kernel_rfl) ?_
  refine lin_load 0 37 (.tmp 1) (B) _ (ints .u8 b) (some 6) (by kernel_rfl) (by kernel_rfl) (by kernel_rfl) (by kernel_rfl) X1.out _ Tryd.underlying37 rfl IB.out ?_
  refine lin_call 1 19 #[.agg (ints .u8 b).toArray] (some 7) _ (by kernel_rfl) (by kernel_rfl) (by kernel_rfl) (whole_walk b HL.out HB.out _) ?_
  rintro e w2 ⟨rfl, hb2⟩
  refine ⟨_, rfl, ?_⟩
  rw [HW.out]
  refine lin_now 2 (.bool false) (some 8) (by kernel_rfl) (by kernel_rfl) (by kernel_rfl) ?_
  refine lin_done 3 (by kernel_rfl) ?_
  have X2 := Lib.hid (X1.out.below hb2 X1.out.lt)
  have BE2 := Lib.hid (BE1.out.trans (hb2.mono (by rw [hs1.out]; omega)))
  have hs2 : Hid (B + 1 ≤ w2.heap.size) := by unfold Hid; have := hb2.size; have := hs1.out; omega
  clear X1 BE1 hb2 hs1
  generalize hact : Act.put _ (some 8) _ = act
  simp only [Act.put, List.setIfInBounds_toArray, List.set_cons_succ, List.set_cons_zero] at hact
  subst hact
  obtain ⟨m, hm⟩ : ∃ m, Hid (b.take 8 = m) := ⟨_, rfl⟩
  have HM : Hid (m.length = 8) := by unfold Hid; rw [← hm.out, List.length_take, HL.out]; rfl
  have MB : Hid (isBytes m) := by unfold Hid; rw [← hm.out]; exact bytes_take HB.out 8
  have IM : Hid ((Tryd.prog.info? 50).map (·.size) = some (ints .u8 m).length) := infoMark m HM.out
  go_upto_region 3 with (fail)
  refine lin_begin (opsOf Tryd.f17 3) (by kernel_rfl) ?_
  refine lin_load 0 37 (.tmp 1) (B) _ (ints .u8 b) (some 9) (by kernel_rfl) (by kernel_rfl) (by kernel_rfl) (by kernel_rfl) X2.out _ Tryd.underlying37 rfl IB.out ?_
  refine lin_call 1 33 #[.agg (ints .u8 b).toArray] (some 10) _ (by kernel_rfl) (by kernel_rfl) (by kernel_rfl) (firstmark_walk b HL.out _) ?_
  rintro e w3 ⟨rfl, hb3⟩
  refine ⟨_, rfl, ?_⟩
  rw [hm.out]
  obtain ⟨q, hq⟩ : ∃ q, Hid (w3.heap.size = q) := ⟨_, rfl⟩
  refine lin_alloc 2 50 (ints .u8 z8) (q) (some 5) (by kernel_rfl) (by kernel_rfl) (by kernel_rfl) zeroMark hq ?_
  intro w4 b4 be4 hs4
  refine lin_put 3 50 (.tmp 5) (.tmp 10) (q) _ (ints .u8 z8) (ints .u8 m) (by kernel_rfl) (by kernel_rfl) (by kernel_rfl) (by kernel_rfl) (by kernel_rfl) b4 (by rw [ints_length, ints_length, HM.out, z8_length]) IM.out (ints_oneCell _ _) ?_
  intro w5 b5 u5
  refine lin_done 4 (by kernel_rfl) ?_
  have M5 := Lib.hid b5
  have BE5 : Hid (Below B w w5) := by
    have h3 := BE2.out.trans (hb3.mono (by have := hs2.out; omega))
    have h4 := h3.trans (be4.mono (by have := hb3.size; have := hq.out; have := hs2.out; omega))
    exact u5.below h4 (by have := hb3.size; have := hq.out; have := hs2.out; omega) (by have := hb3.size; have := hq.out; have := hs2.out; have := hs4.out; omega)
  have hs5 : Hid (B ≤ w5.heap.size) := by unfold Hid; have := u5.size; have := hs4.out; have := hb3.size; have := hq.out; have := hs2.out; omega
  clear b5 u5 b4 be4 hs4 hb3 hs2 BE2 X2 hq
  generalize hact : Act.put _ none _ = act
  simp only [Act.put, List.setIfInBounds_toArray, List.set_cons_succ, List.set_cons_zero] at hact
  subst hact
  go_upto_region 4 with (fail)
  refine region_begin (opsOf Tryd.f17 4) (fun w' => Blk w' q 50 (ints .u8 m)) (by kernel_rfl) (by kernel_rfl) 7 (by kernel_rfl) ?_
  intro Q' hQN hN
  have hS : Blk w5.drew q 50 (ints .u8 m) := M5.out
  refine reg_nowIf 0 (.agg (ints .u8 m).toArray) (some 11) hQN hS (by kernel_rfl) (by kernel_rfl) (fun w' hw => exec_load_mid 50 (.tmp 5) (by kernel_rfl) q 0 (by kernel_rfl) (ints .u8 m) _ hw.whole Tryd.underlying50 rfl IM.out) ?_
  refine reg_nowIf 2 (.agg (ints .u8 m).toArray) (some 13) hQN hS (by kernel_rfl) (by kernel_rfl) (fun w' hw => exec_load_mid 50 (.tmp 5) (by kernel_rfl) q 0 (by kernel_rfl) (ints .u8 m) _ hw.whole Tryd.underlying50 rfl IM.out) ?_
  refine reg_call 1 34 #[.agg (ints .u8 m).toArray] (some 12) _ (by kernel_rfl) (by kernel_rfl) (by kernel_rfl) (mgen_walk m HM.out MB.out _) ?_
  rintro e w6 ⟨rfl, hb6⟩
  have hS6 : Blk w6 q 50 (ints .u8 m) := hS.below hb6 hS.lt
  refine ⟨_, rfl, hS6, ?_⟩
  refine reg_call 3 35 #[.agg (ints .u8 m).toArray] (some 14) _ (by kernel_rfl) (by kernel_rfl) (by kernel_rfl) (mnum_walk m HM.out MB.out _) ?_
  rintro e w7 ⟨rfl, hb7⟩
  have hS7 : Blk w7 q 50 (ints .u8 m) := hS6.below hb7 hS6.lt
  refine ⟨_, rfl, hS7, ?_⟩
  rw [show numB (m.take 4) = genP b by unfold genP; rw [hm.out], show numB (m.drop 4) = numP b by unfold numP; rw [hm.out]]
  refine reg_now 4 (.int .i64 (genP b)) (some 2) hQN hS7 (by kernel_rfl) (by kernel_rfl) (fun w => by kernel_rfl) ?_
  refine reg_now 5 (.int .i64 (numP b)) (some 3) hQN hS7 (by kernel_rfl) (by kernel_rfl) (fun w => by kernel_rfl) ?_
  refine reg_now 6 (.bool true) (some 4) hQN hS7 (by kernel_rfl) (by kernel_rfl) (fun w => by kernel_rfl) ?_
  refine reg_done (by kernel_rfl) (hN _ _ ?_)
  have BE7 : Hid (Below B w w7) := ((BE5.out.drew).trans (hb6.mono hs5.out)).trans (hb7.mono (Nat.le_trans hs5.out hb6.size))
  clear hQN hN hS hS6 hS7 hb6 hb7 BE5 hs5 M5
  generalize hact : Act.put _ (some 4) _ = act
  simp only [Act.put, List.setIfInBounds_toArray, List.set_cons_succ, List.set_cons_zero] at hact
  subst hact
  go_wp2
  go_ret3
  exact ⟨rfl, BE7.out⟩
set_option maxHeartbeats 2000000 in
theorem mark_no (b : List Int) (hl : b.length = 64) (hb : isBytes b) (hw : ¬ wholeP b) (w : World) :
    Calls Tryd.prog 17 #[.agg (ints .u8 b).toArray] w fun e w' => e = .returned (.tuple #[.int .i64 0, .int .i64 0, .bool false]) ∧ Below w.heap.size w w' := by
  have HL := Lib.hid hl
  have HB := Lib.hid hb
  have IB : Hid ((Tryd.prog.info? 37).map (·.size) = some (ints .u8 b).length) := infoBlk b hl
  have HW : Hid (decide (wholeP b) = false) := decide_eq_false hw
  obtain ⟨B, hB⟩ : ∃ B, Hid (w.heap.size = B) := ⟨_, rfl⟩
  rw [hB.out]
  clear hl hb hw
  go_enter Tryd.func17, Tryd.ntmps17
  go_upto_region 0 with (fail)
  refine lin_begin (opsOf Tryd.f17 0) (by kernel_rfl) ?_
  refine lin_box 0 37 (.tmp 0) (ints .u8 b) (B) (some 1) (by kernel_rfl) (by kernel_rfl) (by kernel_rfl) (by kernel_rfl) hB ?_
  intro w1 b1 be1 hs1
  refine lin_now 1 (.int .i64 0) (some 2) (by kernel_rfl) (by kernel_rfl) (by kernel_rfl) ?_
  refine lin_now 2 (.int .i64 0) (some 3) (by kernel_rfl) (by kernel_rfl) (by kernel_rfl) ?_
  refine lin_now 3 (.bool false) (some 4) (by kernel_rfl) (by kernel_rfl) (by kernel_rfl) ?_
  refine lin_done 4 (by kernel_rfl) ?_
  have X1 := Lib.hid b1
  have BE1 := Lib.hid be1
  clear b1 be1
  generalize hact : Act.put _ (some 4) _ = act
  simp only [Act.put, List.setIfInBounds_toArray, List.set_cons_succ, List.set_cons_zero] at hact
  subst hact
  go_upto_region 1 with (fail)
  refine lin_begin (opsOf Tryd.f17 1) (by kernel_rfl) ?_
  refine lin_load 0 37 (.tmp 1) (B) _ (ints .u8 b) (some 6) (by kernel_rfl) (by kernel_rfl) (by kernel_rfl) (by kernel_rfl) X1.out _ Tryd.underlying37 rfl IB.out ?_
  refine lin_call 1 19 #[.agg (ints .u8 b).toArray] (some 7) _ (by kernel_rfl) (by kernel_rfl) (by kernel_rfl) (whole_walk b HL.out HB.out _) ?_
  rintro e w2 ⟨rfl, hb2⟩
  refine ⟨_, rfl, ?_⟩
  rw [HW.out]
  refine lin_now 2 (.bool true) (some 8) (by kernel_rfl) (by kernel_rfl) (by kernel_rfl) ?_
  refine lin_done 3 (by kernel_rfl) ?_
  have X2 := Lib.hid (X1.out.below hb2 X1.out.lt)
  have BE2 := Lib.hid (BE1.out.trans (hb2.mono (by rw [hs1.out]; omega)))
  have hs2 : Hid (B + 1 ≤ w2.heap.size) := by unfold Hid; have := hb2.size; have := hs1.out; omega
  clear X1 BE1 hb2 hs1
  generalize hact : Act.put _ (some 8) _ = act
  simp only [Act.put, List.setIfInBounds_toArray, List.set_cons_succ, List.set_cons_zero] at hact
  subst hact
  go_wp2
  go_ret3
  exact ⟨rfl, BE2.out⟩
end Go.Proofs.YtaeghgnhpgkcdaaDoor
