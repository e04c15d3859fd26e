/- SealReads answers true. -/
import Derived.Test.YtaeghgnhpgkcdaaDoorSealZ
namespace Go.Proofs.YtaeghgnhpgkcdaaDoor
open Go Go.RowKit
set_option maxRecDepth 100000

set_option maxHeartbeats 8000000 in
theorem reads_main (gen num : Int) (v : Value) (n : Nat) (l : List Int) (w : World) (hv : BlksIn w v n l) (hvn : NilOk v) (hby : isBytes l) (hK : KW w) :
    Calls Tryd.prog 4 #[v, .int .i64 gen, .int .i64 num] w fun e w' => e = .returned (.bool true) ∧ Below w.heap.size w w' := by
  obtain ⟨la, lc, rfl, hlc, -⟩ := id hv
  have HV := Lib.hid hv
  have HVN := Lib.hid hvn
  have HBY := Lib.hid hby
  have HK := Lib.hid hK
  have HL : Hid (l.length = 64 * n) := by obtain ⟨_, _, _, _, h, _⟩ := hv; exact h
  obtain ⟨B, hB⟩ : ∃ B, Hid (w.heap.size = B) := ⟨_, rfl⟩
  have HKB : Hid (0 < B) := by unfold Hid; rw [← hB.out]; exact hK.lt
  rw [hB.out]
  clear hv hvn hby hK
  go_enter Tryd.func4, Tryd.ntmps4
  go_wp2_with fail
  refine (slalive_walk _ HK.out).mono ?_
  rintro e w1 ⟨rfl, hb1⟩
  have BE1 : Hid (Below B w w1) := by rw [hB.out] at hb1; exact hb1
  have S1 : Hid (B ≤ w1.heap.size) := by unfold Hid; have := hb1.size; have := hB.out; omega
  clear hb1
  by_cases h60 : 60 < n
  · have q0 : (60 : Int) < (n : Int) := by omega
    go_wp2
    go_ret
    exact ⟨rfl, BE1.out⟩
  have q0 : ¬ ((60 : Int) < (n : Int)) := by omega
  obtain ⟨q, hq⟩ : ∃ q, Hid (w1.heap.size = q) := ⟨_, rfl⟩
  go_upto_region 5 with (fail)
  refine lin_begin (opsOf Tryd.f4 5) (by kernel_rfl) ?_
  refine lin_newrow 0 37 [] q 0 (some 26) (by kernel_rfl) (by kernel_rfl) hq (by kernel_rfl) ?_
  intro w2 b2 be2 hs2
  have BE2 : Below B w w2 := BE1.out.trans (be2.mono (by have := S1.out; have := hq.out; omega))
  have L2 : BlksIn w2 (.slice la n lc) n l := HV.out.below (by rw [hB.out]; exact BE2)
  refine lin_now 1 (.slice la n lc) (some 27) (by kernel_rfl) (by kernel_rfl) (by kernel_rfl) ?_
  refine lin_appendblk 2 (some 28) (by kernel_rfl) (by kernel_rfl) (by kernel_rfl) (.tmp 26) (.tmp 27) (by kernel_rfl) q _ 0 [] (by kernel_rfl) (blk_own (n := 0) (l := []) b2 rfl (Nat.le_refl _) (by omega)) _ n l (by kernel_rfl) L2 HVN.out (by omega) (by rw [hs2.out]; omega) ?_
  intro v3 w3 ho3 hg3
  rw [List.nil_append, Nat.zero_add] at ho3
  refine lin_now 3 (v3) (some 7) (by kernel_rfl) (by kernel_rfl) (by kernel_rfl) ?_
  refine lin_done 4 (by kernel_rfl) ?_
  have BE3 : Hid (Below B w w3) := BE2.grown hg3 (by have := hs2.out; have := S1.out; have := hq.out; omega) (fun k hk => by cases hk; have := S1.out; have := hq.out; simp only; omega)
  have S3 : Hid (B ≤ w3.heap.size) := by unfold Hid; have := BE3.out.size; have := hB.out; omega
  have O3 := Lib.hid ho3.in
  clear b2 be2 hs2 BE2 L2 ho3 hg3 BE1 S1 hq
  generalize hact : Act.put _ (some 7) _ = act
  simp only [Act.put, List.setIfInBounds_toArray, List.set_cons_succ, List.set_cons_zero] at hact
  subst hact
  go_wp2
  go_loopw [8, 9, 10, 11, 12, 13, 14] (fun iv _ _ _ _ _ _ wr => ∃ (i : Nat), i ≤ n ∧ iv = .int .i64 (i : Int) ∧ Below w3.heap.size w3 wr) (fun iv _ _ _ _ _ _ _ => n - (intOf iv).toNat)
  case atStart => exact ⟨0, Nat.zero_le _, rfl, Below.refl _ _⟩
  case round =>
    obtain ⟨i, hi, rfl, hbx⟩ := hrel
    have BX := Lib.hid hbx
    have BEX : Hid (Below B w wr) := BE3.out.trans (hbx.mono S3.out)
    have SX : Hid (B ≤ wr.heap.size) := Nat.le_trans S3.out hbx.size
    clear hbx
    by_cases hlt : i < n
    · have r1 : (i : Int) < (n : Int) := by omega
      obtain ⟨pb, po, c', e', -, hb', hr', -⟩ := HV.out.at (by omega)
      obtain ⟨rfl, -, rfl⟩ := Value.slice.inj e'
      have HPB : Hid (pb < B) := by unfold Hid; rw [← hB.out]; exact hb'
      obtain ⟨x, hx⟩ : ∃ x, Hid (getB l i = x) := ⟨_, rfl⟩
      have GX : Hid (x.length = 64) := by unfold Hid; rw [← hx.out]; exact getB_length HL.out hlt
      have XB : Hid (isBytes x) := by unfold Hid; rw [← hx.out]; exact bytes_take (bytes_drop HBY.out _) _
      have IX : Hid ((Tryd.prog.info? 37).map (·.size) = some (ints .u8 x).length) := infoBlk x GX.out
      have RX : Hid (∀ W, Below B w W → W.rangeAt pb (po + 64 * i) (ints .u8 x)) := fun W hW j v hv => by rw [hW.cell (p := ⟨pb, po + 64 * i + j, none⟩) HPB.out]; rw [← hx.out] at hv; exact getB_sub hr' j v hv
      clear e' hb' hr'
      by_cases hw : wholeP x
      · have C1 := Lib.hid (fun w => mark_yes x GX.out XB.out hw w)
        have C2 := Lib.hid (fun w => rlmark_yes x GX.out XB.out hw w)
        have C3 : Hid (∀ w, Calls Tryd.prog 19 #[.agg (ints .u8 x).toArray] w fun e w' => e = .returned (.bool true) ∧ Below w.heap.size w w') := fun w => by
          have h := whole_walk x GX.out XB.out w
          rw [decide_eq_true hw] at h
          exact h
        clear hw
        go_upto_region 9 with (fail)
        refine lin_begin (opsOf Tryd.f4 9) (by kernel_rfl) ?_
        refine lin_now 0 (.slice (some ⟨pb, po, none⟩) n lc) (some 36) (by kernel_rfl) (by kernel_rfl) (by kernel_rfl) ?_
        refine lin_now 1 (.int .i64 (i : Int)) (some 37) (by kernel_rfl) (by kernel_rfl) (by kernel_rfl) ?_
        refine lin_now 2 (.pointer (some ⟨pb, po + 64 * i, none⟩)) (some 38) (by kernel_rfl) (by kernel_rfl) (exec_indexAt 23 (.tmp 36) (.tmp 37) (by kernel_rfl) _ _ _ (by kernel_rfl) (by kernel_rfl) (run_at_block pb po n lc i hlt wr)) ?_
        refine lin_now 3 (.agg (ints .u8 x).toArray) (some 39) (by kernel_rfl) (by kernel_rfl) (exec_load_mid 37 (.tmp 38) (by kernel_rfl) pb (po + 64 * i) (by kernel_rfl) (ints .u8 x) _ (RX.out _ BEX.out) Tryd.underlying37 rfl IX.out) ?_
        refine lin_call 4 17 #[.agg (ints .u8 x).toArray] (some 40) _ (by kernel_rfl) (by kernel_rfl) (by kernel_rfl) (C1.out _) ?_
        rintro e w4 ⟨rfl, hb4⟩
        refine ⟨_, rfl, ?_⟩
        refine lin_now 5 (.tuple #[.int .i64 (genP x), .int .i64 (numP x), .bool true]) (some 35) (by kernel_rfl) (by kernel_rfl) (by kernel_rfl) ?_
        refine lin_now 6 (.int .i64 (genP x)) (some 41) (by kernel_rfl) (by kernel_rfl) (by kernel_rfl) ?_
        refine lin_now 7 (.int .i64 (numP x)) (some 42) (by kernel_rfl) (by kernel_rfl) (by kernel_rfl) ?_
        refine lin_now 8 (.bool true) (some 43) (by kernel_rfl) (by kernel_rfl) (by kernel_rfl) ?_
        refine lin_now 9 (.int .i64 (genP x)) (some 9) (by kernel_rfl) (by kernel_rfl) (by kernel_rfl) ?_
        refine lin_now 10 (.int .i64 (numP x)) (some 10) (by kernel_rfl) (by kernel_rfl) (by kernel_rfl) ?_
        refine lin_now 11 (.bool true) (some 11) (by kernel_rfl) (by kernel_rfl) (by kernel_rfl) ?_
        refine lin_done 12 (by kernel_rfl) ?_
        have BX4 : Hid (Below w3.heap.size w3 w4) := BX.out.trans (hb4.mono BX.out.size)
        have BE4 : Hid (Below B w w4) := BEX.out.trans (hb4.mono SX.out)
        have S4 : Hid (B ≤ w4.heap.size) := Nat.le_trans SX.out hb4.size
        clear hb4 BX BEX SX C1
        generalize hact : Act.put _ (some 11) _ = act
        simp only [Act.put, List.setIfInBounds_toArray, List.set_cons_succ, List.set_cons_zero] at hact
        subst hact
        go_upto_region 10 with (fail)
        refine lin_begin (opsOf Tryd.f4 10) (by kernel_rfl) ?_
        refine lin_now 0 (.slice (some ⟨pb, po, none⟩) n lc) (some 45) (by kernel_rfl) (by kernel_rfl) (by kernel_rfl) ?_
        refine lin_now 1 (.int .i64 (i : Int)) (some 46) (by kernel_rfl) (by kernel_rfl) (by kernel_rfl) ?_
        refine lin_now 2 (.pointer (some ⟨pb, po + 64 * i, none⟩)) (some 47) (by kernel_rfl) (by kernel_rfl) (exec_indexAt 23 (.tmp 45) (.tmp 46) (by kernel_rfl) _ _ _ (by kernel_rfl) (by kernel_rfl) (run_at_block pb po n lc i hlt w4)) ?_
        refine lin_now 3 (.agg (ints .u8 x).toArray) (some 48) (by kernel_rfl) (by kernel_rfl) (exec_load_mid 37 (.tmp 47) (by kernel_rfl) pb (po + 64 * i) (by kernel_rfl) (ints .u8 x) _ (RX.out _ BE4.out) Tryd.underlying37 rfl IX.out) ?_
        refine lin_call 4 18 #[.agg (ints .u8 x).toArray] (some 49) _ (by kernel_rfl) (by kernel_rfl) (by kernel_rfl) (C2.out _) ?_
        rintro e w5 ⟨rfl, hb5⟩
        refine ⟨_, rfl, ?_⟩
        refine lin_now 5 (.tuple #[.int .i64 (genP x), .int .i64 (numP x), .bool true]) (some 44) (by kernel_rfl) (by kernel_rfl) (by kernel_rfl) ?_
        refine lin_now 6 (.int .i64 (genP x)) (some 50) (by kernel_rfl) (by kernel_rfl) (by kernel_rfl) ?_
        refine lin_now 7 (.int .i64 (numP x)) (some 51) (by kernel_rfl) (by kernel_rfl) (by kernel_rfl) ?_
        refine lin_now 8 (.bool true) (some 52) (by kernel_rfl) (by kernel_rfl) (by kernel_rfl) ?_
        refine lin_now 9 (.int .i64 (genP x)) (some 12) (by kernel_rfl) (by kernel_rfl) (by kernel_rfl) ?_
        refine lin_now 10 (.int .i64 (numP x)) (some 13) (by kernel_rfl) (by kernel_rfl) (by kernel_rfl) ?_
        refine lin_now 11 (.bool true) (some 14) (by kernel_rfl) (by kernel_rfl) (by kernel_rfl) ?_
        refine lin_done 12 (by kernel_rfl) ?_
        have BX5 : Hid (Below w3.heap.size w3 w5) := BX4.out.trans (hb5.mono BX4.out.size)
        have BE5 : Hid (Below B w w5) := BE4.out.trans (hb5.mono S4.out)
        have S5 : Hid (B ≤ w5.heap.size) := Nat.le_trans S4.out hb5.size
        clear hb5 BX4 BE4 S4 C2
        generalize hact : Act.put _ (some 14) _ = act
        simp only [Act.put, List.setIfInBounds_toArray, List.set_cons_succ, List.set_cons_zero] at hact
        subst hact
        go_upto_region 11 with (fail)
        refine region_begin (opsOf Tryd.f4 11) (Below B w) (by kernel_rfl) (by kernel_rfl) 36 (by kernel_rfl) ?_
        intro Q' hQN hN
        have hS : Below B w w5.drew := BE5.out.drew
        have hX : Below w3.heap.size w3 w5.drew := BX5.out.drew
        have z5 : B ≤ w5.drew.heap.size := S5.out
        refine reg_now 0 (.int .i64 (genP x)) (some 53) hQN hS (by kernel_rfl) (by kernel_rfl) (fun w => by kernel_rfl) ?_
        refine reg_now 1 (.int .i64 (genP x)) (some 54) hQN hS (by kernel_rfl) (by kernel_rfl) (fun w => by kernel_rfl) ?_
        refine reg_now 2 (.bool ((genP x) != (genP x))) (some 55) hQN hS (by kernel_rfl) (by kernel_rfl) (fun w => by kernel_rfl) ?_
        rw [show ((genP x) != (genP x)) = false by simp]
        refine reg_now 3 (.bool false) (some 56) hQN hS (by kernel_rfl) (by kernel_rfl) (fun w => by kernel_rfl) ?_
        refine reg_now 4 (.int .i64 (numP x)) (some 57) hQN hS (by kernel_rfl) (by kernel_rfl) (fun w => by kernel_rfl) ?_
        refine reg_now 5 (.int .i64 (numP x)) (some 58) hQN hS (by kernel_rfl) (by kernel_rfl) (fun w => by kernel_rfl) ?_
        refine reg_now 6 (.bool ((numP x) != (numP x))) (some 59) hQN hS (by kernel_rfl) (by kernel_rfl) (fun w => by kernel_rfl) ?_
        rw [show ((numP x) != (numP x)) = false by simp]
        refine reg_now 7 (.bool false) (some 60) hQN hS (by kernel_rfl) (by kernel_rfl) (fun w => by kernel_rfl) ?_
        refine reg_now 8 (.bool false) (some 61) hQN hS (by kernel_rfl) (by kernel_rfl) (fun w => by kernel_rfl) ?_
        refine reg_now 9 (.bool true) (some 62) hQN hS (by kernel_rfl) (by kernel_rfl) (fun w => by kernel_rfl) ?_
        refine reg_now 10 (.bool true) (some 63) hQN hS (by kernel_rfl) (by kernel_rfl) (fun w => by kernel_rfl) ?_
        refine reg_now 11 (.bool false) (some 64) hQN hS (by kernel_rfl) (by kernel_rfl) (fun w => by kernel_rfl) ?_
        refine reg_now 12 (.bool false) (some 65) hQN hS (by kernel_rfl) (by kernel_rfl) (fun w => by kernel_rfl) ?_
        refine reg_now 13 (.bool false) (some 66) hQN hS (by kernel_rfl) (by kernel_rfl) (fun w => by kernel_rfl) ?_
        refine reg_now 14 (.slice (some ⟨pb, po, none⟩) n lc) (some 67) hQN hS (by kernel_rfl) (by kernel_rfl) (fun w => by kernel_rfl) ?_
        refine reg_now 15 (.int .i64 (i : Int)) (some 68) hQN hS (by kernel_rfl) (by kernel_rfl) (fun w => by kernel_rfl) ?_
        refine reg_now 16 (.pointer (some ⟨pb, po + 64 * i, none⟩)) (some 69) hQN hS (by kernel_rfl) (by kernel_rfl) (fun w' => exec_indexAt 23 (.tmp 67) (.tmp 68) (by kernel_rfl) _ _ _ (by kernel_rfl) (by kernel_rfl) (run_at_block pb po n lc i hlt w')) ?_
        refine reg_nowIf 17 (.agg (ints .u8 x).toArray) (some 70) hQN hS (by kernel_rfl) (by kernel_rfl) (fun w' hw => exec_load_mid 37 (.tmp 69) (by kernel_rfl) pb (po + 64 * i) (by kernel_rfl) (ints .u8 x) _ (RX.out _ hw) Tryd.underlying37 rfl IX.out) ?_
        refine reg_now 19 (.bool true) (some 72) hQN hS (by kernel_rfl) (by kernel_rfl) (fun w => by kernel_rfl) ?_
        refine reg_call 18 19 #[.agg (ints .u8 x).toArray] (some 71) _ (by kernel_rfl) (by kernel_rfl) (by kernel_rfl) (C3.out _) ?_
        rintro e w6 ⟨rfl, hb6⟩
        have hS6 : Below B w w6 := hS.trans (hb6.mono z5)
        have hX6 : Below w3.heap.size w3 w6 := hX.trans (hb6.mono hX.size)
        have z6 : B ≤ w6.heap.size := Nat.le_trans z5 hb6.size
        refine ⟨_, rfl, hS6, ?_⟩
        refine reg_now 20 (.bool false) (some 73) hQN hS6 (by kernel_rfl) (by kernel_rfl) (fun w => by kernel_rfl) ?_
        refine reg_now 21 (.bool false) (some 74) hQN hS6 (by kernel_rfl) (by kernel_rfl) (fun w => by kernel_rfl) ?_
        refine reg_now 22 (.bool false) (some 75) hQN hS6 (by kernel_rfl) (by kernel_rfl) (fun w => by kernel_rfl) ?_
        refine reg_now 23 (.slice (some ⟨pb, po, none⟩) n lc) (some 76) hQN hS6 (by kernel_rfl) (by kernel_rfl) (fun w => by kernel_rfl) ?_
        refine reg_now 24 (.int .i64 (i : Int)) (some 77) hQN hS6 (by kernel_rfl) (by kernel_rfl) (fun w => by kernel_rfl) ?_
        refine reg_now 25 (.pointer (some ⟨pb, po + 64 * i, none⟩)) (some 78) hQN hS6 (by kernel_rfl) (by kernel_rfl) (fun w' => exec_indexAt 23 (.tmp 76) (.tmp 77) (by kernel_rfl) _ _ _ (by kernel_rfl) (by kernel_rfl) (run_at_block pb po n lc i hlt w')) ?_
        refine reg_nowIf 26 (.agg (ints .u8 x).toArray) (some 79) hQN hS6 (by kernel_rfl) (by kernel_rfl) (fun w' hw => exec_load_mid 37 (.tmp 78) (by kernel_rfl) pb (po + 64 * i) (by kernel_rfl) (ints .u8 x) _ (RX.out _ hw) Tryd.underlying37 rfl IX.out) ?_
        refine reg_now 28 (.slice (some ⟨pb, po, none⟩) n lc) (some 81) hQN hS6 (by kernel_rfl) (by kernel_rfl) (fun w => by kernel_rfl) ?_
        refine reg_now 29 (.int .i64 (i : Int)) (some 82) hQN hS6 (by kernel_rfl) (by kernel_rfl) (fun w => by kernel_rfl) ?_
        refine reg_now 30 (.pointer (some ⟨pb, po + 64 * i, none⟩)) (some 83) hQN hS6 (by kernel_rfl) (by kernel_rfl) (fun w' => exec_indexAt 23 (.tmp 81) (.tmp 82) (by kernel_rfl) _ _ _ (by kernel_rfl) (by kernel_rfl) (run_at_block pb po n lc i hlt w')) ?_
        refine reg_nowIf 31 (.agg (ints .u8 x).toArray) (some 84) hQN hS6 (by kernel_rfl) (by kernel_rfl) (fun w' hw => exec_load_mid 37 (.tmp 83) (by kernel_rfl) pb (po + 64 * i) (by kernel_rfl) (ints .u8 x) _ (RX.out _ hw) Tryd.underlying37 rfl IX.out) ?_
        refine reg_call 27 20 #[.agg (ints .u8 x).toArray] (some 80) _ (by kernel_rfl) (by kernel_rfl) (by kernel_rfl) (data_any x GX.out XB.out _) ?_
        rintro e w7 ⟨v7, rfl, hv7, -, hb7⟩
        have hS7 : Below B w w7 := hS6.trans (hb7.mono z6)
        have hX7 : Below w3.heap.size w3 w7 := hX6.trans (hb7.mono hX6.size)
        have z7 : B ≤ w7.heap.size := Nat.le_trans z6 hb7.size
        refine ⟨_, rfl, hS7, ?_⟩
        refine reg_call 32 21 #[.agg (ints .u8 x).toArray] (some 85) _ (by kernel_rfl) (by kernel_rfl) (by kernel_rfl) (rldata_any x GX.out XB.out _) ?_
        rintro e w8 ⟨v8, rfl, hv8, -, hb8⟩
        have hS8 : Below B w w8 := hS7.trans (hb8.mono z7)
        have hX8 : Below w3.heap.size w3 w8 := hX7.trans (hb8.mono hX7.size)
        have z8' : B ≤ w8.heap.size := Nat.le_trans z7 hb8.size
        refine ⟨_, rfl, hS8, ?_⟩
        refine reg_call 33 13 #[v7, v8] (some 86) _ (by kernel_rfl) (by kernel_rfl) (by kernel_rfl) (sameb_true _ _ (dataQ x) _ (hv7.below hb8 (Nat.le_refl _)) hv8 (by have := dataQ_le (b := x); omega)) ?_
        rintro e w9 ⟨rfl, d9, rfl⟩
        have hS9 : Below B w (w8.drewN d9) := hS8.trans ((below_drewN w8 d9).mono z8')
        have hX9 : Below w3.heap.size w3 (w8.drewN d9) := hX8.trans ((below_drewN w8 d9).mono hX8.size)
        refine ⟨_, rfl, hS9, ?_⟩
        refine reg_now 34 (.bool false) (some 87) hQN hS9 (by kernel_rfl) (by kernel_rfl) (fun w => by kernel_rfl) ?_
        refine reg_now 35 (.bool false) (some 88) hQN hS9 (by kernel_rfl) (by kernel_rfl) (fun w => by kernel_rfl) ?_
        refine reg_done (by kernel_rfl) (hN _ _ ?_)
        have BX9 := Lib.hid hX9
        clear hQN hN hS hX z5 hb6 hS6 hX6 z6 hv7 hb7 hS7 hX7 z7 hv8 hb8 hS8 hX8 z8' hS9 hX9 BX5 BE5 S5 C3 RX
        generalize w8.drewN d9 = W9 at *
        generalize hact : Act.put _ (some 88) _ = act
        simp only [Act.put, List.setIfInBounds_toArray, List.set_cons_succ, List.set_cons_zero] at hact
        subst hact
        go_wp2
        exact ⟨⟨i + 1, by omega, by go_num, BX9.out⟩, by simp [intOf]; omega⟩
      · have C1 := Lib.hid (fun w => mark_no x GX.out XB.out hw w)
        have C2 := Lib.hid (fun w => rlmark_no x GX.out XB.out hw w)
        have C3 : Hid (∀ w, Calls Tryd.prog 19 #[.agg (ints .u8 x).toArray] w fun e w' => e = .returned (.bool false) ∧ Below w.heap.size w w') := fun w => by
          have h := whole_walk x GX.out XB.out w
          rw [decide_eq_false hw] at h
          exact h
        clear hw
        go_upto_region 9 with (fail)
        refine lin_begin (opsOf Tryd.f4 9) (by kernel_rfl) ?_
        refine lin_now 0 (.slice (some ⟨pb, po, none⟩) n lc) (some 36) (by kernel_rfl) (by kernel_rfl) (by kernel_rfl) ?_
        refine lin_now 1 (.int .i64 (i : Int)) (some 37) (by kernel_rfl) (by kernel_rfl) (by kernel_rfl) ?_
        refine lin_now 2 (.pointer (some ⟨pb, po + 64 * i, none⟩)) (some 38) (by kernel_rfl) (by kernel_rfl) (exec_indexAt 23 (.tmp 36) (.tmp 37) (by kernel_rfl) _ _ _ (by kernel_rfl) (by kernel_rfl) (run_at_block pb po n lc i hlt wr)) ?_
        refine lin_now 3 (.agg (ints .u8 x).toArray) (some 39) (by kernel_rfl) (by kernel_rfl) (exec_load_mid 37 (.tmp 38) (by kernel_rfl) pb (po + 64 * i) (by kernel_rfl) (ints .u8 x) _ (RX.out _ BEX.out) Tryd.underlying37 rfl IX.out) ?_
        refine lin_call 4 17 #[.agg (ints .u8 x).toArray] (some 40) _ (by kernel_rfl) (by kernel_rfl) (by kernel_rfl) (C1.out _) ?_
        rintro e w4 ⟨rfl, hb4⟩
        refine ⟨_, rfl, ?_⟩
        refine lin_now 5 (.tuple #[.int .i64 0, .int .i64 0, .bool false]) (some 35) (by kernel_rfl) (by kernel_rfl) (by kernel_rfl) ?_
        refine lin_now 6 (.int .i64 0) (some 41) (by kernel_rfl) (by kernel_rfl) (by kernel_rfl) ?_
        refine lin_now 7 (.int .i64 0) (some 42) (by kernel_rfl) (by kernel_rfl) (by kernel_rfl) ?_
        refine lin_now 8 (.bool false) (some 43) (by kernel_rfl) (by kernel_rfl) (by kernel_rfl) ?_
        refine lin_now 9 (.int .i64 0) (some 9) (by kernel_rfl) (by kernel_rfl) (by kernel_rfl) ?_
        refine lin_now 10 (.int .i64 0) (some 10) (by kernel_rfl) (by kernel_rfl) (by kernel_rfl) ?_
        refine lin_now 11 (.bool false) (some 11) (by kernel_rfl) (by kernel_rfl) (by kernel_rfl) ?_
        refine lin_done 12 (by kernel_rfl) ?_
        have BX4 : Hid (Below w3.heap.size w3 w4) := BX.out.trans (hb4.mono BX.out.size)
        have BE4 : Hid (Below B w w4) := BEX.out.trans (hb4.mono SX.out)
        have S4 : Hid (B ≤ w4.heap.size) := Nat.le_trans SX.out hb4.size
        clear hb4 BX BEX SX C1
        generalize hact : Act.put _ (some 11) _ = act
        simp only [Act.put, List.setIfInBounds_toArray, List.set_cons_succ, List.set_cons_zero] at hact
        subst hact
        go_upto_region 10 with (fail)
        refine lin_begin (opsOf Tryd.f4 10) (by kernel_rfl) ?_
        refine lin_now 0 (.slice (some ⟨pb, po, none⟩) n lc) (some 45) (by kernel_rfl) (by kernel_rfl) (by kernel_rfl) ?_
        refine lin_now 1 (.int .i64 (i : Int)) (some 46) (by kernel_rfl) (by kernel_rfl) (by kernel_rfl) ?_
        refine lin_now 2 (.pointer (some ⟨pb, po + 64 * i, none⟩)) (some 47) (by kernel_rfl) (by kernel_rfl) (exec_indexAt 23 (.tmp 45) (.tmp 46) (by kernel_rfl) _ _ _ (by kernel_rfl) (by kernel_rfl) (run_at_block pb po n lc i hlt w4)) ?_
        refine lin_now 3 (.agg (ints .u8 x).toArray) (some 48) (by kernel_rfl) (by kernel_rfl) (exec_load_mid 37 (.tmp 47) (by kernel_rfl) pb (po + 64 * i) (by kernel_rfl) (ints .u8 x) _ (RX.out _ BE4.out) Tryd.underlying37 rfl IX.out) ?_
        refine lin_call 4 18 #[.agg (ints .u8 x).toArray] (some 49) _ (by kernel_rfl) (by kernel_rfl) (by kernel_rfl) (C2.out _) ?_
        rintro e w5 ⟨rfl, hb5⟩
        refine ⟨_, rfl, ?_⟩
        refine lin_now 5 (.tuple #[.int .i64 0, .int .i64 0, .bool false]) (some 44) (by kernel_rfl) (by kernel_rfl) (by kernel_rfl) ?_
        refine lin_now 6 (.int .i64 0) (some 50) (by kernel_rfl) (by kernel_rfl) (by kernel_rfl) ?_
        refine lin_now 7 (.int .i64 0) (some 51) (by kernel_rfl) (by kernel_rfl) (by kernel_rfl) ?_
        refine lin_now 8 (.bool false) (some 52) (by kernel_rfl) (by kernel_rfl) (by kernel_rfl) ?_
        refine lin_now 9 (.int .i64 0) (some 12) (by kernel_rfl) (by kernel_rfl) (by kernel_rfl) ?_
        refine lin_now 10 (.int .i64 0) (some 13) (by kernel_rfl) (by kernel_rfl) (by kernel_rfl) ?_
        refine lin_now 11 (.bool false) (some 14) (by kernel_rfl) (by kernel_rfl) (by kernel_rfl) ?_
        refine lin_done 12 (by kernel_rfl) ?_
        have BX5 : Hid (Below w3.heap.size w3 w5) := BX4.out.trans (hb5.mono BX4.out.size)
        have BE5 : Hid (Below B w w5) := BE4.out.trans (hb5.mono S4.out)
        have S5 : Hid (B ≤ w5.heap.size) := Nat.le_trans S4.out hb5.size
        clear hb5 BX4 BE4 S4 C2
        generalize hact : Act.put _ (some 14) _ = act
        simp only [Act.put, List.setIfInBounds_toArray, List.set_cons_succ, List.set_cons_zero] at hact
        subst hact
        go_upto_region 11 with (fail)
        refine region_begin (opsOf Tryd.f4 11) (Below B w) (by kernel_rfl) (by kernel_rfl) 36 (by kernel_rfl) ?_
        intro Q' hQN hN
        have hS : Below B w w5.drew := BE5.out.drew
        have hX : Below w3.heap.size w3 w5.drew := BX5.out.drew
        have z5 : B ≤ w5.drew.heap.size := S5.out
        refine reg_now 0 (.int .i64 0) (some 53) hQN hS (by kernel_rfl) (by kernel_rfl) (fun w => by kernel_rfl) ?_
        refine reg_now 1 (.int .i64 0) (some 54) hQN hS (by kernel_rfl) (by kernel_rfl) (fun w => by kernel_rfl) ?_
        refine reg_now 2 (.bool false) (some 55) hQN hS (by kernel_rfl) (by kernel_rfl) (fun w => by kernel_rfl) ?_
        refine reg_now 3 (.bool false) (some 56) hQN hS (by kernel_rfl) (by kernel_rfl) (fun w => by kernel_rfl) ?_
        refine reg_now 4 (.int .i64 0) (some 57) hQN hS (by kernel_rfl) (by kernel_rfl) (fun w => by kernel_rfl) ?_
        refine reg_now 5 (.int .i64 0) (some 58) hQN hS (by kernel_rfl) (by kernel_rfl) (fun w => by kernel_rfl) ?_
        refine reg_now 6 (.bool false) (some 59) hQN hS (by kernel_rfl) (by kernel_rfl) (fun w => by kernel_rfl) ?_
        refine reg_now 7 (.bool false) (some 60) hQN hS (by kernel_rfl) (by kernel_rfl) (fun w => by kernel_rfl) ?_
        refine reg_now 8 (.bool false) (some 61) hQN hS (by kernel_rfl) (by kernel_rfl) (fun w => by kernel_rfl) ?_
        refine reg_now 9 (.bool false) (some 62) hQN hS (by kernel_rfl) (by kernel_rfl) (fun w => by kernel_rfl) ?_
        refine reg_now 10 (.bool false) (some 63) hQN hS (by kernel_rfl) (by kernel_rfl) (fun w => by kernel_rfl) ?_
        refine reg_now 11 (.bool false) (some 64) hQN hS (by kernel_rfl) (by kernel_rfl) (fun w => by kernel_rfl) ?_
        refine reg_now 12 (.bool false) (some 65) hQN hS (by kernel_rfl) (by kernel_rfl) (fun w => by kernel_rfl) ?_
        refine reg_now 13 (.bool false) (some 66) hQN hS (by kernel_rfl) (by kernel_rfl) (fun w => by kernel_rfl) ?_
        refine reg_now 14 (.slice (some ⟨pb, po, none⟩) n lc) (some 67) hQN hS (by kernel_rfl) (by kernel_rfl) (fun w => by kernel_rfl) ?_
        refine reg_now 15 (.int .i64 (i : Int)) (some 68) hQN hS (by kernel_rfl) (by kernel_rfl) (fun w => by kernel_rfl) ?_
        refine reg_now 16 (.pointer (some ⟨pb, po + 64 * i, none⟩)) (some 69) hQN hS (by kernel_rfl) (by kernel_rfl) (fun w' => exec_indexAt 23 (.tmp 67) (.tmp 68) (by kernel_rfl) _ _ _ (by kernel_rfl) (by kernel_rfl) (run_at_block pb po n lc i hlt w')) ?_
        refine reg_nowIf 17 (.agg (ints .u8 x).toArray) (some 70) hQN hS (by kernel_rfl) (by kernel_rfl) (fun w' hw => exec_load_mid 37 (.tmp 69) (by kernel_rfl) pb (po + 64 * i) (by kernel_rfl) (ints .u8 x) _ (RX.out _ hw) Tryd.underlying37 rfl IX.out) ?_
        refine reg_now 19 (.bool false) (some 72) hQN hS (by kernel_rfl) (by kernel_rfl) (fun w => by kernel_rfl) ?_
        refine reg_call 18 19 #[.agg (ints .u8 x).toArray] (some 71) _ (by kernel_rfl) (by kernel_rfl) (by kernel_rfl) (C3.out _) ?_
        rintro e w6 ⟨rfl, hb6⟩
        have hS6 : Below B w w6 := hS.trans (hb6.mono z5)
        have hX6 : Below w3.heap.size w3 w6 := hX.trans (hb6.mono hX.size)
        have z6 : B ≤ w6.heap.size := Nat.le_trans z5 hb6.size
        refine ⟨_, rfl, hS6, ?_⟩
        refine reg_now 20 (.bool false) (some 73) hQN hS6 (by kernel_rfl) (by kernel_rfl) (fun w => by kernel_rfl) ?_
        refine reg_now 21 (.bool false) (some 74) hQN hS6 (by kernel_rfl) (by kernel_rfl) (fun w => by kernel_rfl) ?_
        refine reg_now 22 (.bool false) (some 75) hQN hS6 (by kernel_rfl) (by kernel_rfl) (fun w => by kernel_rfl) ?_
        refine reg_now 23 (.slice (some ⟨pb, po, none⟩) n lc) (some 76) hQN hS6 (by kernel_rfl) (by kernel_rfl) (fun w => by kernel_rfl) ?_
        refine reg_now 24 (.int .i64 (i : Int)) (some 77) hQN hS6 (by kernel_rfl) (by kernel_rfl) (fun w => by kernel_rfl) ?_
        refine reg_now 25 (.pointer (some ⟨pb, po + 64 * i, none⟩)) (some 78) hQN hS6 (by kernel_rfl) (by kernel_rfl) (fun w' => exec_indexAt 23 (.tmp 76) (.tmp 77) (by kernel_rfl) _ _ _ (by kernel_rfl) (by kernel_rfl) (run_at_block pb po n lc i hlt w')) ?_
        refine reg_nowIf 26 (.agg (ints .u8 x).toArray) (some 79) hQN hS6 (by kernel_rfl) (by kernel_rfl) (fun w' hw => exec_load_mid 37 (.tmp 78) (by kernel_rfl) pb (po + 64 * i) (by kernel_rfl) (ints .u8 x) _ (RX.out _ hw) Tryd.underlying37 rfl IX.out) ?_
        refine reg_now 28 (.slice (some ⟨pb, po, none⟩) n lc) (some 81) hQN hS6 (by kernel_rfl) (by kernel_rfl) (fun w => by kernel_rfl) ?_
        refine reg_now 29 (.int .i64 (i : Int)) (some 82) hQN hS6 (by kernel_rfl) (by kernel_rfl) (fun w => by kernel_rfl) ?_
        refine reg_now 30 (.pointer (some ⟨pb, po + 64 * i, none⟩)) (some 83) hQN hS6 (by kernel_rfl) (by kernel_rfl) (fun w' => exec_indexAt 23 (.tmp 81) (.tmp 82) (by kernel_rfl) _ _ _ (by kernel_rfl) (by kernel_rfl) (run_at_block pb po n lc i hlt w')) ?_
        refine reg_nowIf 31 (.agg (ints .u8 x).toArray) (some 84) hQN hS6 (by kernel_rfl) (by kernel_rfl) (fun w' hw => exec_load_mid 37 (.tmp 83) (by kernel_rfl) pb (po + 64 * i) (by kernel_rfl) (ints .u8 x) _ (RX.out _ hw) Tryd.underlying37 rfl IX.out) ?_
        refine reg_call 27 20 #[.agg (ints .u8 x).toArray] (some 80) _ (by kernel_rfl) (by kernel_rfl) (by kernel_rfl) (data_any x GX.out XB.out _) ?_
        rintro e w7 ⟨v7, rfl, hv7, -, hb7⟩
        have hS7 : Below B w w7 := hS6.trans (hb7.mono z6)
        have hX7 : Below w3.heap.size w3 w7 := hX6.trans (hb7.mono hX6.size)
        have z7 : B ≤ w7.heap.size := Nat.le_trans z6 hb7.size
        refine ⟨_, rfl, hS7, ?_⟩
        refine reg_call 32 21 #[.agg (ints .u8 x).toArray] (some 85) _ (by kernel_rfl) (by kernel_rfl) (by kernel_rfl) (rldata_any x GX.out XB.out _) ?_
        rintro e w8 ⟨v8, rfl, hv8, -, hb8⟩
        have hS8 : Below B w w8 := hS7.trans (hb8.mono z7)
        have hX8 : Below w3.heap.size w3 w8 := hX7.trans (hb8.mono hX7.size)
        have z8' : B ≤ w8.heap.size := Nat.le_trans z7 hb8.size
        refine ⟨_, rfl, hS8, ?_⟩
        refine reg_call 33 13 #[v7, v8] (some 86) _ (by kernel_rfl) (by kernel_rfl) (by kernel_rfl) (sameb_true _ _ (dataQ x) _ (hv7.below hb8 (Nat.le_refl _)) hv8 (by have := dataQ_le (b := x); omega)) ?_
        rintro e w9 ⟨rfl, d9, rfl⟩
        have hS9 : Below B w (w8.drewN d9) := hS8.trans ((below_drewN w8 d9).mono z8')
        have hX9 : Below w3.heap.size w3 (w8.drewN d9) := hX8.trans ((below_drewN w8 d9).mono hX8.size)
        refine ⟨_, rfl, hS9, ?_⟩
        refine reg_now 34 (.bool false) (some 87) hQN hS9 (by kernel_rfl) (by kernel_rfl) (fun w => by kernel_rfl) ?_
        refine reg_now 35 (.bool false) (some 88) hQN hS9 (by kernel_rfl) (by kernel_rfl) (fun w => by kernel_rfl) ?_
        refine reg_done (by kernel_rfl) (hN _ _ ?_)
        have BX9 := Lib.hid hX9
        clear hQN hN hS hX z5 hb6 hS6 hX6 z6 hv7 hb7 hS7 hX7 z7 hv8 hb8 hS8 hX8 z8' hS9 hX9 BX5 BE5 S5 C3 RX
        generalize w8.drewN d9 = W9 at *
        generalize hact : Act.put _ (some 88) _ = act
        simp only [Act.put, List.setIfInBounds_toArray, List.set_cons_succ, List.set_cons_zero] at hact
        subst hact
        go_wp2
        exact ⟨⟨i + 1, by omega, by go_num, BX9.out⟩, by simp [intOf]; omega⟩
    · have r1 : ¬ (i : Int) < (n : Int) := by omega
      have OX := Lib.hid (O3.out.below BX.out)
      have KX : Hid (KW wr) := HK.out.below BEX.out HKB.out
      obtain ⟨oa, oc, eo, -⟩ := id O3.out
      subst eo
      clear BX O3
      by_cases hun : unpOk gen num l n
      · have C1 := Lib.hid (unpack_ok gen num _ n l wr OX.out HBY.out (by omega) hun KX.out)
        have C2 : Hid (∀ W, Below B w W → Calls Tryd.prog 22 #[.slice la n lc, .int .i64 gen, .int .i64 num] W (UnpPost (recP l) (needN (sizeP l)) W)) := fun W hW => rlunpack_ok gen num _ n l W (HV.out.below (by rw [hB.out]; exact hW)) HBY.out (by omega) hun
        have RL : Hid ((recP l).length ≤ 4611686018427387904) := by unfold Hid; rw [recP_length HL.out hun.2.2.1]; have := hun.2.1; omega
        obtain ⟨k, hk⟩ : ∃ k, Hid (needN (sizeP l) = k) := ⟨_, rfl⟩
        rw [hk.out] at C1 C2
        clear hun KX
        go_upto_region 13 with (fail)
        refine lin_begin (opsOf Tryd.f4 13) (by kernel_rfl) ?_
        refine lin_now 0 (.slice oa n oc) (some 90) (by kernel_rfl) (by kernel_rfl) (by kernel_rfl) ?_
        refine lin_now 1 (.int .i64 gen) (some 91) (by kernel_rfl) (by kernel_rfl) (by kernel_rfl) ?_
        refine lin_now 2 (.int .i64 num) (some 92) (by kernel_rfl) (by kernel_rfl) (by kernel_rfl) ?_
        refine lin_call 3 16 #[.slice oa n oc, .int .i64 gen, .int .i64 num] (some 93) _ (by kernel_rfl) (by kernel_rfl) (by kernel_rfl) (C1.out) ?_
        rintro e w4 ⟨v4, rfl, hv4, -, hb4⟩
        refine ⟨_, rfl, ?_⟩
        refine lin_now 4 (.tuple #[v4, .int .i64 (k : Int), .bool true]) (some 89) (by kernel_rfl) (by kernel_rfl) (by kernel_rfl) ?_
        refine lin_now 5 (v4) (some 94) (by kernel_rfl) (by kernel_rfl) (by kernel_rfl) ?_
        refine lin_now 6 (.int .i64 (k : Int)) (some 95) (by kernel_rfl) (by kernel_rfl) (by kernel_rfl) ?_
        refine lin_now 7 (.bool true) (some 96) (by kernel_rfl) (by kernel_rfl) (by kernel_rfl) ?_
        refine lin_now 8 (v4) (some 15) (by kernel_rfl) (by kernel_rfl) (by kernel_rfl) ?_
        refine lin_now 9 (.int .i64 (k : Int)) (some 16) (by kernel_rfl) (by kernel_rfl) (by kernel_rfl) ?_
        refine lin_now 10 (.bool true) (some 17) (by kernel_rfl) (by kernel_rfl) (by kernel_rfl) ?_
        refine lin_done 11 (by kernel_rfl) ?_
        have BE4 : Hid (Below B w w4) := BEX.out.trans (hb4.mono SX.out)
        have S4 : Hid (B ≤ w4.heap.size) := Nat.le_trans SX.out hb4.size
        have O4 := Lib.hid (OX.out.below hb4)
        have V4 := Lib.hid hv4
        clear hb4 OX C1 BEX SX hv4
        generalize hact : Act.put _ (some 17) _ = act
        simp only [Act.put, List.setIfInBounds_toArray, List.set_cons_succ, List.set_cons_zero] at hact
        subst hact
        go_upto_region 14 with (fail)
        refine lin_begin (opsOf Tryd.f4 14) (by kernel_rfl) ?_
        refine lin_now 0 (.slice la n lc) (some 98) (by kernel_rfl) (by kernel_rfl) (by kernel_rfl) ?_
        refine lin_now 1 (.int .i64 gen) (some 99) (by kernel_rfl) (by kernel_rfl) (by kernel_rfl) ?_
        refine lin_now 2 (.int .i64 num) (some 100) (by kernel_rfl) (by kernel_rfl) (by kernel_rfl) ?_
        refine lin_call 3 22 #[.slice la n lc, .int .i64 gen, .int .i64 num] (some 101) _ (by kernel_rfl) (by kernel_rfl) (by kernel_rfl) (C2.out _ BE4.out) ?_
        rintro e w5 ⟨v5, rfl, hv5, -, hb5⟩
        refine ⟨_, rfl, ?_⟩
        refine lin_now 4 (.tuple #[v5, .int .i64 (k : Int), .bool true]) (some 97) (by kernel_rfl) (by kernel_rfl) (by kernel_rfl) ?_
        refine lin_now 5 (v5) (some 102) (by kernel_rfl) (by kernel_rfl) (by kernel_rfl) ?_
        refine lin_now 6 (.int .i64 (k : Int)) (some 103) (by kernel_rfl) (by kernel_rfl) (by kernel_rfl) ?_
        refine lin_now 7 (.bool true) (some 104) (by kernel_rfl) (by kernel_rfl) (by kernel_rfl) ?_
        refine lin_now 8 (v5) (some 18) (by kernel_rfl) (by kernel_rfl) (by kernel_rfl) ?_
        refine lin_now 9 (.int .i64 (k : Int)) (some 19) (by kernel_rfl) (by kernel_rfl) (by kernel_rfl) ?_
        refine lin_now 10 (.bool true) (some 20) (by kernel_rfl) (by kernel_rfl) (by kernel_rfl) ?_
        refine lin_done 11 (by kernel_rfl) ?_
        have BE5 : Hid (Below B w w5) := BE4.out.trans (hb5.mono S4.out)
        have S5 : Hid (B ≤ w5.heap.size) := Nat.le_trans S4.out hb5.size
        have O5 := Lib.hid (O4.out.below hb5)
        have L5 : Hid (BlksIn w5 (.slice la n lc) n l) := HV.out.below (by rw [hB.out]; exact BE5.out)
        have V5 := Lib.hid hv5
        have W5 := Lib.hid (V4.out.below hb5 (Nat.le_refl _))
        clear hb5 O4 C2 BE4 S4 hv5 V4
        generalize hact : Act.put _ (some 20) _ = act
        simp only [Act.put, List.setIfInBounds_toArray, List.set_cons_succ, List.set_cons_zero] at hact
        subst hact
        go_upto_region 15 with (fail)
        refine lin_begin (opsOf Tryd.f4 15) (by kernel_rfl) ?_
        refine lin_now 0 (v4) (some 105) (by kernel_rfl) (by kernel_rfl) (by kernel_rfl) ?_
        refine lin_now 1 (v5) (some 106) (by kernel_rfl) (by kernel_rfl) (by kernel_rfl) ?_
        refine lin_call 2 13 #[v4, v5] (some 107) _ (by kernel_rfl) (by kernel_rfl) (by kernel_rfl) (sameb_true _ _ (recP l) _ W5.out V5.out RL.out) ?_
        rintro e w6 ⟨rfl, d6, rfl⟩
        refine ⟨_, rfl, ?_⟩
        refine lin_now 3 (.bool true) (some 108) (by kernel_rfl) (by kernel_rfl) (by kernel_rfl) ?_
        refine lin_now 4 (.int .i64 (k : Int)) (some 109) (by kernel_rfl) (by kernel_rfl) (by kernel_rfl) ?_
        refine lin_now 5 (.int .i64 (k : Int)) (some 110) (by kernel_rfl) (by kernel_rfl) (by kernel_rfl) ?_
        refine lin_now 6 (.bool ((k : Int) == (k : Int))) (some 111) (by kernel_rfl) (by kernel_rfl) (by kernel_rfl) ?_
        rw [show ((k : Int) == (k : Int)) = true by simp]
        refine lin_now 7 (.bool true) (some 112) (by kernel_rfl) (by kernel_rfl) (by kernel_rfl) ?_
        refine lin_now 8 (.bool true) (some 113) (by kernel_rfl) (by kernel_rfl) (by kernel_rfl) ?_
        refine lin_now 9 (.bool true) (some 114) (by kernel_rfl) (by kernel_rfl) (by kernel_rfl) ?_
        refine lin_now 10 (.bool true) (some 115) (by kernel_rfl) (by kernel_rfl) (by kernel_rfl) ?_
        refine lin_now 11 (.bool true) (some 116) (by kernel_rfl) (by kernel_rfl) (by kernel_rfl) ?_
        refine lin_now 12 (.bool true) (some 117) (by kernel_rfl) (by kernel_rfl) (by kernel_rfl) ?_
        refine lin_now 13 (.bool true) (some 118) (by kernel_rfl) (by kernel_rfl) (by kernel_rfl) ?_
        refine lin_now 14 (.slice oa n oc) (some 119) (by kernel_rfl) (by kernel_rfl) (by kernel_rfl) ?_
        refine lin_call 15 23 #[.slice oa n oc] (some 120) _ (by kernel_rfl) (by kernel_rfl) (by kernel_rfl) (highest_walk _ n l _ (O5.out.drewN d6) HBY.out (by omega)) ?_
        rintro e w7 ⟨rfl, hb7⟩
        refine ⟨_, rfl, ?_⟩
        refine lin_now 16 (.slice la n lc) (some 121) (by kernel_rfl) (by kernel_rfl) (by kernel_rfl) ?_
        refine lin_call 17 24 #[.slice la n lc] (some 122) _ (by kernel_rfl) (by kernel_rfl) (by kernel_rfl) (rlhighest_walk _ n l _ ((L5.out.drewN d6).below hb7) HBY.out (by omega)) ?_
        rintro e w8 ⟨rfl, d8, rfl⟩
        refine ⟨_, rfl, ?_⟩
        refine lin_now 18 (.bool (highK l n == highK l n)) (some 123) (by kernel_rfl) (by kernel_rfl) (by kernel_rfl) ?_
        rw [show (highK l n == highK l n) = true by simp]
        refine lin_now 19 (.bool true) (some 124) (by kernel_rfl) (by kernel_rfl) (by kernel_rfl) ?_
        refine lin_now 20 (.bool true) (some 125) (by kernel_rfl) (by kernel_rfl) (by kernel_rfl) ?_
        refine lin_now 21 (.slice oa n oc) (some 126) (by kernel_rfl) (by kernel_rfl) (by kernel_rfl) ?_
        refine lin_now 22 (.slice la n lc) (some 127) (by kernel_rfl) (by kernel_rfl) (by kernel_rfl) ?_
        have hcs := lsame_walk (.slice oa n oc) (.slice la n lc) n l l (w7.drewN d8) (((O5.out.drewN d6).below hb7).drewN d8) (((L5.out.drewN d6).below hb7).drewN d8) (by omega)
        rw [decide_eq_true rfl] at hcs
        refine lin_call 23 12 #[.slice oa n oc, .slice la n lc] (some 128) _ (by kernel_rfl) (by kernel_rfl) (by kernel_rfl) (hcs) ?_
        rintro e w9 ⟨rfl, d9, rfl⟩
        refine ⟨_, rfl, ?_⟩
        refine lin_now 24 (.bool true) (some 129) (by kernel_rfl) (by kernel_rfl) (by kernel_rfl) ?_
        refine lin_now 25 (.bool true) (some 6) (by kernel_rfl) (by kernel_rfl) (by kernel_rfl) ?_
        refine lin_done 26 (by kernel_rfl) ?_
        have BE9 : Hid (Below B w ((w7.drewN d8).drewN d9)) := by
          have h6 : Below B w (w5.drewN d6) := BE5.out.trans ((below_drewN w5 d6).mono S5.out)
          have h7 := h6.trans (hb7.mono S5.out)
          have z7 : B ≤ w7.heap.size := Nat.le_trans S5.out hb7.size
          have h8 := h7.trans ((below_drewN w7 d8).mono z7)
          exact h8.trans ((below_drewN (w7.drewN d8) d9).mono z7)
        clear hcs hb7 BE5 S5 O5 L5 V5 W5
        generalize (w7.drewN d8).drewN d9 = W9 at *
        generalize hact : Act.put _ (some 6) _ = act
        simp only [Act.put, List.setIfInBounds_toArray, List.set_cons_succ, List.set_cons_zero] at hact
        subst hact
        go_wp2
        go_ret
        exact ⟨rfl, BE9.out⟩
      · have C1 := Lib.hid (unpack_no gen num _ n l wr OX.out HBY.out (by omega) hun KX.out)
        have C2 : Hid (∀ W, Below B w W → Calls Tryd.prog 22 #[.slice la n lc, .int .i64 gen, .int .i64 num] W (UnpNo W)) := fun W hW => rlunpack_no gen num _ n l W (HV.out.below (by rw [hB.out]; exact hW)) HBY.out (by omega) hun
        clear hun KX
        go_upto_region 13 with (fail)
        refine lin_begin (opsOf Tryd.f4 13) (by kernel_rfl) ?_
        refine lin_now 0 (.slice oa n oc) (some 90) (by kernel_rfl) (by kernel_rfl) (by kernel_rfl) ?_
        refine lin_now 1 (.int .i64 gen) (some 91) (by kernel_rfl) (by kernel_rfl) (by kernel_rfl) ?_
        refine lin_now 2 (.int .i64 num) (some 92) (by kernel_rfl) (by kernel_rfl) (by kernel_rfl) ?_
        refine lin_call 3 16 #[.slice oa n oc, .int .i64 gen, .int .i64 num] (some 93) _ (by kernel_rfl) (by kernel_rfl) (by kernel_rfl) (C1.out) ?_
        rintro e w4 ⟨rfl, hb4⟩
        refine ⟨_, rfl, ?_⟩
        refine lin_now 4 (.tuple #[.slice none 0 0, .int .i64 0, .bool false]) (some 89) (by kernel_rfl) (by kernel_rfl) (by kernel_rfl) ?_
        refine lin_now 5 (.slice none 0 0) (some 94) (by kernel_rfl) (by kernel_rfl) (by kernel_rfl) ?_
        refine lin_now 6 (.int .i64 0) (some 95) (by kernel_rfl) (by kernel_rfl) (by kernel_rfl) ?_
        refine lin_now 7 (.bool false) (some 96) (by kernel_rfl) (by kernel_rfl) (by kernel_rfl) ?_
        refine lin_now 8 (.slice none 0 0) (some 15) (by kernel_rfl) (by kernel_rfl) (by kernel_rfl) ?_
        refine lin_now 9 (.int .i64 0) (some 16) (by kernel_rfl) (by kernel_rfl) (by kernel_rfl) ?_
        refine lin_now 10 (.bool false) (some 17) (by kernel_rfl) (by kernel_rfl) (by kernel_rfl) ?_
        refine lin_done 11 (by kernel_rfl) ?_
        have BE4 : Hid (Below B w w4) := BEX.out.trans (hb4.mono SX.out)
        have S4 : Hid (B ≤ w4.heap.size) := Nat.le_trans SX.out hb4.size
        have O4 := Lib.hid (OX.out.below hb4)
        clear hb4 OX C1 BEX SX
        generalize hact : Act.put _ (some 17) _ = act
        simp only [Act.put, List.setIfInBounds_toArray, List.set_cons_succ, List.set_cons_zero] at hact
        subst hact
        go_upto_region 14 with (fail)
        refine lin_begin (opsOf Tryd.f4 14) (by kernel_rfl) ?_
        refine lin_now 0 (.slice la n lc) (some 98) (by kernel_rfl) (by kernel_rfl) (by kernel_rfl) ?_
        refine lin_now 1 (.int .i64 gen) (some 99) (by kernel_rfl) (by kernel_rfl) (by kernel_rfl) ?_
        refine lin_now 2 (.int .i64 num) (some 100) (by kernel_rfl) (by kernel_rfl) (by kernel_rfl) ?_
        refine lin_call 3 22 #[.slice la n lc, .int .i64 gen, .int .i64 num] (some 101) _ (by kernel_rfl) (by kernel_rfl) (by kernel_rfl) (C2.out _ BE4.out) ?_
        rintro e w5 ⟨rfl, hb5⟩
        refine ⟨_, rfl, ?_⟩
        refine lin_now 4 (.tuple #[.slice none 0 0, .int .i64 0, .bool false]) (some 97) (by kernel_rfl) (by kernel_rfl) (by kernel_rfl) ?_
        refine lin_now 5 (.slice none 0 0) (some 102) (by kernel_rfl) (by kernel_rfl) (by kernel_rfl) ?_
        refine lin_now 6 (.int .i64 0) (some 103) (by kernel_rfl) (by kernel_rfl) (by kernel_rfl) ?_
        refine lin_now 7 (.bool false) (some 104) (by kernel_rfl) (by kernel_rfl) (by kernel_rfl) ?_
        refine lin_now 8 (.slice none 0 0) (some 18) (by kernel_rfl) (by kernel_rfl) (by kernel_rfl) ?_
        refine lin_now 9 (.int .i64 0) (some 19) (by kernel_rfl) (by kernel_rfl) (by kernel_rfl) ?_
        refine lin_now 10 (.bool false) (some 20) (by kernel_rfl) (by kernel_rfl) (by kernel_rfl) ?_
        refine lin_done 11 (by kernel_rfl) ?_
        have BE5 : Hid (Below B w w5) := BE4.out.trans (hb5.mono S4.out)
        have S5 : Hid (B ≤ w5.heap.size) := Nat.le_trans S4.out hb5.size
        have O5 := Lib.hid (O4.out.below hb5)
        have L5 : Hid (BlksIn w5 (.slice la n lc) n l) := HV.out.below (by rw [hB.out]; exact BE5.out)
        clear hb5 O4 C2 BE4 S4
        generalize hact : Act.put _ (some 20) _ = act
        simp only [Act.put, List.setIfInBounds_toArray, List.set_cons_succ, List.set_cons_zero] at hact
        subst hact
        go_upto_region 15 with (fail)
        refine lin_begin (opsOf Tryd.f4 15) (by kernel_rfl) ?_
        refine lin_now 0 (.slice none 0 0) (some 105) (by kernel_rfl) (by kernel_rfl) (by kernel_rfl) ?_
        refine lin_now 1 (.slice none 0 0) (some 106) (by kernel_rfl) (by kernel_rfl) (by kernel_rfl) ?_
        refine lin_call 2 13 #[.slice none 0 0, .slice none 0 0] (some 107) _ (by kernel_rfl) (by kernel_rfl) (by kernel_rfl) (sameb_true _ _ [] _ (bytes_nil _) (bytes_nil _) (by simp)) ?_
        rintro e w6 ⟨rfl, d6, rfl⟩
        refine ⟨_, rfl, ?_⟩
        refine lin_now 3 (.bool true) (some 108) (by kernel_rfl) (by kernel_rfl) (by kernel_rfl) ?_
        refine lin_now 4 (.int .i64 0) (some 109) (by kernel_rfl) (by kernel_rfl) (by kernel_rfl) ?_
        refine lin_now 5 (.int .i64 0) (some 110) (by kernel_rfl) (by kernel_rfl) (by kernel_rfl) ?_
        refine lin_now 6 (.bool true) (some 111) (by kernel_rfl) (by kernel_rfl) (by kernel_rfl) ?_
        refine lin_now 7 (.bool true) (some 112) (by kernel_rfl) (by kernel_rfl) (by kernel_rfl) ?_
        refine lin_now 8 (.bool true) (some 113) (by kernel_rfl) (by kernel_rfl) (by kernel_rfl) ?_
        refine lin_now 9 (.bool false) (some 114) (by kernel_rfl) (by kernel_rfl) (by kernel_rfl) ?_
        refine lin_now 10 (.bool false) (some 115) (by kernel_rfl) (by kernel_rfl) (by kernel_rfl) ?_
        refine lin_now 11 (.bool true) (some 116) (by kernel_rfl) (by kernel_rfl) (by kernel_rfl) ?_
        refine lin_now 12 (.bool true) (some 117) (by kernel_rfl) (by kernel_rfl) (by kernel_rfl) ?_
        refine lin_now 13 (.bool true) (some 118) (by kernel_rfl) (by kernel_rfl) (by kernel_rfl) ?_
        refine lin_now 14 (.slice oa n oc) (some 119) (by kernel_rfl) (by kernel_rfl) (by kernel_rfl) ?_
        refine lin_call 15 23 #[.slice oa n oc] (some 120) _ (by kernel_rfl) (by kernel_rfl) (by kernel_rfl) (highest_walk _ n l _ (O5.out.drewN d6) HBY.out (by omega)) ?_
        rintro e w7 ⟨rfl, hb7⟩
        refine ⟨_, rfl, ?_⟩
        refine lin_now 16 (.slice la n lc) (some 121) (by kernel_rfl) (by kernel_rfl) (by kernel_rfl) ?_
        refine lin_call 17 24 #[.slice la n lc] (some 122) _ (by kernel_rfl) (by kernel_rfl) (by kernel_rfl) (rlhighest_walk _ n l _ ((L5.out.drewN d6).below hb7) HBY.out (by omega)) ?_
        rintro e w8 ⟨rfl, d8, rfl⟩
        refine ⟨_, rfl, ?_⟩
        refine lin_now 18 (.bool (highK l n == highK l n)) (some 123) (by kernel_rfl) (by kernel_rfl) (by kernel_rfl) ?_
        rw [show (highK l n == highK l n) = true by simp]
        refine lin_now 19 (.bool true) (some 124) (by kernel_rfl) (by kernel_rfl) (by kernel_rfl) ?_
        refine lin_now 20 (.bool true) (some 125) (by kernel_rfl) (by kernel_rfl) (by kernel_rfl) ?_
        refine lin_now 21 (.slice oa n oc) (some 126) (by kernel_rfl) (by kernel_rfl) (by kernel_rfl) ?_
        refine lin_now 22 (.slice la n lc) (some 127) (by kernel_rfl) (by kernel_rfl) (by kernel_rfl) ?_
        have hcs := lsame_walk (.slice oa n oc) (.slice la n lc) n l l (w7.drewN d8) (((O5.out.drewN d6).below hb7).drewN d8) (((L5.out.drewN d6).below hb7).drewN d8) (by omega)
        rw [decide_eq_true rfl] at hcs
        refine lin_call 23 12 #[.slice oa n oc, .slice la n lc] (some 128) _ (by kernel_rfl) (by kernel_rfl) (by kernel_rfl) (hcs) ?_
        rintro e w9 ⟨rfl, d9, rfl⟩
        refine ⟨_, rfl, ?_⟩
        refine lin_now 24 (.bool true) (some 129) (by kernel_rfl) (by kernel_rfl) (by kernel_rfl) ?_
        refine lin_now 25 (.bool true) (some 6) (by kernel_rfl) (by kernel_rfl) (by kernel_rfl) ?_
        refine lin_done 26 (by kernel_rfl) ?_
        have BE9 : Hid (Below B w ((w7.drewN d8).drewN d9)) := by
          have h6 : Below B w (w5.drewN d6) := BE5.out.trans ((below_drewN w5 d6).mono S5.out)
          have h7 := h6.trans (hb7.mono S5.out)
          have z7 : B ≤ w7.heap.size := Nat.le_trans S5.out hb7.size
          have h8 := h7.trans ((below_drewN w7 d8).mono z7)
          exact h8.trans ((below_drewN (w7.drewN d8) d9).mono z7)
        clear hcs hb7 BE5 S5 O5 L5
        generalize (w7.drewN d8).drewN d9 = W9 at *
        generalize hact : Act.put _ (some 6) _ = act
        simp only [Act.put, List.setIfInBounds_toArray, List.set_cons_succ, List.set_cons_zero] at hact
        subst hact
        go_wp2
        go_ret
        exact ⟨rfl, BE9.out⟩
end Go.Proofs.YtaeghgnhpgkcdaaDoor
