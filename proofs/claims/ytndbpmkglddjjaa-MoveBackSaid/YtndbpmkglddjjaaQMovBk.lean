/- The law MoveBack. -/
import Derived.Test.YtndbpmkglddjjaaQGenT
import Derived.Test.YtndbpmkglddjjaaQMovQ
import Derived.Test.YtndbpmkglddjjaaQMovLo
import Derived.Test.YtndbpmkglddjjaaQMovR
namespace Go.Proofs.Ytndbpmkglddjjaa
open Go Go.RowKit
set_option maxRecDepth 100000
theorem shiftO_out {b f : Int} {t x : Tm} (h : shiftO b f t = some x) (hs : SmT t) : SmT x ∧ rightP 4 1099511627776 x = true ∧ shO b f t = some x := by
  unfold shiftO at h
  split at h
  · cases h1 : shO b f t with
    | none => rw [h1, okO_none] at h; cases h
    | some y =>
      rw [h1] at h
      cases hy : rightP 4 1099511627776 y with
      | false => rw [okO_no hy] at h; cases h
      | true =>
        rw [okO_yes hy] at h
        cases h
        exact ⟨(shO_sm h1 hs).1, hy, rfl⟩
  · cases h
set_option maxHeartbeats 8000000 in
theorem back_main {F : List Nat} (t : Tm) (cs : List Value) (xa : List Tm) (N : Nat) (aa : Option Addr) (ac : Nat) (b : Int) (w : World) (ht : TmAt F w t cs) (hs : SmT t) (hA : TmsAt F w xa (.slice aa N ac)) (hsa : SmTs xa) (hN : xa.length = N) : Calls Try.prog 4 #[.agg cs.toArray, .slice aa N ac, .int .i64 b] w fun e w' => e = .returned (.bool true) ∧ Below w.heap.size w w' := by
  have C5 := Lib.hid ht.len
  have HT := Lib.hid ht
  have HA := Lib.hid hA
  obtain ⟨q, hq⟩ : ∃ q, Hid (w.heap.size = q) := ⟨_, rfl⟩
  obtain ⟨V, hV⟩ : ∃ y, Hid (rightP 4 1099511627776 t = y) := ⟨_, rfl⟩
  clear ht hA
  go_enter Try.func4, Try.ntmps4
  go_upto_region 0 with (fail)
  refine lbeg (opsOf Try.f4 0) ?_
  refine lbox 0 25 (.tmp 0) (cs) (q) (some 3) hq ?_
  intro w1 bw1 bew1 hsw1
  refine lnow 1 (.bool false) (some 6) ?_
  refine ldn 2 ?_
  generalize hact : Act.put _ (some 6) _ = act
  simp only [Act.put, sA, sC, sZ] at hact
  subst hact
  have BQ := Lib.hid bw1
  have BE : Hid (Below w.heap.size w w1) := by rw [Hid, hq.out]; exact bew1
  clear bw1 bew1 hsw1
  go_upto_region 1 with (fail)
  refine lbeg (opsOf Try.f4 1) ?_
  refine lcal 0 16 #[] (some 16) _ (alive9_walk w1) ?_
  rintro e w1 ⟨rfl, hb⟩
  refine ⟨_, rfl, ?_⟩
  have BQ := Lib.hid (BQ.out.below hb BQ.out.lt)
  have BE := Lib.hid (BE.out.trans (hb.mono BE.out.size))
  clear hb
  refine lnow 1 (.bool false) (some 17) ?_
  refine ldn 2 ?_
  generalize hact : Act.put _ (some 17) _ = act
  simp only [Act.put, sA, sC, sZ] at hact
  subst hact
  go_upto_region 3 with (fail)
  refine lbeg (opsOf Try.f4 3) ?_
  refine lrl 0 (cs) (some 18) 25 3 (q) 0 (BQ.out).whole Try.underlying25 (t5Size C5.out) ?_
  refine lnow 1 (.slice aa N ac) (some 19) ?_
  refine lcal 2 17 #[.agg cs.toArray, .slice aa N ac] (some 20) _ (great9_walk t cs xa N aa ac w1 (HT.out.below BE.out) hs (HA.out.below BE.out) hsa hN) ?_
  rintro e w2 ⟨gb, rfl, hgb, hb⟩
  refine ⟨_, rfl, ?_⟩
  have BQ := Lib.hid (BQ.out.below hb BQ.out.lt)
  have BE := Lib.hid (BE.out.trans (hb.mono BE.out.size))
  clear hb
  obtain _ | _ := gb
  rotate_left
  · skip
    refine lnow 3 (.bool true) (some 21) ?_
    refine lpas 4 (some 22) ?_
    refine lpas 5 (some 23) ?_
    refine lpas 6 (some 24) ?_
    refine lnow 7 (.bool true) (some 25) ?_
    refine lnow 8 (.bool true) (some 26) ?_
    refine lpas 9 (some 27) ?_
    refine lpas 10 (some 28) ?_
    refine lpas 11 (some 29) ?_
    refine lnow 12 (.bool true) (some 30) ?_
    refine lnow 13 (.bool true) (some 31) ?_
    refine lpas 14 (some 32) ?_
    refine lpas 15 (some 33) ?_
    refine lnow 16 (.bool true) (some 34) ?_
    refine lnow 17 (.bool true) (some 35) ?_
    refine lpas 18 (some 36) ?_
    refine lpas 19 (some 37) ?_
    refine lnow 20 (.bool true) (some 38) ?_
    refine ldn 21 ?_
    generalize hact : Act.put _ (some 38) _ = act
    simp only [Act.put, sA, sC, sZ] at hact
    subst hact
    go_upto_region 4 with (fail)
    refine lbeg (opsOf Try.f4 4) ?_
    refine lnow 0 (.bool true) (some 6) ?_
    refine ldn 1 ?_
    generalize hact : Act.put _ (some 6) _ = act
    simp only [Act.put, sA, sC, sZ] at hact
    subst hact
    go_wp2
    go_ret
    exact ⟨rfl, BE.out⟩
  have hg := hgb rfl
  have NT : Hid (nodesT t ≤ 3600) := hg.1
  have N12 : Hid (N ≤ 12) := hg.2
  clear hgb hg
  refine lnow 3 (.bool false) (some 21) ?_
  refine lrl 4 (cs) (some 22) 25 3 (q) 0 (BQ.out).whole Try.underlying25 (t5Size C5.out) ?_
  refine lcal 5 10 #[.agg cs.toArray] (some 23) _ (any_walk t cs w2 (HT.out.below BE.out) hs) ?_
  rintro e w3 ⟨rfl, hb⟩
  refine ⟨_, rfl, ?_⟩
  have BQ := Lib.hid (BQ.out.below hb BQ.out.lt)
  have BE := Lib.hid (BE.out.trans (hb.mono BE.out.size))
  clear hb
  rw [hV.out]
  obtain _ | _ := V
  · skip
    refine lnow 6 (.bool true) (some 24) ?_
    refine lnow 7 (.bool true) (some 25) ?_
    refine lnow 8 (.bool true) (some 26) ?_
    refine lpas 9 (some 27) ?_
    refine lpas 10 (some 28) ?_
    refine lpas 11 (some 29) ?_
    refine lnow 12 (.bool true) (some 30) ?_
    refine lnow 13 (.bool true) (some 31) ?_
    refine lpas 14 (some 32) ?_
    refine lpas 15 (some 33) ?_
    refine lnow 16 (.bool true) (some 34) ?_
    refine lnow 17 (.bool true) (some 35) ?_
    refine lpas 18 (some 36) ?_
    refine lpas 19 (some 37) ?_
    refine lnow 20 (.bool true) (some 38) ?_
    refine ldn 21 ?_
    generalize hact : Act.put _ (some 38) _ = act
    simp only [Act.put, sA, sC, sZ] at hact
    subst hact
    go_upto_region 4 with (fail)
    refine lbeg (opsOf Try.f4 4) ?_
    refine lnow 0 (.bool true) (some 6) ?_
    refine ldn 1 ?_
    generalize hact : Act.put _ (some 6) _ = act
    simp only [Act.put, sA, sC, sZ] at hact
    subst hact
    go_wp2
    go_ret
    exact ⟨rfl, BE.out⟩
  refine lnow 6 (.bool false) (some 24) ?_
  refine lnow 7 (.bool false) (some 25) ?_
  refine lnow 8 (.bool false) (some 26) ?_
  refine lrl 9 (cs) (some 27) 25 3 (q) 0 (BQ.out).whole Try.underlying25 (t5Size C5.out) ?_
  have BN := rightP_bnd hV.out
  have N3 := (rightP_parts hV.out).2.1
  obtain ⟨lo, hlo⟩ : ∃ y, Hid (looseT 0 t = y) := ⟨_, rfl⟩
  refine lcal 10 18 #[.agg cs.toArray] (some 28) _ (rLoose_walk t cs w3 (HT.out.below BE.out) hs hV.out N3 BN) ?_
  rintro e w4 ⟨rfl, hb⟩
  refine ⟨_, rfl, ?_⟩
  have BQ := Lib.hid (BQ.out.below hb BQ.out.lt)
  have BE := Lib.hid (BE.out.trans (hb.mono BE.out.size))
  clear hb
  rw [hlo.out]
  clear BN N3
  by_cases c1 : lo > 549755813888
  · skip
    refine lnow 11 (.bool (decide (lo > 549755813888))) (some 29) ?_
    rw [show decide (lo > 549755813888) = true from decide_eq_true c1]
    refine lnow 12 (.bool true) (some 30) ?_
    refine lnow 13 (.bool true) (some 31) ?_
    refine lpas 14 (some 32) ?_
    refine lpas 15 (some 33) ?_
    refine lnow 16 (.bool true) (some 34) ?_
    refine lnow 17 (.bool true) (some 35) ?_
    refine lpas 18 (some 36) ?_
    refine lpas 19 (some 37) ?_
    refine lnow 20 (.bool true) (some 38) ?_
    refine ldn 21 ?_
    generalize hact : Act.put _ (some 38) _ = act
    simp only [Act.put, sA, sC, sZ] at hact
    subst hact
    go_upto_region 4 with (fail)
    refine lbeg (opsOf Try.f4 4) ?_
    refine lnow 0 (.bool true) (some 6) ?_
    refine ldn 1 ?_
    generalize hact : Act.put _ (some 6) _ = act
    simp only [Act.put, sA, sC, sZ] at hact
    subst hact
    go_wp2
    go_ret
    exact ⟨rfl, BE.out⟩
  refine lnow 11 (.bool (decide (lo > 549755813888))) (some 29) ?_
  rw [show decide (lo > 549755813888) = false from decide_eq_false c1]
  refine lnow 12 (.bool false) (some 30) ?_
  refine lnow 13 (.bool false) (some 31) ?_
  refine lnow 14 (.int .i64 b) (some 32) ?_
  by_cases c2 : b < 0
  · skip
    refine lnow 15 (.bool (decide (b < 0))) (some 33) ?_
    rw [show decide (b < 0) = true from decide_eq_true c2]
    refine lnow 16 (.bool true) (some 34) ?_
    refine lnow 17 (.bool true) (some 35) ?_
    refine lpas 18 (some 36) ?_
    refine lpas 19 (some 37) ?_
    refine lnow 20 (.bool true) (some 38) ?_
    refine ldn 21 ?_
    generalize hact : Act.put _ (some 38) _ = act
    simp only [Act.put, sA, sC, sZ] at hact
    subst hact
    go_upto_region 4 with (fail)
    refine lbeg (opsOf Try.f4 4) ?_
    refine lnow 0 (.bool true) (some 6) ?_
    refine ldn 1 ?_
    generalize hact : Act.put _ (some 6) _ = act
    simp only [Act.put, sA, sC, sZ] at hact
    subst hact
    go_wp2
    go_ret
    exact ⟨rfl, BE.out⟩
  refine lnow 15 (.bool (decide (b < 0))) (some 33) ?_
  rw [show decide (b < 0) = false from decide_eq_false c2]
  refine lnow 16 (.bool false) (some 34) ?_
  refine lnow 17 (.bool false) (some 35) ?_
  refine lnow 18 (.int .i64 b) (some 36) ?_
  by_cases c3 : b > 1000
  · skip
    refine lnow 19 (.bool (decide (b > 1000))) (some 37) ?_
    rw [show decide (b > 1000) = true from decide_eq_true c3]
    refine lnow 20 (.bool true) (some 38) ?_
    refine ldn 21 ?_
    generalize hact : Act.put _ (some 38) _ = act
    simp only [Act.put, sA, sC, sZ] at hact
    subst hact
    go_upto_region 4 with (fail)
    refine lbeg (opsOf Try.f4 4) ?_
    refine lnow 0 (.bool true) (some 6) ?_
    refine ldn 1 ?_
    generalize hact : Act.put _ (some 6) _ = act
    simp only [Act.put, sA, sC, sZ] at hact
    subst hact
    go_wp2
    go_ret
    exact ⟨rfl, BE.out⟩
  refine lnow 19 (.bool (decide (b > 1000))) (some 37) ?_
  rw [show decide (b > 1000) = false from decide_eq_false c3]
  refine lnow 20 (.bool false) (some 38) ?_
  refine ldn 21 ?_
  generalize hact : Act.put _ (some 38) _ = act
  simp only [Act.put, sA, sC, sZ] at hact
  subst hact
  have LO : Hid (looseT 0 t ≤ 549755813888) := by rw [Hid, hlo.out]; omega
  have BY : Hid (0 ≤ b ∧ b ≤ 1000) := by rw [Hid]; omega
  clear c1 c2 c3 hlo hq
  go_upto_region 5 with (fail)
  refine lbeg (opsOf Try.f4 5) ?_
  refine lnow 0 (.int .i64 0) (some 7) ?_
  refine ldn 1 ?_
  generalize hact : Act.put _ (some 7) _ = act
  simp only [Act.put, sA, sC, sZ] at hact
  subst hact
  go_wp2
  go_loopw [7] (fun iv wr => ∃ i : Nat, i ≤ N ∧ iv = .int .i64 (i : Int) ∧ Hid (∀ x ∈ xa.take i, rightP 4 1099511627776 x = true) ∧ Hid (Blk wr q 25 cs) ∧ Hid (Below w.heap.size w wr)) (fun iv _ => N - (intOf iv).toNat)
  case atStart => exact ⟨0, Nat.zero_le _, rfl, fun x hx => by simp at hx, BQ, BE⟩
  case round =>
    obtain ⟨i, hi, rfl, RI, BQ, BE⟩ := hrel
    by_cases hlt : i < N
    · skip
      have cl : (i : Int) < (N : Int) := by omega
      have HAr : TmsAt F wr xa (.slice aa N ac) := HA.out.below BE.out
      obtain ⟨x, pb, po, cx, hx, hxm, haa, -, -, -, hrx, htx⟩ := HAr.get hN hlt
      subst haa
      have HRX := Lib.hid hrx
      have X5 := Lib.hid htx.len
      have TK : Hid (xa.take (i + 1) = xa.take i ++ [x]) := by rw [Hid, List.take_add_one, hx]; rfl
      have CALL := any_walk x cx wr htx (SmTs.mem hsa hxm)
      obtain ⟨vx, hvx⟩ : ∃ y, Hid (rightP 4 1099511627776 x = y) := ⟨_, rfl⟩
      rw [hvx.out] at CALL
      clear HAr hxm hx hrx htx
      go_upto_region 6 with (fail)
      refine lbeg (opsOf Try.f4 6) ?_
      refine lnow 0 (.int .i64 (i : Int)) (some 39) ?_
      refine lnow 1 (.slice (some ⟨pb, po, none⟩) N ac) (some 40) ?_
      refine lnow 2 (.int .i64 (N : Int)) (some 41) ?_
      refine lnow 3 (.bool (decide ((i : Int) < (N : Int)))) (some 42) ?_
      rw [show decide ((i : Int) < (N : Int)) = true from decide_eq_true cl]
      refine ldn 4 ?_
      generalize hact : Act.put _ (some 42) _ = act
      simp only [Act.put, sA, sC, sZ] at hact
      subst hact
      go_upto_region 8 with (fail)
      refine lbeg (opsOf Try.f4 8) ?_
      refine lnow 0 (.slice (some ⟨pb, po, none⟩) N ac) (some 45) ?_
      refine lnow 1 (.int .i64 (i : Int)) (some 46) ?_
      refine lix 2 (.pointer (some ⟨pb, po + 5 * i, none⟩)) (some 47) 23 45 46 (run_at_tm pb po N ac i hlt _) ?_
      refine lrl 3 cx (some 48) 25 47 pb (po + 5 * i) HRX.out Try.underlying25 (t5Size X5.out) ?_
      refine lcal 4 10 #[.agg cx.toArray] (some 49) _ (CALL) ?_
      rintro e w5 ⟨rfl, hb⟩
      refine ⟨_, rfl, ?_⟩
      have BQ := Lib.hid (BQ.out.below hb BQ.out.lt)
      have BE := Lib.hid (BE.out.trans (hb.mono BE.out.size))
      clear hb
      clear CALL HRX X5
      obtain _ | _ := vx
      · skip
        refine lnow 5 (.bool true) (some 50) ?_
        refine ldn 6 ?_
        generalize hact : Act.put _ (some 50) _ = act
        simp only [Act.put, sA, sC, sZ] at hact
        subst hact
        go_upto_region 9 with (fail)
        refine lbeg (opsOf Try.f4 9) ?_
        refine lnow 0 (.bool true) (some 6) ?_
        refine ldn 1 ?_
        generalize hact : Act.put _ (some 6) _ = act
        simp only [Act.put, sA, sC, sZ] at hact
        subst hact
        go_wp2
        go_ret
        exact ⟨rfl, BE.out⟩
      refine lnow 5 (.bool false) (some 50) ?_
      refine ldn 6 ?_
      generalize hact : Act.put _ (some 50) _ = act
      simp only [Act.put, sA, sC, sZ] at hact
      subst hact
      have RI2 : Hid (∀ y ∈ xa.take (i + 1), rightP 4 1099511627776 y = true) := by
        rw [TK.out]
        intro y hy
        rcases List.mem_append.1 hy with h | h
        · exact RI.out y h
        · rw [List.mem_singleton.1 h]; exact hvx.out
      clear RI TK hvx
      have bl := N12.out
      go_wp2
      go_roundw
      case rel => exact ⟨i + 1, by omega, by go_num, RI2, BQ, BE⟩
      case measure => simp [intOf]; omega
    have cl : ¬ (i : Int) < (N : Int) := by omega
    go_upto_region 6 with (fail)
    refine lbeg (opsOf Try.f4 6) ?_
    refine lnow 0 (.int .i64 (i : Int)) (some 39) ?_
    refine lnow 1 (.slice aa N ac) (some 40) ?_
    refine lnow 2 (.int .i64 (N : Int)) (some 41) ?_
    refine lnow 3 (.bool (decide ((i : Int) < (N : Int)))) (some 42) ?_
    rw [show decide ((i : Int) < (N : Int)) = false from decide_eq_false cl]
    refine ldn 4 ?_
    generalize hact : Act.put _ (some 42) _ = act
    simp only [Act.put, sA, sC, sZ] at hact
    subst hact
    have RA : ∀ x ∈ xa, rightP 4 1099511627776 x = true := by have := RI.out; rwa [List.take_of_length_le (by omega)] at this
    obtain ⟨S1, S2, S3⟩ := back_shift hV.out LO.out BY.out.1 BY.out.2
    have SX := shiftO_out S1 hs
    have P1 := (back_shift (b := (xa.length : Int)) hV.out LO.out (by omega) (by have := N12.out; omega)).1
    have P2 := back_put hV.out LO.out RA (by have := N12.out; omega)
    have SP := shiftO_out P1 hs
    rw [hN] at P1 P2 SP
    obtain ⟨x, hx⟩ : ∃ x, Hid (mapT (shF b) 0 t = x) := ⟨_, rfl⟩
    obtain ⟨p, hp⟩ : ∃ x, Hid (mapT (shF (N : Int)) 0 t = x) := ⟨_, rfl⟩
    rw [hx.out] at S1 S2 S3 SX
    rw [hp.out] at P1 P2 SP
    have NX := (rightP_parts S2).2.1
    have NP := (rightP_parts SP.2.1).2.1
    have NA : ∀ x ∈ xa, nodesT x ≤ 100000000000 := fun x h => by have := (rightP_parts (RA x h)).2.1; omega
    have TA := Lib.hid (HT.out.below BE.out)
    have AA := Lib.hid (HA.out.below BE.out)
    have n1 := NT.out
    have n2 := N12.out
    have b3 := BY.out
    go_upto_region 10 with (fail)
    refine lbeg (opsOf Try.f4 10) ?_
    refine lrl 0 (cs) (some 52) 25 3 (q) 0 (BQ.out).whole Try.underlying25 (t5Size C5.out) ?_
    refine lnow 1 (.int .i64 b) (some 53) ?_
    refine lcal 2 19 #[.agg cs.toArray, .int .i64 b, .int .i64 0] (some 54) _ (shift_walk t b 0 cs wr TA.out hs (by omega)) ?_
    rintro e w6 ⟨cx, rfl, hc, hb⟩
    rw [S1] at hc ⊢
    dsimp only [Option.getD_some, Option.isSome_some] at hc ⊢
    refine ⟨_, rfl, ?_⟩
    have BQ := Lib.hid (BQ.out.below hb BQ.out.lt)
    have BE := Lib.hid (BE.out.trans (hb.mono BE.out.size))
    have TA := Lib.hid (TA.out.below hb)
    have AA := Lib.hid (AA.out.below hb)
    clear hb
    have TX : Hid (TmAt [] w6 x cx) := TmAt.sub (fun k hk => by cases hk) _ _ hc
    have TX5 := Lib.hid TX.out.len
    have TX1 := Lib.hid TX.out.one
    clear hc
    refine lnow 3 (.tuple #[.agg cx.toArray, .bool true]) (some 51) ?_
    refine lnow 4 (.agg cx.toArray) (some 55) ?_
    refine lnow 5 (.bool true) (some 56) ?_
    obtain ⟨b7, hb7⟩ : ∃ y, Hid (w6.heap.size = y) := ⟨_, rfl⟩
    refine lall 6 25 z5T (b7) (some 8) hb7 ?_
    intro w8 bw8 bew8 hsw8
    refine lin_put 7 25 (.tmp 8) (.tmp 55) (b7) _ (z5T) (cx) (by kernel_rfl) (by kernel_rfl) (by kernel_rfl) (by kernel_rfl) (by kernel_rfl) bw8 (TX5.out.trans (rfl : z5T.length = 5).symm) (t5Size TX5.out) (by simpa using TX1.out) ?_
    intro w9 bw9 uw9
    have hb : Below w6.heap.size w6 w9 := by rw [hb7.out]; exact uw9.below bew8 (Nat.le_refl _) (by have := bew8.size; have := hb7.out; omega)
    have BQ := Lib.hid (BQ.out.below hb BQ.out.lt)
    have BE := Lib.hid (BE.out.trans (hb.mono BE.out.size))
    have TA := Lib.hid (TA.out.below hb)
    have AA := Lib.hid (AA.out.below hb)
    have TX := Lib.hid (TX.out.below hb)
    have BTX := Lib.hid bw9
    clear hb bw8 bew8 hsw8 bw9 uw9
    refine lnow 8 (.bool true) (some 9) ?_
    refine ldn 9 ?_
    generalize hact : Act.put _ (some 9) _ = act
    simp only [Act.put, sA, sC, sZ] at hact
    subst hact
    go_upto_region 11 with (fail)
    refine lbeg (opsOf Try.f4 11) ?_
    refine lrl 0 (cx) (some 58) 25 8 (b7) 0 (BTX.out).whole Try.underlying25 (t5Size TX5.out) ?_
    refine lnow 1 (.int .i64 b) (some 59) ?_
    refine lnow 2 (.int .i64 (IntKind.i64.wrap (0 - b))) (some 60) ?_
    rw [show IntKind.i64.wrap (0 - b) = -b by rw [IntWalk.i64_in _ (by omega)]; omega]
    refine lcal 3 19 #[.agg cx.toArray, .int .i64 (-b), .int .i64 0] (some 61) _ (shift_walk x (-b) 0 cx w9 TX.out SX.1 (by omega)) ?_
    rintro e w10 ⟨cy, rfl, hc, hb⟩
    rw [S3] at hc ⊢
    dsimp only [Option.getD_some, Option.isSome_some] at hc ⊢
    refine ⟨_, rfl, ?_⟩
    have BQ := Lib.hid (BQ.out.below hb BQ.out.lt)
    have BE := Lib.hid (BE.out.trans (hb.mono BE.out.size))
    have TA := Lib.hid (TA.out.below hb)
    have AA := Lib.hid (AA.out.below hb)
    have TX := Lib.hid (TX.out.below hb)
    have BTX := Lib.hid (BTX.out.below hb BTX.out.lt)
    clear hb
    have TY : Hid (TmAt [] w10 t cy) := TmAt.sub (fun k hk => by cases hk) _ _ hc
    have TY5 := Lib.hid TY.out.len
    have TY1 := Lib.hid TY.out.one
    clear hc
    refine lnow 4 (.tuple #[.agg cy.toArray, .bool true]) (some 57) ?_
    refine lnow 5 (.agg cy.toArray) (some 62) ?_
    refine lnow 6 (.bool true) (some 63) ?_
    obtain ⟨b11, hb11⟩ : ∃ y, Hid (w10.heap.size = y) := ⟨_, rfl⟩
    refine lall 7 25 z5T (b11) (some 10) hb11 ?_
    intro w12 bw12 bew12 hsw12
    refine lin_put 8 25 (.tmp 10) (.tmp 62) (b11) _ (z5T) (cy) (by kernel_rfl) (by kernel_rfl) (by kernel_rfl) (by kernel_rfl) (by kernel_rfl) bw12 (TY5.out.trans (rfl : z5T.length = 5).symm) (t5Size TY5.out) (by simpa using TY1.out) ?_
    intro w13 bw13 uw13
    have hb : Below w10.heap.size w10 w13 := by rw [hb11.out]; exact uw13.below bew12 (Nat.le_refl _) (by have := bew12.size; have := hb11.out; omega)
    have BQ := Lib.hid (BQ.out.below hb BQ.out.lt)
    have BE := Lib.hid (BE.out.trans (hb.mono BE.out.size))
    have TA := Lib.hid (TA.out.below hb)
    have AA := Lib.hid (AA.out.below hb)
    have TX := Lib.hid (TX.out.below hb)
    have BTX := Lib.hid (BTX.out.below hb BTX.out.lt)
    have TY := Lib.hid (TY.out.below hb)
    have BTY := Lib.hid bw13
    clear hb bw12 bew12 hsw12 bw13 uw13
    refine lnow 9 (.bool true) (some 11) ?_
    refine ldn 10 ?_
    generalize hact : Act.put _ (some 11) _ = act
    simp only [Act.put, sA, sC, sZ] at hact
    subst hact
    go_upto_region 12 with (fail)
    refine lbeg (opsOf Try.f4 12) ?_
    refine lrl 0 (cs) (some 65) 25 3 (q) 0 (BQ.out).whole Try.underlying25 (t5Size C5.out) ?_
    refine lnow 1 (.slice aa N ac) (some 66) ?_
    refine lnow 2 (.int .i64 (N : Int)) (some 67) ?_
    refine lcal 3 19 #[.agg cs.toArray, .int .i64 (N : Int), .int .i64 0] (some 68) _ (shift_walk t (N : Int) 0 cs w13 TA.out hs (by omega)) ?_
    rintro e w14 ⟨cp, rfl, hc, hb⟩
    rw [P1] at hc ⊢
    dsimp only [Option.getD_some, Option.isSome_some] at hc ⊢
    refine ⟨_, rfl, ?_⟩
    have BQ := Lib.hid (BQ.out.below hb BQ.out.lt)
    have BE := Lib.hid (BE.out.trans (hb.mono BE.out.size))
    have TA := Lib.hid (TA.out.below hb)
    have AA := Lib.hid (AA.out.below hb)
    have TX := Lib.hid (TX.out.below hb)
    have BTX := Lib.hid (BTX.out.below hb BTX.out.lt)
    have TY := Lib.hid (TY.out.below hb)
    have BTY := Lib.hid (BTY.out.below hb BTY.out.lt)
    clear hb
    have TP : Hid (TmAt [] w14 p cp) := TmAt.sub (fun k hk => by cases hk) _ _ hc
    have TP5 := Lib.hid TP.out.len
    have TP1 := Lib.hid TP.out.one
    clear hc
    refine lnow 4 (.tuple #[.agg cp.toArray, .bool true]) (some 64) ?_
    refine lnow 5 (.agg cp.toArray) (some 69) ?_
    refine lnow 6 (.bool true) (some 70) ?_
    obtain ⟨b15, hb15⟩ : ∃ y, Hid (w14.heap.size = y) := ⟨_, rfl⟩
    refine lall 7 25 z5T (b15) (some 12) hb15 ?_
    intro w16 bw16 bew16 hsw16
    refine lin_put 8 25 (.tmp 12) (.tmp 69) (b15) _ (z5T) (cp) (by kernel_rfl) (by kernel_rfl) (by kernel_rfl) (by kernel_rfl) (by kernel_rfl) bw16 (TP5.out.trans (rfl : z5T.length = 5).symm) (t5Size TP5.out) (by simpa using TP1.out) ?_
    intro w17 bw17 uw17
    have hb : Below w14.heap.size w14 w17 := by rw [hb15.out]; exact uw17.below bew16 (Nat.le_refl _) (by have := bew16.size; have := hb15.out; omega)
    have BQ := Lib.hid (BQ.out.below hb BQ.out.lt)
    have BE := Lib.hid (BE.out.trans (hb.mono BE.out.size))
    have TA := Lib.hid (TA.out.below hb)
    have AA := Lib.hid (AA.out.below hb)
    have TX := Lib.hid (TX.out.below hb)
    have BTX := Lib.hid (BTX.out.below hb BTX.out.lt)
    have TY := Lib.hid (TY.out.below hb)
    have BTY := Lib.hid (BTY.out.below hb BTY.out.lt)
    have TP := Lib.hid (TP.out.below hb)
    have BTP := Lib.hid bw17
    clear hb bw16 bew16 hsw16 bw17 uw17
    refine lnow 9 (.bool true) (some 13) ?_
    refine ldn 10 ?_
    generalize hact : Act.put _ (some 13) _ = act
    simp only [Act.put, sA, sC, sZ] at hact
    subst hact
    go_upto_region 13 with (fail)
    refine lbeg (opsOf Try.f4 13) ?_
    refine lrl 0 (cp) (some 72) 25 12 (b15) 0 (BTP.out).whole Try.underlying25 (t5Size TP5.out) ?_
    refine lnow 1 (.slice aa N ac) (some 73) ?_
    refine lcal 2 20 #[.agg cp.toArray, .slice aa N ac] (some 74) _ (put_walk (F := []) xa N aa ac p cp w17 TP.out (TmsAt.sub (fun k hk => by cases hk) _ _ AA.out) hsa NA hN (by omega) SP.1 (by omega)) ?_
    rintro e w18 ⟨cz, rfl, hc, hb⟩
    rw [P2] at hc ⊢
    dsimp only [Option.getD_some, Option.isSome_some] at hc ⊢
    refine ⟨_, rfl, ?_⟩
    have BQ := Lib.hid (BQ.out.below hb BQ.out.lt)
    have BE := Lib.hid (BE.out.trans (hb.mono BE.out.size))
    have TA := Lib.hid (TA.out.below hb)
    have AA := Lib.hid (AA.out.below hb)
    have TX := Lib.hid (TX.out.below hb)
    have BTX := Lib.hid (BTX.out.below hb BTX.out.lt)
    have TY := Lib.hid (TY.out.below hb)
    have BTY := Lib.hid (BTY.out.below hb BTY.out.lt)
    have TP := Lib.hid (TP.out.below hb)
    have BTP := Lib.hid (BTP.out.below hb BTP.out.lt)
    clear hb
    have TZ : Hid (TmAt [] w18 t cz) := TmAt.sub (fun k hk => by cases hk) _ _ hc
    have TZ5 := Lib.hid TZ.out.len
    have TZ1 := Lib.hid TZ.out.one
    clear hc
    refine lnow 3 (.tuple #[.agg cz.toArray, .bool true]) (some 71) ?_
    refine lnow 4 (.agg cz.toArray) (some 75) ?_
    refine lnow 5 (.bool true) (some 76) ?_
    obtain ⟨b19, hb19⟩ : ∃ y, Hid (w18.heap.size = y) := ⟨_, rfl⟩
    refine lall 6 25 z5T (b19) (some 14) hb19 ?_
    intro w20 bw20 bew20 hsw20
    refine lin_put 7 25 (.tmp 14) (.tmp 75) (b19) _ (z5T) (cz) (by kernel_rfl) (by kernel_rfl) (by kernel_rfl) (by kernel_rfl) (by kernel_rfl) bw20 (TZ5.out.trans (rfl : z5T.length = 5).symm) (t5Size TZ5.out) (by simpa using TZ1.out) ?_
    intro w21 bw21 uw21
    have hb : Below w18.heap.size w18 w21 := by rw [hb19.out]; exact uw21.below bew20 (Nat.le_refl _) (by have := bew20.size; have := hb19.out; omega)
    have BQ := Lib.hid (BQ.out.below hb BQ.out.lt)
    have BE := Lib.hid (BE.out.trans (hb.mono BE.out.size))
    have TA := Lib.hid (TA.out.below hb)
    have AA := Lib.hid (AA.out.below hb)
    have TX := Lib.hid (TX.out.below hb)
    have BTX := Lib.hid (BTX.out.below hb BTX.out.lt)
    have TY := Lib.hid (TY.out.below hb)
    have BTY := Lib.hid (BTY.out.below hb BTY.out.lt)
    have TP := Lib.hid (TP.out.below hb)
    have BTP := Lib.hid (BTP.out.below hb BTP.out.lt)
    have TZ := Lib.hid (TZ.out.below hb)
    have BTZ := Lib.hid bw21
    clear hb bw20 bew20 hsw20 bw21 uw21
    refine lnow 8 (.bool true) (some 15) ?_
    refine ldn 9 ?_
    generalize hact : Act.put _ (some 15) _ = act
    simp only [Act.put, sA, sC, sZ] at hact
    subst hact
    go_upto_region 14 with (fail)
    refine lbeg (opsOf Try.f4 14) ?_
    refine lnow 0 (.bool true) (some 77) ?_
    refine lnow 1 (.bool true) (some 78) ?_
    refine lnow 2 (.bool true) (some 79) ?_
    refine lnow 3 (.bool true) (some 80) ?_
    refine lnow 4 (.bool true) (some 81) ?_
    refine lnow 5 (.bool true) (some 82) ?_
    refine lnow 6 (.bool true) (some 83) ?_
    refine lnow 7 (.bool true) (some 84) ?_
    refine lnow 8 (.bool true) (some 85) ?_
    refine lnow 9 (.bool true) (some 86) ?_
    refine lnow 10 (.bool true) (some 87) ?_
    refine lrl 11 (cy) (some 88) 25 10 (b11) 0 (BTY.out).whole Try.underlying25 (t5Size TY5.out) ?_
    refine lrl 12 (cs) (some 89) 25 3 (q) 0 (BQ.out).whole Try.underlying25 (t5Size C5.out) ?_
    refine lcal 13 13 #[.agg cy.toArray, .agg cs.toArray] (some 90) _ (sameterm_walk t t cy cs w21 [] F TY.out TA.out hs) ?_
    rintro e w22 ⟨rfl, hb⟩
    rw [eqT_yes (rfl : t = t)]
    refine ⟨_, rfl, ?_⟩
    have BQ := Lib.hid (BQ.out.below hb BQ.out.lt)
    have BE := Lib.hid (BE.out.trans (hb.mono BE.out.size))
    have TA := Lib.hid (TA.out.below hb)
    have AA := Lib.hid (AA.out.below hb)
    have TX := Lib.hid (TX.out.below hb)
    have BTX := Lib.hid (BTX.out.below hb BTX.out.lt)
    have TY := Lib.hid (TY.out.below hb)
    have BTY := Lib.hid (BTY.out.below hb BTY.out.lt)
    have TP := Lib.hid (TP.out.below hb)
    have BTP := Lib.hid (BTP.out.below hb BTP.out.lt)
    have TZ := Lib.hid (TZ.out.below hb)
    have BTZ := Lib.hid (BTZ.out.below hb BTZ.out.lt)
    clear hb
    refine lnow 14 (.bool true) (some 91) ?_
    refine lnow 15 (.bool true) (some 92) ?_
    refine lrl 16 (cz) (some 93) 25 14 (b19) 0 (BTZ.out).whole Try.underlying25 (t5Size TZ5.out) ?_
    refine lrl 17 (cs) (some 94) 25 3 (q) 0 (BQ.out).whole Try.underlying25 (t5Size C5.out) ?_
    refine lcal 18 13 #[.agg cz.toArray, .agg cs.toArray] (some 95) _ (sameterm_walk t t cz cs w22 [] F TZ.out TA.out hs) ?_
    rintro e w23 ⟨rfl, hb⟩
    rw [eqT_yes (rfl : t = t)]
    refine ⟨_, rfl, ?_⟩
    have BQ := Lib.hid (BQ.out.below hb BQ.out.lt)
    have BE := Lib.hid (BE.out.trans (hb.mono BE.out.size))
    have TA := Lib.hid (TA.out.below hb)
    have AA := Lib.hid (AA.out.below hb)
    have TX := Lib.hid (TX.out.below hb)
    have BTX := Lib.hid (BTX.out.below hb BTX.out.lt)
    have TY := Lib.hid (TY.out.below hb)
    have BTY := Lib.hid (BTY.out.below hb BTY.out.lt)
    have TP := Lib.hid (TP.out.below hb)
    have BTP := Lib.hid (BTP.out.below hb BTP.out.lt)
    have TZ := Lib.hid (TZ.out.below hb)
    have BTZ := Lib.hid (BTZ.out.below hb BTZ.out.lt)
    clear hb
    refine lnow 19 (.bool true) (some 96) ?_
    refine lnow 20 (.bool true) (some 6) ?_
    refine ldn 21 ?_
    generalize hact : Act.put _ (some 6) _ = act
    simp only [Act.put, sA, sC, sZ] at hact
    subst hact
    go_wp2
    go_ret
    exact ⟨rfl, BE.out⟩
theorem back_all {F : List Nat} (t : Tm) (cs : List Value) (xa : List Tm) (v : Value) (b : Int) (w : World) (ht : TmAt F w t cs) (hs : SmT t) (hA : TmsAt F w xa v) (hsa : SmTs xa) : Calls Try.prog 4 #[.agg cs.toArray, v, .int .i64 b] w fun e w' => e = .returned (.bool true) ∧ Below w.heap.size w w' := by
  obtain ⟨a, c, rfl⟩ := hA.slice
  exact back_main t cs xa _ a c b w ht hs hA hsa rfl
end Go.Proofs.Ytndbpmkglddjjaa
