/- Law 10's CodeAnswers. -/
import Derived.Test.YteohjbggicchgaaQGenT
import Derived.Test.YteohjbggicchgaaQCodAl
import Derived.Test.YteohjbggicchgaaQCodGr
import Derived.Test.YteohjbggicchgaaQCodCp
namespace Go.Proofs.Yteohjbggicchgaa
open Go Go.RowKit
set_option maxRecDepth 100000
theorem numV_small (n : Int) : (numV n).length ≤ 4611686018427387904 := by
 unfold numV
 split
 ·rename_i h
  unfold numOk at h
  simp only [Bool.and_eq_true, decide_eq_true_eq] at h
  have := numB_len n.toNat (by omega)
  omega
 ·simp
theorem termV_small {t : Tm} (hl : LvT t) : (termV t).length ≤ 4611686018427387904 := by
 unfold termV
 split
 ·rename_i h
  obtain ⟨h1, h2⟩ := termOk_10 h
  have := termB_len t h1 hl
  omega
 ·simp
theorem declV_small {d : Dc} (hl : LvD d) : (declV d).length ≤ 4611686018427387904 := by
 unfold declV
 split
 ·rename_i h
  have := declB_len (form_ok (form_iff.1 h)) hl
  omega
 ·simp
theorem libV_small {ds : List Dc} (hl : ∀ d ∈ ds, LvD d) : (libV ds).length ≤ 4611686018427387904 := by
 unfold libV
 split
 ·rename_i h
  unfold libOk at h
  simp only [Bool.and_eq_true, decide_eq_true_eq, List.all_eq_true] at h
  have h1 := numB_len ds.length (by omega)
  have h2 := dsB_len (ds := ds) (fun d hd => declB_len (form_ok (form_iff.1 (h.2 d hd))) (hl d hd))
  rw [List.length_append]
  omega
 ·simp
theorem same_rows {m1 m2 : Nat} {w : World} {v1 v2 : Value} {zs : List Int} (h1 : RowB m1 w v1 zs) (h2 : RowB m2 w v2 zs) (hl : zs.length ≤ 4611686018427387904) : Calls Try.prog 16 #[v1, v2] w fun e w' => e = .returned (.bool true) ∧ Below w.heap.size w w' := by
 refine (sameb_walk v1 v2 zs zs w h1.in h2.in hl).mono ?_
 rintro e w' ⟨rfl, n, rfl⟩
 rw [decide_eq_true rfl]
 exact ⟨rfl, below_drewN _ _⟩
set_option maxHeartbeats 8000000 in
theorem answers10_main {F G : List Nat} (n : Int) (t : Tm) (cs : List Value) (ds : List Dc) (v : Value) (w : World) (ht : TmAt F w t cs) (hs : SmT t) (hd : DcsAt G w ds v) (hsd : ∀ d ∈ ds, SmD d) (hl : ds.length ≤ 140737488351232) : Calls Try.prog 3 #[.int .i64 n, .agg cs.toArray, v] w fun e w' => e = .returned (.bool true) ∧ Below w.heap.size w w' := by
 obtain ⟨q, hq⟩ : ∃ q, Hid (w.heap.size = q) := ⟨_, rfl⟩
 obtain ⟨la, lc, rfl⟩ := hd.slice
 have C5 := Lib.hid ht.len
 have TX := Lib.hid ht
 have DL := Lib.hid hd
 have ST := Lib.hid hs
 have SD := Lib.hid hsd
 have LN := Lib.hid hl
 have LVT := Lib.hid (TmAt.lv _ _ ht)
 have LVS : Hid (∀ d ∈ ds, LvD d) := DcsAt_lv hd
 obtain ⟨L, hL⟩ : ∃ L, Hid (ds.length = L) := ⟨_, rfl⟩
 rw [hL.out] at DL LN ⊢
 clear hd ht hs hsd hl
 go_enter Try.func3, Try.ntmps3
 go_upto_region 0 with (fail)
 refine lbeg (opsOf Try.f3 0) ?_
 refine lbox 0 25 (.tmp 1) (cs) (q) (some 4) hq ?_
 intro w1 bw1 bew1 hsw1
 refine lnow 1 (.bool false) (some 6) ?_
 refine ldn 2 ?_
 generalize hact : Act.put _ (some 6) _ = act
 simp only [Act.put, sA, sC, sZ] at hact
 subst hact
 have BQ := Lib.hid bw1
 have BE : Hid (Below w.heap.size w w1) := by rw [Hid, hq.out]; exact bew1
 have TX := Lib.hid (TX.out.below BE.out)
 have DL := Lib.hid (DL.out.below BE.out)
 clear bw1 bew1 hsw1 hq
 go_upto_region 1 with (fail)
 refine lbeg (opsOf Try.f3 1) ?_
 refine lcal 0 7 #[] (some 25) _ (alive10_walk w1) ?_
 rintro e w2 ⟨rfl, hb⟩
 refine ⟨_, rfl, ?_⟩
 have BQ := Lib.hid (BQ.out.below hb BQ.out.lt)
 have TX := Lib.hid (TX.out.below hb)
 have DL := Lib.hid (DL.out.below hb)
 have BE := Lib.hid (BE.out.trans (hb.mono BE.out.size))
 clear hb
 refine lnow 1 (.bool false) (some 26) ?_
 refine ldn 2 ?_
 generalize hact : Act.put _ (some 26) _ = act
 simp only [Act.put, sA, sC, sZ] at hact
 subst hact
 go_upto_region 3 with (fail)
 refine lbeg (opsOf Try.f3 3) ?_
 refine lrl 0 (cs) (some 27) 25 4 (q) 0 (BQ.out).whole Try.underlying25 (t5Size C5.out) ?_
 refine lcal 1 8 #[.agg cs.toArray] (some 28) _ (great_walk t cs w2 TX.out ST.out) ?_
 rintro e w3 ⟨rfl, hb⟩
 refine ⟨_, rfl, ?_⟩
 have BQ := Lib.hid (BQ.out.below hb BQ.out.lt)
 have TX := Lib.hid (TX.out.below hb)
 have DL := Lib.hid (DL.out.below hb)
 have BE := Lib.hid (BE.out.trans (hb.mono BE.out.size))
 clear hb
 by_cases hbig : 3600 < nodesT t
 ·skip
  rw [decide_eq_true hbig]
  refine lnow 2 (.bool true) (some 29) ?_
  refine lpas 3 (some 30) ?_
  refine lpas 4 (some 31) ?_
  refine lnow 5 (.bool true) (some 32) ?_
  refine ldn 6 ?_
  generalize hact : Act.put _ (some 32) _ = act
  simp only [Act.put, sA, sC, sZ] at hact
  subst hact
  go_upto_region 4 with (fail)
  refine lbeg (opsOf Try.f3 4) ?_
  refine lnow 0 (.bool true) (some 6) ?_
  refine ldn 1 ?_
  generalize hact : Act.put _ (some 6) _ = act
  simp only [Act.put, sA, sC, sZ] at hact
  subst hact
  go_wp2
  go_ret
  exact ⟨rfl, BE.out⟩
 rw [decide_eq_false hbig]
 refine lnow 2 (.bool false) (some 29) ?_
 refine lnow 3 (.slice la L lc) (some 30) ?_
 refine lcal 4 9 #[.slice la L lc] (some 31) _ (great10_walk ds _ w3 (by have := DL.out; exact this) SD.out (by rw [hL.out]; exact LN.out)) ?_
 rintro e w4 ⟨b, rfl, hb, hg⟩
 refine ⟨_, rfl, ?_⟩
 have BQ := Lib.hid (BQ.out.below hb BQ.out.lt)
 have TX := Lib.hid (TX.out.below hb)
 have DL := Lib.hid (DL.out.below hb)
 have BE := Lib.hid (BE.out.trans (hb.mono BE.out.size))
 clear hb
 refine lnow 5 (.bool b) (some 32) ?_
 refine ldn 6 ?_
 generalize hact : Act.put _ (some 32) _ = act
 simp only [Act.put, sA, sC, sZ] at hact
 subst hact
 cases b
 rotate_left
 ·skip
  go_upto_region 4 with (fail)
  refine lbeg (opsOf Try.f3 4) ?_
  refine lnow 0 (.bool true) (some 6) ?_
  refine ldn 1 ?_
  generalize hact : Act.put _ (some 6) _ = act
  simp only [Act.put, sA, sC, sZ] at hact
  subst hact
  go_wp2
  go_ret
  exact ⟨rfl, BE.out⟩
 have BIG : Hid (∀ d ∈ ds, SmD d ∧ BigD d) := fun d hd => ⟨SD.out d hd, ((hg rfl).2 d hd).big⟩
 have NT : Hid (nodesT t ≤ 100000000000) := by rw [Hid]; omega
 have L70 : Hid (L ≤ 70) := by have := (hg rfl).1; rw [hL.out] at this; exact this
 clear hg hbig
 obtain ⟨b1, hb1⟩ : ∃ b, Hid (numOk n = b) := ⟨_, rfl⟩
 obtain ⟨b2, hb2⟩ : ∃ b, Hid (termOk t = b) := ⟨_, rfl⟩
 obtain ⟨b3, hb3⟩ : ∃ b, Hid (libOk ds = b) := ⟨_, rfl⟩
 go_upto_region 5 with (fail)
 refine lbeg (opsOf Try.f3 5) ?_
 refine lnow 0 (.int .i64 n) (some 34) ?_
 have CALL := Num_walk n w4
 rw [hb1.out] at CALL
 refine lcal 1 10 #[.int .i64 n] (some 35) _ (CALL) ?_
 rintro e w5 ⟨v7, rfl, hr, hb⟩
 refine ⟨_, rfl, ?_⟩
 have R7 := Lib.hid hr
 clear hr CALL
 have BQ := Lib.hid (BQ.out.below hb BQ.out.lt)
 have TX := Lib.hid (TX.out.below hb)
 have DL := Lib.hid (DL.out.below hb)
 have BE := Lib.hid (BE.out.trans (hb.mono BE.out.size))
 clear hb
 refine lnow 2 (.tuple #[v7, .bool b1]) (some 33) ?_
 refine lnow 3 (v7) (some 36) ?_
 refine lnow 4 (.bool b1) (some 37) ?_
 refine lnow 5 (v7) (some 7) ?_
 refine lnow 6 (.bool b1) (some 8) ?_
 refine ldn 7 ?_
 generalize hact : Act.put _ (some 8) _ = act
 simp only [Act.put, sA, sC, sZ] at hact
 subst hact
 go_upto_region 6 with (fail)
 refine lbeg (opsOf Try.f3 6) ?_
 refine lnow 0 (.int .i64 n) (some 39) ?_
 have CALL := rNum_walk n w5
 rw [hb1.out] at CALL
 refine lcal 1 11 #[.int .i64 n] (some 40) _ (CALL) ?_
 rintro e w6 ⟨v9, rfl, hr, hb⟩
 refine ⟨_, rfl, ?_⟩
 have R9 := Lib.hid hr
 clear hr CALL
 have BQ := Lib.hid (BQ.out.below hb BQ.out.lt)
 have TX := Lib.hid (TX.out.below hb)
 have DL := Lib.hid (DL.out.below hb)
 have R7 := Lib.hid (R7.out.below hb)
 have BE := Lib.hid (BE.out.trans (hb.mono BE.out.size))
 clear hb
 refine lnow 2 (.tuple #[v9, .bool b1]) (some 38) ?_
 refine lnow 3 (v9) (some 41) ?_
 refine lnow 4 (.bool b1) (some 42) ?_
 refine lnow 5 (v9) (some 9) ?_
 refine lnow 6 (.bool b1) (some 10) ?_
 refine ldn 7 ?_
 generalize hact : Act.put _ (some 10) _ = act
 simp only [Act.put, sA, sC, sZ] at hact
 subst hact
 go_upto_region 7 with (fail)
 refine lbeg (opsOf Try.f3 7) ?_
 refine lrl 0 (cs) (some 44) 25 4 (q) 0 (BQ.out).whole Try.underlying25 (t5Size C5.out) ?_
 have CALL := Term_walk t cs w6 TX.out ST.out NT.out
 rw [hb2.out] at CALL
 refine lcal 1 12 #[.agg cs.toArray] (some 45) _ (CALL) ?_
 rintro e w7 ⟨v11, rfl, hr, hb⟩
 refine ⟨_, rfl, ?_⟩
 have R11 := Lib.hid hr
 clear hr CALL
 have BQ := Lib.hid (BQ.out.below hb BQ.out.lt)
 have TX := Lib.hid (TX.out.below hb)
 have DL := Lib.hid (DL.out.below hb)
 have R7 := Lib.hid (R7.out.below hb)
 have R9 := Lib.hid (R9.out.below hb)
 have BE := Lib.hid (BE.out.trans (hb.mono BE.out.size))
 clear hb
 refine lnow 2 (.tuple #[v11, .bool b2]) (some 43) ?_
 refine lnow 3 (v11) (some 46) ?_
 refine lnow 4 (.bool b2) (some 47) ?_
 refine lnow 5 (v11) (some 11) ?_
 refine lnow 6 (.bool b2) (some 12) ?_
 refine ldn 7 ?_
 generalize hact : Act.put _ (some 12) _ = act
 simp only [Act.put, sA, sC, sZ] at hact
 subst hact
 go_upto_region 8 with (fail)
 refine lbeg (opsOf Try.f3 8) ?_
 refine lrl 0 (cs) (some 49) 25 4 (q) 0 (BQ.out).whole Try.underlying25 (t5Size C5.out) ?_
 have CALL := rTerm_walk t cs w7 TX.out ST.out
 rw [hb2.out] at CALL
 refine lcal 1 13 #[.agg cs.toArray] (some 50) _ (CALL) ?_
 rintro e w8 ⟨v13, rfl, hr, hb⟩
 refine ⟨_, rfl, ?_⟩
 have R13 := Lib.hid hr
 clear hr CALL
 have BQ := Lib.hid (BQ.out.below hb BQ.out.lt)
 have TX := Lib.hid (TX.out.below hb)
 have DL := Lib.hid (DL.out.below hb)
 have R7 := Lib.hid (R7.out.below hb)
 have R9 := Lib.hid (R9.out.below hb)
 have R11 := Lib.hid (R11.out.below hb)
 have BE := Lib.hid (BE.out.trans (hb.mono BE.out.size))
 clear hb
 refine lnow 2 (.tuple #[v13, .bool b2]) (some 48) ?_
 refine lnow 3 (v13) (some 51) ?_
 refine lnow 4 (.bool b2) (some 52) ?_
 refine lnow 5 (v13) (some 13) ?_
 refine lnow 6 (.bool b2) (some 14) ?_
 refine ldn 7 ?_
 generalize hact : Act.put _ (some 14) _ = act
 simp only [Act.put, sA, sC, sZ] at hact
 subst hact
 go_upto_region 9 with (fail)
 refine lbeg (opsOf Try.f3 9) ?_
 refine lnow 0 (.slice la L lc) (some 54) ?_
 have CALL := Library_walk ds _ w8 DL.out BIG.out (by rw [hL.out]; exact LN.out)
 rw [hb3.out] at CALL
 refine lcal 1 14 #[.slice la L lc] (some 55) _ (CALL) ?_
 rintro e w9 ⟨v15, rfl, hr, hb⟩
 refine ⟨_, rfl, ?_⟩
 have R15 := Lib.hid hr
 clear hr CALL
 have BQ := Lib.hid (BQ.out.below hb BQ.out.lt)
 have TX := Lib.hid (TX.out.below hb)
 have DL := Lib.hid (DL.out.below hb)
 have R7 := Lib.hid (R7.out.below hb)
 have R9 := Lib.hid (R9.out.below hb)
 have R11 := Lib.hid (R11.out.below hb)
 have R13 := Lib.hid (R13.out.below hb)
 have BE := Lib.hid (BE.out.trans (hb.mono BE.out.size))
 clear hb
 refine lnow 2 (.tuple #[v15, .bool b3]) (some 53) ?_
 refine lnow 3 (v15) (some 56) ?_
 refine lnow 4 (.bool b3) (some 57) ?_
 refine lnow 5 (v15) (some 15) ?_
 refine lnow 6 (.bool b3) (some 16) ?_
 refine ldn 7 ?_
 generalize hact : Act.put _ (some 16) _ = act
 simp only [Act.put, sA, sC, sZ] at hact
 subst hact
 go_upto_region 10 with (fail)
 refine lbeg (opsOf Try.f3 10) ?_
 refine lnow 0 (.slice la L lc) (some 59) ?_
 have CALL := rLibrary_walk ds _ w9 DL.out SD.out (by rw [hL.out]; exact LN.out)
 rw [hb3.out] at CALL
 refine lcal 1 15 #[.slice la L lc] (some 60) _ (CALL) ?_
 rintro e w10 ⟨v17, rfl, hr, hb⟩
 refine ⟨_, rfl, ?_⟩
 have R17 := Lib.hid hr
 clear hr CALL
 have BQ := Lib.hid (BQ.out.below hb BQ.out.lt)
 have TX := Lib.hid (TX.out.below hb)
 have DL := Lib.hid (DL.out.below hb)
 have R7 := Lib.hid (R7.out.below hb)
 have R9 := Lib.hid (R9.out.below hb)
 have R11 := Lib.hid (R11.out.below hb)
 have R13 := Lib.hid (R13.out.below hb)
 have R15 := Lib.hid (R15.out.below hb)
 have BE := Lib.hid (BE.out.trans (hb.mono BE.out.size))
 clear hb
 refine lnow 2 (.tuple #[v17, .bool b3]) (some 58) ?_
 refine lnow 3 (v17) (some 61) ?_
 refine lnow 4 (.bool b3) (some 62) ?_
 refine lnow 5 (v17) (some 17) ?_
 refine lnow 6 (.bool b3) (some 18) ?_
 refine ldn 7 ?_
 generalize hact : Act.put _ (some 18) _ = act
 simp only [Act.put, sA, sC, sZ] at hact
 subst hact
 go_upto_region 11 with (fail)
 refine lbeg (opsOf Try.f3 11) ?_
 refine lnow 0 (v7) (some 63) ?_
 refine lnow 1 (v9) (some 64) ?_
 refine lcal 2 16 #[v7, v9] (some 65) _ (same_rows R7.out R9.out (numV_small n)) ?_
 rintro e w11 ⟨rfl, hb⟩
 refine ⟨_, rfl, ?_⟩
 have BQ := Lib.hid (BQ.out.below hb BQ.out.lt)
 have TX := Lib.hid (TX.out.below hb)
 have DL := Lib.hid (DL.out.below hb)
 have R7 := Lib.hid (R7.out.below hb)
 have R9 := Lib.hid (R9.out.below hb)
 have R11 := Lib.hid (R11.out.below hb)
 have R13 := Lib.hid (R13.out.below hb)
 have R15 := Lib.hid (R15.out.below hb)
 have R17 := Lib.hid (R17.out.below hb)
 have BE := Lib.hid (BE.out.trans (hb.mono BE.out.size))
 clear hb
 refine lnow 3 (.bool false) (some 66) ?_
 refine lnow 4 (.bool false) (some 67) ?_
 refine lnow 5 (.bool b1) (some 68) ?_
 refine lnow 6 (.bool b1) (some 69) ?_
 refine lnow 7 (.bool (!(b1 == b1))) (some 70) ?_
 rw [show (!(b1 == b1)) = false by simp]
 refine lnow 8 (.bool false) (some 71) ?_
 refine lnow 9 (.bool false) (some 72) ?_
 refine lnow 10 (v11) (some 73) ?_
 refine lnow 11 (v13) (some 74) ?_
 refine lcal 12 16 #[v11, v13] (some 75) _ (same_rows R11.out R13.out (termV_small LVT.out)) ?_
 rintro e w12 ⟨rfl, hb⟩
 refine ⟨_, rfl, ?_⟩
 have BQ := Lib.hid (BQ.out.below hb BQ.out.lt)
 have TX := Lib.hid (TX.out.below hb)
 have DL := Lib.hid (DL.out.below hb)
 have R7 := Lib.hid (R7.out.below hb)
 have R9 := Lib.hid (R9.out.below hb)
 have R11 := Lib.hid (R11.out.below hb)
 have R13 := Lib.hid (R13.out.below hb)
 have R15 := Lib.hid (R15.out.below hb)
 have R17 := Lib.hid (R17.out.below hb)
 have BE := Lib.hid (BE.out.trans (hb.mono BE.out.size))
 clear hb
 refine lnow 13 (.bool false) (some 76) ?_
 refine lnow 14 (.bool false) (some 77) ?_
 refine lnow 15 (.bool false) (some 78) ?_
 refine lnow 16 (.bool b2) (some 79) ?_
 refine lnow 17 (.bool b2) (some 80) ?_
 refine lnow 18 (.bool (!(b2 == b2))) (some 81) ?_
 rw [show (!(b2 == b2)) = false by simp]
 refine lnow 19 (.bool false) (some 82) ?_
 refine lnow 20 (.bool false) (some 83) ?_
 refine lnow 21 (v15) (some 84) ?_
 refine lnow 22 (v17) (some 85) ?_
 refine lcal 23 16 #[v15, v17] (some 86) _ (same_rows R15.out R17.out (libV_small LVS.out)) ?_
 rintro e w13 ⟨rfl, hb⟩
 refine ⟨_, rfl, ?_⟩
 have BQ := Lib.hid (BQ.out.below hb BQ.out.lt)
 have TX := Lib.hid (TX.out.below hb)
 have DL := Lib.hid (DL.out.below hb)
 have R7 := Lib.hid (R7.out.below hb)
 have R9 := Lib.hid (R9.out.below hb)
 have R11 := Lib.hid (R11.out.below hb)
 have R13 := Lib.hid (R13.out.below hb)
 have R15 := Lib.hid (R15.out.below hb)
 have R17 := Lib.hid (R17.out.below hb)
 have BE := Lib.hid (BE.out.trans (hb.mono BE.out.size))
 clear hb
 refine lnow 24 (.bool false) (some 87) ?_
 refine lnow 25 (.bool false) (some 88) ?_
 refine lnow 26 (.bool false) (some 89) ?_
 refine lnow 27 (.bool b3) (some 90) ?_
 refine lnow 28 (.bool b3) (some 91) ?_
 refine lnow 29 (.bool (!(b3 == b3))) (some 92) ?_
 rw [show (!(b3 == b3)) = false by simp]
 refine lnow 30 (.bool false) (some 93) ?_
 refine ldn 31 ?_
 generalize hact : Act.put _ (some 93) _ = act
 simp only [Act.put, sA, sC, sZ] at hact
 subst hact
 go_upto_region 13 with (fail)
 refine lbeg (opsOf Try.f3 13) ?_
 refine lnow 0 (.int .i64 0) (some 19) ?_
 refine ldn 1 ?_
 generalize hact : Act.put _ (some 19) _ = act
 simp only [Act.put, sA, sC, sZ] at hact
 subst hact
 clear R7 R9 R11 R13 R15 R17 TX BQ
 obtain ⟨wo, hwo⟩ : ∃ y, Hid (w13 = y) := ⟨_, rfl⟩
 rw [hwo.out] at DL BE ⊢
 clear hwo
 go_wp2
 go_loopw [19] (fun iv wr => ∃ i : Nat, i ≤ L ∧ iv = .int .i64 (i : Int) ∧ Hid (DcsAt G wr ds (.slice la L lc)) ∧ Hid (Below w.heap.size w wr)) (fun iv _ => L - (intOf iv).toNat)
 case atStart => exact ⟨0, Nat.zero_le _, rfl, DL, BE⟩
 case round =>
  clear DL BE
  obtain ⟨i, hi, rfl, DL, BE⟩ := hrel
  have l70 := L70.out
  by_cases hlt : i < L
  rotate_left
  ·skip
   go_upto_region 14 with (fail)
   refine lbeg (opsOf Try.f3 14) ?_
   refine lnow 0 (.int .i64 (i : Int)) (some 94) ?_
   refine lnow 1 (.slice la L lc) (some 95) ?_
   refine lnow 2 (.int .i64 (L : Int)) (some 96) ?_
   refine lnow 3 (.bool (decide ((i : Int) < (L : Int)))) (some 97) ?_
   rw [decide_eq_false (show ¬ (i : Int) < (L : Int) by omega)]
   refine ldn 4 ?_
   generalize hact : Act.put _ (some 97) _ = act
   simp only [Act.put, sA, sC, sZ] at hact
   subst hact
   go_upto_region 21 with (fail)
   refine lbeg (opsOf Try.f3 21) ?_
   refine lnow 0 (.bool true) (some 6) ?_
   refine ldn 1 ?_
   generalize hact : Act.put _ (some 6) _ = act
   simp only [Act.put, sA, sC, sZ] at hact
   subst hact
   go_wp2
   go_ret
   exact ⟨rfl, BE.out⟩
  go_upto_region 14 with (fail)
  refine lbeg (opsOf Try.f3 14) ?_
  refine lnow 0 (.int .i64 (i : Int)) (some 94) ?_
  refine lnow 1 (.slice la L lc) (some 95) ?_
  refine lnow 2 (.int .i64 (L : Int)) (some 96) ?_
  refine lnow 3 (.bool (decide ((i : Int) < (L : Int)))) (some 97) ?_
  rw [decide_eq_true (show (i : Int) < (L : Int) by omega)]
  refine ldn 4 ?_
  generalize hact : Act.put _ (some 97) _ = act
  simp only [Act.put, sA, sC, sZ] at hact
  subst hact
  obtain ⟨d, pb, po, dcs, hx, hxm, hda, -, hpb, hrx, hdx⟩ := DL.out.get hL.out hlt
  subst hda
  have C15 := Lib.hid hdx.len
  have SX := Lib.hid (SD.out d hxm)
  have BX := Lib.hid (BIG.out d hxm).2
  have RX := Lib.hid hrx
  have PB := Lib.hid hpb
  have DX := Lib.hid hdx
  clear hx hxm hrx hdx hpb
  obtain ⟨b4, hb4⟩ : ∃ b, Hid (formB d = b) := ⟨_, rfl⟩
  go_upto_region 16 with (fail)
  refine lbeg (opsOf Try.f3 16) ?_
  refine lnow 0 (.slice (some ⟨pb, po, none⟩) L lc) (some 100) ?_
  refine lnow 1 (.int .i64 (i : Int)) (some 101) ?_
  refine lix 2 (.pointer (some ⟨pb, po + 15 * i, none⟩)) (some 102) 26 100 101 (run_at_dc pb po L lc i hlt _) ?_
  refine lrl 3 dcs (some 103) 38 102 pb (po + 15 * i) RX.out Try.underlying38 (dcSize C15.out) ?_
  refine lcal 4 17 #[.agg dcs.toArray] (some 104) _ (copydecl_walk d dcs wr DX.out SX.out) ?_
  rintro e u1 ⟨ks, rfl, hk, hb⟩
  refine ⟨_, rfl, ?_⟩
  have RX := Lib.hid (rangeBelow hb PB.out RX.out)
  have PB : Hid (pb < u1.heap.size) := Nat.lt_of_lt_of_le PB.out hb.size
  have DL := Lib.hid (DL.out.below hb)
  have DX := Lib.hid (DX.out.below hb)
  have BE := Lib.hid (BE.out.trans (hb.mono BE.out.size))
  clear hb
  obtain ⟨z, hz⟩ : ∃ z, Hid (u1.heap.size = z) := ⟨_, rfl⟩
  have K15 := Lib.hid hk.len
  have KONE := Lib.hid hk.one
  have KX : Hid (DcAt [] u1 d ks) := hk.sub (fun k hk => by cases hk)
  clear hk
  refine lin_alloc 5 38 zD z (some 20) (by kernel_rfl) (by kernel_rfl) (by kernel_rfl) zeroDc hz ?_
  intro u2 b2 be2 hs2
  refine lput 6 38 (.tmp 20) (.tmp 104) z _ zD ks b2 (K15.out.trans (rfl : 15 = zD.length)) (dcSize K15.out) (by simpa using KONE.out) ?_
  intro u3 b3 u3'
  refine ldn 7 ?_
  generalize hact : Act.put _ none _ = act
  simp only [Act.put, sA, sC, sZ] at hact
  subst hact
  have hb : Below u1.heap.size u1 u3 := by rw [hz.out]; exact u3'.below be2 (Nat.le_refl _) (by have := hs2.out; omega)
  have BZ := Lib.hid b3
  clear b2 be2 hs2 b3 u3' hz
  have RX := Lib.hid (rangeBelow hb PB.out RX.out)
  have PB : Hid (pb < u3.heap.size) := Nat.lt_of_lt_of_le PB.out hb.size
  have DL := Lib.hid (DL.out.below hb)
  have DX := Lib.hid (DX.out.below hb)
  have KX := Lib.hid (KX.out.below hb)
  have BE := Lib.hid (BE.out.trans (hb.mono BE.out.size))
  clear hb
  go_upto_region 17 with (fail)
  refine lbeg (opsOf Try.f3 17) ?_
  refine lrl 0 ks (some 106) 38 20 z 0 BZ.out.whole Try.underlying38 (dcSize K15.out) ?_
  have CALL := Decl_walk d ks u3 KX.out SX.out BX.out
  rw [hb4.out] at CALL
  refine lcal 1 18 #[.agg ks.toArray] (some 107) _ (CALL) ?_
  rintro e u4 ⟨v21, rfl, hr, hb⟩
  refine ⟨_, rfl, ?_⟩
  have R21 := Lib.hid hr
  clear hr CALL
  have RX := Lib.hid (rangeBelow hb PB.out RX.out)
  have PB : Hid (pb < u4.heap.size) := Nat.lt_of_lt_of_le PB.out hb.size
  have DL := Lib.hid (DL.out.below hb)
  have DX := Lib.hid (DX.out.below hb)
  have KX := Lib.hid (KX.out.below hb)
  have BZ := Lib.hid (BZ.out.below hb BZ.out.lt)
  have BE := Lib.hid (BE.out.trans (hb.mono BE.out.size))
  clear hb
  refine lnow 2 (.tuple #[v21, .bool b4]) (some 105) ?_
  refine lnow 3 (v21) (some 108) ?_
  refine lnow 4 (.bool b4) (some 109) ?_
  refine lnow 5 (v21) (some 21) ?_
  refine lnow 6 (.bool b4) (some 22) ?_
  refine ldn 7 ?_
  generalize hact : Act.put _ (some 22) _ = act
  simp only [Act.put, sA, sC, sZ] at hact
  subst hact
  go_upto_region 18 with (fail)
  refine lbeg (opsOf Try.f3 18) ?_
  refine lnow 0 (.slice (some ⟨pb, po, none⟩) L lc) (some 111) ?_
  refine lnow 1 (.int .i64 (i : Int)) (some 112) ?_
  refine lix 2 (.pointer (some ⟨pb, po + 15 * i, none⟩)) (some 113) 26 111 112 (run_at_dc pb po L lc i hlt _) ?_
  refine lrl 3 dcs (some 114) 38 113 pb (po + 15 * i) RX.out Try.underlying38 (dcSize C15.out) ?_
  have CALL := rDecl_walk d dcs u4 DX.out SX.out
  rw [hb4.out] at CALL
  refine lcal 4 19 #[.agg dcs.toArray] (some 115) _ (CALL) ?_
  rintro e u5 ⟨v23, rfl, hr, hb⟩
  refine ⟨_, rfl, ?_⟩
  have R23 := Lib.hid hr
  clear hr CALL
  have RX := Lib.hid (rangeBelow hb PB.out RX.out)
  have PB : Hid (pb < u5.heap.size) := Nat.lt_of_lt_of_le PB.out hb.size
  have DL := Lib.hid (DL.out.below hb)
  have DX := Lib.hid (DX.out.below hb)
  have KX := Lib.hid (KX.out.below hb)
  have BZ := Lib.hid (BZ.out.below hb BZ.out.lt)
  have R21 := Lib.hid (R21.out.below hb)
  have BE := Lib.hid (BE.out.trans (hb.mono BE.out.size))
  clear hb
  refine lnow 5 (.tuple #[v23, .bool b4]) (some 110) ?_
  refine lnow 6 (v23) (some 116) ?_
  refine lnow 7 (.bool b4) (some 117) ?_
  refine lnow 8 (v23) (some 23) ?_
  refine lnow 9 (.bool b4) (some 24) ?_
  refine ldn 10 ?_
  generalize hact : Act.put _ (some 24) _ = act
  simp only [Act.put, sA, sC, sZ] at hact
  subst hact
  go_upto_region 19 with (fail)
  refine region_begin (opsOf Try.f3 19) (fun W' => Below u5.heap.size u5 W') (by kernel_rfl) (by kernel_rfl) 28 (by kernel_rfl) ?_
  intro Q' hQN hN
  have HS : Below u5.heap.size u5 u5.drew := (Below.refl _ _).drew
  generalize u5.drew = x0 at HS ⊢
  refine reg_now 0 (.bool b4) (some 118) hQN HS (by kernel_rfl) (by kernel_rfl) (fun w => by kernel_rfl) ?_
  refine reg_now 1 (.bool b4) (some 119) hQN HS (by kernel_rfl) (by kernel_rfl) (fun w => by kernel_rfl) ?_
  refine reg_now 2 (.bool (!(b4 == b4))) (some 120) hQN HS (by kernel_rfl) (by kernel_rfl) (fun w => by kernel_rfl) ?_
  rw [show (!(b4 == b4)) = false by simp]
  refine reg_now 3 (.bool false) (some 121) hQN HS (by kernel_rfl) (by kernel_rfl) (fun w => by kernel_rfl) ?_
  refine reg_now 4 (v21) (some 122) hQN HS (by kernel_rfl) (by kernel_rfl) (fun w => by kernel_rfl) ?_
  refine reg_now 5 (v23) (some 123) hQN HS (by kernel_rfl) (by kernel_rfl) (fun w => by kernel_rfl) ?_
  refine reg_call 6 16 #[v21, v23] (some 124) _ (by kernel_rfl) (by kernel_rfl) (by kernel_rfl) (same_rows (R21.out.below HS) (R23.out.below HS) (declV_small DX.out.lv)) ?_
  rintro e x1 ⟨rfl, hb⟩
  have HS2 : Below u5.heap.size u5 x1 := HS.trans (hb.mono HS.size)
  refine ⟨_, rfl, HS2, ?_⟩
  have HS := HS2
  clear hb HS2
  refine reg_now 7 (.bool false) (some 125) hQN HS (by kernel_rfl) (by kernel_rfl) (fun w => by kernel_rfl) ?_
  refine reg_now 8 (.bool false) (some 126) hQN HS (by kernel_rfl) (by kernel_rfl) (fun w => by kernel_rfl) ?_
  refine reg_now 9 (.bool false) (some 127) hQN HS (by kernel_rfl) (by kernel_rfl) (fun w => by kernel_rfl) ?_
  refine reg_nowIf 10 (.agg ks.toArray) (some 128) hQN HS (by kernel_rfl) (by kernel_rfl) (fun w' hw => exec_load_mid 38 (.tmp 20) (by kernel_rfl) z 0 (by kernel_rfl) ks _ (BZ.out.below hw BZ.out.lt).whole Try.underlying38 rfl (dcSize K15.out)) ?_
  refine reg_now 12 (.slice (some ⟨pb, po, none⟩) L lc) (some 130) hQN HS (by kernel_rfl) (by kernel_rfl) (fun w => by kernel_rfl) ?_
  refine reg_now 13 (.int .i64 (i : Int)) (some 131) hQN HS (by kernel_rfl) (by kernel_rfl) (fun w => by kernel_rfl) ?_
  refine reg_now 14 (.pointer (some ⟨pb, po + 15 * i, none⟩)) (some 132) hQN HS (by kernel_rfl) (by kernel_rfl) (fun w' => exec_indexAt 26 (.tmp 130) (.tmp 131) (by kernel_rfl) _ _ _ (by kernel_rfl) (by kernel_rfl) (run_at_dc pb po L lc i hlt w')) ?_
  refine reg_nowIf 15 (.agg dcs.toArray) (some 133) hQN HS (by kernel_rfl) (by kernel_rfl) (fun w' hw => exec_load_mid 38 (.tmp 132) (by kernel_rfl) pb (po + 15 * i) (by kernel_rfl) dcs _ (rangeBelow hw PB.out RX.out) Try.underlying38 rfl (dcSize C15.out)) ?_
  have CALL := Formed_walk d ks x1 (KX.out.below HS) SX.out BX.out
  rw [hb4.out] at CALL
  refine reg_call 11 20 #[.agg ks.toArray] (some 129) _ (by kernel_rfl) (by kernel_rfl) (by kernel_rfl) (CALL) ?_
  rintro e x2 ⟨rfl, hb⟩
  have HS2 : Below u5.heap.size u5 x2 := HS.trans (hb.mono HS.size)
  refine ⟨_, rfl, HS2, ?_⟩
  have HS := HS2
  clear hb HS2
  clear CALL
  have CALL := rFormed_walk d dcs x2 (DX.out.below HS) SX.out
  rw [hb4.out] at CALL
  refine reg_call 16 21 #[.agg dcs.toArray] (some 134) _ (by kernel_rfl) (by kernel_rfl) (by kernel_rfl) (CALL) ?_
  rintro e x3 ⟨rfl, hb⟩
  have HS2 : Below u5.heap.size u5 x3 := HS.trans (hb.mono HS.size)
  refine ⟨_, rfl, HS2, ?_⟩
  have HS := HS2
  clear hb HS2
  clear CALL
  refine reg_now 17 (.bool (!(b4 == b4))) (some 135) hQN HS (by kernel_rfl) (by kernel_rfl) (fun w => by kernel_rfl) ?_
  rw [show (!(b4 == b4)) = false by simp]
  refine reg_now 18 (.bool false) (some 136) hQN HS (by kernel_rfl) (by kernel_rfl) (fun w => by kernel_rfl) ?_
  refine reg_now 19 (.bool false) (some 137) hQN HS (by kernel_rfl) (by kernel_rfl) (fun w => by kernel_rfl) ?_
  refine reg_nowIf 20 (.agg ks.toArray) (some 138) hQN HS (by kernel_rfl) (by kernel_rfl) (fun w' hw => exec_load_mid 38 (.tmp 20) (by kernel_rfl) z 0 (by kernel_rfl) ks _ (BZ.out.below hw BZ.out.lt).whole Try.underlying38 rfl (dcSize K15.out)) ?_
  refine reg_now 21 (.slice (some ⟨pb, po, none⟩) L lc) (some 139) hQN HS (by kernel_rfl) (by kernel_rfl) (fun w => by kernel_rfl) ?_
  refine reg_now 22 (.int .i64 (i : Int)) (some 140) hQN HS (by kernel_rfl) (by kernel_rfl) (fun w => by kernel_rfl) ?_
  refine reg_now 23 (.pointer (some ⟨pb, po + 15 * i, none⟩)) (some 141) hQN HS (by kernel_rfl) (by kernel_rfl) (fun w' => exec_indexAt 26 (.tmp 139) (.tmp 140) (by kernel_rfl) _ _ _ (by kernel_rfl) (by kernel_rfl) (run_at_dc pb po L lc i hlt w')) ?_
  refine reg_nowIf 24 (.agg dcs.toArray) (some 142) hQN HS (by kernel_rfl) (by kernel_rfl) (fun w' hw => exec_load_mid 38 (.tmp 141) (by kernel_rfl) pb (po + 15 * i) (by kernel_rfl) dcs _ (rangeBelow hw PB.out RX.out) Try.underlying38 rfl (dcSize C15.out)) ?_
  refine reg_call 25 22 #[.agg ks.toArray, .agg dcs.toArray] (some 143) _ (by kernel_rfl) (by kernel_rfl) (by kernel_rfl) (samedecl_same d ks dcs x3 _ _ (KX.out.below HS) (DX.out.below HS) SX.out) ?_
  rintro e x4 ⟨rfl, hb⟩
  have HS2 : Below u5.heap.size u5 x4 := HS.trans (hb.mono HS.size)
  refine ⟨_, rfl, HS2, ?_⟩
  have HS := HS2
  clear hb HS2
  refine reg_now 26 (.bool false) (some 144) hQN HS (by kernel_rfl) (by kernel_rfl) (fun w => by kernel_rfl) ?_
  refine reg_now 27 (.bool false) (some 145) hQN HS (by kernel_rfl) (by kernel_rfl) (fun w => by kernel_rfl) ?_
  have DL4 := Lib.hid (DL.out.below HS)
  have BE4 : Hid (Below w.heap.size w x4) := BE.out.trans (HS.mono BE.out.size)
  clear DL BE DX KX RX BZ R21 R23
  refine reg_done (by kernel_rfl) (hN _ _ ?_)
  generalize hact : Act.put _ (some 145) _ = act
  simp only [Act.put, sA, sC, sZ] at hact
  subst hact
  clear HS hQN hN
  go_wp2
  go_roundw
  case rel => exact ⟨i + 1, by omega, by go_num, DL4, BE4⟩
  case measure => simp [intOf]; omega
end Go.Proofs.Yteohjbggicchgaa
