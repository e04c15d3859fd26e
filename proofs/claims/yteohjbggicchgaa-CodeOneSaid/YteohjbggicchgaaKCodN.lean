/- The document's Formed. -/
import Derived.Test.YteohjbggicchgaaKGenT
import Derived.Test.YteohjbggicchgaaKCodM
import Derived.Test.YteohjbggicchgaaKTrmRw
namespace Go.Proofs.Yteohjbggicchgaa
open Go Go.RowKit
set_option maxRecDepth 100000
def preR (d : Dc) : Bool := ((decide (1 ≤ d.kind) && decide (d.kind ≤ 4)) && wordB d.name) && rightP d.params 0 d.ty
noncomputable def valR (d : Dc) : Bool := if valD d then rightP d.params 0 d.val else eqT d.val nT
noncomputable def formR (d : Dc) : Bool := preR d && valR d && (if d.kind = 4 then famB d else noFam d)
theorem formR_eq (d : Dc) : formR d = formB d := by
 unfold formR preR valR formB
 by_cases k1 : d.kind = 1
 ·rw [if_neg (show ¬ valD d by unfold valD; omega), if_neg (show ¬ d.kind = 4 by omega), if_pos k1, decide_eq_true (show 1 ≤ d.kind by omega), decide_eq_true (show d.kind ≤ 4 by omega)]
  simp [Bool.and_assoc]
 ·by_cases k2 : d.kind = 2 ∨ d.kind = 3
  ·rw [if_pos (show valD d from k2), if_neg (show ¬ d.kind = 4 by omega), if_neg k1, if_pos k2, decide_eq_true (show 1 ≤ d.kind by omega), decide_eq_true (show d.kind ≤ 4 by omega)]
   simp [Bool.and_assoc]
  ·by_cases k4 : d.kind = 4
   ·rw [if_neg (show ¬ valD d from k2), if_pos k4, if_neg k1, if_neg k2, if_pos k4, decide_eq_true (show 1 ≤ d.kind by omega), decide_eq_true (show d.kind ≤ 4 by omega)]
    simp [Bool.and_assoc]
   ·rw [if_neg k1, if_neg k2, if_neg k4]
    have : (decide (1 ≤ d.kind) && decide (d.kind ≤ 4)) = false := by
     by_cases h : 1 ≤ d.kind
     ·rw [decide_eq_false (show ¬ d.kind ≤ 4 by omega), Bool.and_false]
     ·rw [decide_eq_false h, Bool.false_and]
    simp [this, k4]
set_option maxHeartbeats 8000000 in
theorem rFormed_walk {F : List Nat} (d : Dc) (cs : List Value) (w : World) (hd : DcAt F w d cs) (hs : SmD d) : Calls Try.prog 21 #[.agg cs.toArray] w fun e w' => e = .returned (.bool (formB d)) ∧ Below w.heap.size w w' := by
 obtain ⟨tc, vc, cv, hform, hty, hval, hcts⟩ := id hd
 obtain ⟨ca, cc, rfl⟩ := hcts.slice
 have C15 := Lib.hid hd.len
 have TC5 := Lib.hid hform.t5
 have VC5 := Lib.hid hform.v5
 have FM := Lib.hid hform
 have SD := Lib.hid hs
 have DD := Lib.hid hd
 have CT := Lib.hid hcts
 have HTY := Lib.hid hty
 have HVAL := Lib.hid hval
 obtain ⟨M, hM⟩ : ∃ M, Hid (d.ctors.length = M) := ⟨_, rfl⟩
 rw [hM.out] at CT FM
 obtain ⟨q, hq⟩ : ∃ q, Hid (w.heap.size = q) := ⟨_, rfl⟩
 clear hform hty hval hcts hs hd
 rw [← formR_eq]
 obtain ⟨B, hB⟩ : ∃ b, Hid (formR d = b) := ⟨_, rfl⟩
 rw [hB.out]
 go_enter Try.func21, Try.ntmps21
 go_upto_region 0 with (fail)
 refine lbeg (opsOf Try.f21 0) ?_
 refine lbox 0 38 (.tmp 0) (cs) (q) (some 1) hq ?_
 intro w1 bw1 bew1 hsw1
 refine lnow 1 (.bool false) (some 2) ?_
 refine ldn 2 ?_
 generalize hact : Act.put _ (some 2) _ = act
 simp only [Act.put, sA, sC, sZ] at hact
 subst hact
 have BQ := Lib.hid bw1
 have BE : Hid (Below w.heap.size w w1) := by rw [Hid, hq.out]; exact bew1
 have S1 : Hid (q < w1.heap.size) := by have := hsw1.out; rw [Hid]; omega
 have FM := FM.out
 have k0 := FM.k BQ.out
 have k1 := FM.p BQ.out
 have k2 := FM.n BQ.out
 have kf := FM.f BQ.out
 have kc := FM.c BQ.out
 have kt := FM.tr BQ.out
 have kv := FM.vr BQ.out
 have HTY1 := Lib.hid (HTY.out.below BE.out)
 have HVAL1 := Lib.hid (HVAL.out.below BE.out)
 have CT1 := Lib.hid (CT.out.below BE.out)
 clear bw1 bew1 hsw1 HTY HVAL CT
 go_upto_region 1 with (fail)
 go_cut [27] from 6 (fun sv wc => sv = .bool (!preR d) ∧ Hid (Below w1.heap.size w1 wc))
 case first =>
  refine lbeg (opsOf Try.f21 1) ?_
  refine lnow 0 (.pointer (some ⟨q, 0, none⟩)) (some 6) ?_
  refine lcl 1 (.int .i64 d.kind) (some 7) 3 6 q 0 (k0) Try.underlying3 ?_
  by_cases h1 : d.kind < 1
  ·skip
   refine lnow 2 (.bool (decide (d.kind < 1))) (some 8) ?_
   rw [show decide (d.kind < 1) = true from decide_eq_true h1]
   refine lnow 3 (.bool true) (some 9) ?_
   refine lpas 4 (some 10) ?_
   refine lpas 5 (some 11) ?_
   refine lpas 6 (some 12) ?_
   refine lnow 7 (.bool true) (some 13) ?_
   refine lnow 8 (.bool true) (some 14) ?_
   refine lpas 9 (some 15) ?_
   refine lpas 10 (some 16) ?_
   refine lpas 11 (some 17) ?_
   refine lpas 12 (some 18) ?_
   refine lnow 13 (.bool true) (some 19) ?_
   refine lnow 14 (.bool true) (some 20) ?_
   refine lpas 15 (some 21) ?_
   refine lpas 16 (some 22) ?_
   refine lpas 17 (some 23) ?_
   refine lpas 18 (some 24) ?_
   refine lpas 19 (some 25) ?_
   refine lpas 20 (some 26) ?_
   refine lnow 21 (.bool true) (some 27) ?_
   refine ldn 22 ?_
   generalize hact : Act.put _ (some 27) _ = act
   simp only [Act.put, sA, sC, sZ] at hact
   subst hact
   go_wp2
   go_meet
   case rel => exact ⟨by rw [preR, decide_eq_false (show ¬ 1 ≤ d.kind by omega), Bool.false_and, Bool.false_and, Bool.false_and, Bool.not_false], Below.refl _ _⟩
  refine lnow 2 (.bool (decide (d.kind < 1))) (some 8) ?_
  rw [show decide (d.kind < 1) = false from decide_eq_false h1]
  refine lnow 3 (.bool false) (some 9) ?_
  refine lnow 4 (.pointer (some ⟨q, 0, none⟩)) (some 10) ?_
  refine lcl 5 (.int .i64 d.kind) (some 11) 3 10 q 0 (k0) Try.underlying3 ?_
  by_cases h2 : d.kind > 4
  ·skip
   refine lnow 6 (.bool (decide (d.kind > 4))) (some 12) ?_
   rw [show decide (d.kind > 4) = true from decide_eq_true h2]
   refine lnow 7 (.bool true) (some 13) ?_
   refine lnow 8 (.bool true) (some 14) ?_
   refine lpas 9 (some 15) ?_
   refine lpas 10 (some 16) ?_
   refine lpas 11 (some 17) ?_
   refine lpas 12 (some 18) ?_
   refine lnow 13 (.bool true) (some 19) ?_
   refine lnow 14 (.bool true) (some 20) ?_
   refine lpas 15 (some 21) ?_
   refine lpas 16 (some 22) ?_
   refine lpas 17 (some 23) ?_
   refine lpas 18 (some 24) ?_
   refine lpas 19 (some 25) ?_
   refine lpas 20 (some 26) ?_
   refine lnow 21 (.bool true) (some 27) ?_
   refine ldn 22 ?_
   generalize hact : Act.put _ (some 27) _ = act
   simp only [Act.put, sA, sC, sZ] at hact
   subst hact
   go_wp2
   go_meet
   case rel => exact ⟨by rw [preR, decide_eq_false (show ¬ d.kind ≤ 4 by omega), Bool.and_false, Bool.false_and, Bool.false_and, Bool.not_false], Below.refl _ _⟩
  have PK : Hid ((decide (1 ≤ d.kind) && decide (d.kind ≤ 4)) = true) := by rw [Hid, decide_eq_true (show 1 ≤ d.kind by omega), decide_eq_true (show d.kind ≤ 4 by omega)]; rfl
  refine lnow 6 (.bool (decide (d.kind > 4))) (some 12) ?_
  rw [show decide (d.kind > 4) = false from decide_eq_false h2]
  refine lnow 7 (.bool false) (some 13) ?_
  refine lnow 8 (.bool false) (some 14) ?_
  refine lnow 9 (.pointer (some ⟨q, 2, none⟩)) (some 15) ?_
  refine lcl 10 (strT d.name) (some 16) 9 15 q 2 (k2) Try.underlying9 ?_
  refine lcal 11 46 #[strT d.name] (some 17) _ (rword_walk d.name SD.out.name w1) ?_
  rintro e w5 ⟨rfl, b5⟩
  obtain ⟨bw, hbw⟩ : ∃ b, Hid (wordB d.name = b) := ⟨_, rfl⟩
  rw [hbw.out]
  refine ⟨_, rfl, ?_⟩
  refine lnow 12 (.bool (!bw)) (some 18) ?_
  refine lnow 13 (.bool (!bw)) (some 19) ?_
  refine lnow 14 (.bool (!bw)) (some 20) ?_
  cases bw with
  | false =>
   refine lpas 15 (some 21) ?_
   refine lpas 16 (some 22) ?_
   refine lpas 17 (some 23) ?_
   refine lpas 18 (some 24) ?_
   refine lpas 19 (some 25) ?_
   refine lpas 20 (some 26) ?_
   refine lnow 21 (.bool true) (some 27) ?_
   refine ldn 22 ?_
   generalize hact : Act.put _ (some 27) _ = act
   simp only [Act.put, sA, sC, sZ] at hact
   subst hact
   go_wp2
   go_meet
   case rel => exact ⟨by rw [preR, PK.out, hbw.out, Bool.and_false, Bool.false_and, Bool.not_false], b5⟩
  | true =>
   have BQ5 := BQ.out.below b5 S1.out
   refine lnow 15 (.pointer (some ⟨q, 3, none⟩)) (some 21) ?_
   refine lrl 16 tc (some 22) 25 21 q 3 (FM.tr BQ5) Try.underlying25 (t5Size TC5.out) ?_
   refine lnow 17 (.pointer (some ⟨q, 1, none⟩)) (some 23) ?_
   refine lcl 18 (.int .i64 d.params) (some 24) 3 23 q 1 (FM.p BQ5) Try.underlying3 ?_
   refine lcal 19 47 #[.agg tc.toArray, .int .i64 d.params, .int .i64 0] (some 25) _ (rR_walk d.ty tc w5 d.params 0 (HTY1.out.below b5) SD.out.ty) ?_
   rintro e w6 ⟨rfl, b6⟩
   obtain ⟨br, hbr⟩ : ∃ b, Hid (rightP d.params 0 d.ty = b) := ⟨_, rfl⟩
   rw [hbr.out]
   refine ⟨_, rfl, ?_⟩
   refine lnow 20 (.bool (!br)) (some 26) ?_
   refine lnow 21 (.bool (!br)) (some 27) ?_
   refine ldn 22 ?_
   generalize hact : Act.put _ (some 27) _ = act
   simp only [Act.put, sA, sC, sZ] at hact
   subst hact
   go_wp2
   go_meet
   case rel => exact ⟨by rw [preR, PK.out, hbw.out, hbr.out, Bool.true_and, Bool.true_and], b5.trans (b6.mono b5.size)⟩
 clear k0 k1 k2 kf kc kt kv
 obtain ⟨rfl, BW⟩ := hcut
 obtain ⟨w7, hw7⟩ : ∃ y, y = wc := ⟨_, rfl⟩
 rw [← hw7] at BW ⊢
 clear hw7
 obtain ⟨bp, hbp⟩ : ∃ b, Hid (preR d = b) := ⟨_, rfl⟩
 rw [hbp.out]
 cases bp with
 | false =>
  obtain rfl : B = false := by rw [← hB.out, formR, hbp.out]; rfl
  have FB := Lib.hid (BE.out.trans (BW.out.mono BE.out.size))
  go_wp2
  go_ret
  exact ⟨rfl, FB.out⟩
 | true =>
  have BQ7 : Blk w7 q 38 cs := BQ.out.below BW.out S1.out
  have kv := FM.vr BQ7
  go_upto_region 3 with (fail)
  refine lbeg (opsOf Try.f21 3) ?_
  refine lnow 0 (.pointer (some ⟨q, 8, none⟩)) (some 28) ?_
  refine lrl 1 vc (some 29) 25 28 q 8 (kv) Try.underlying25 (t5Size VC5.out) ?_
  refine lnow 2 (.agg z5T.toArray) (some 30) ?_
  refine lcal 3 26 #[.agg vc.toArray, .agg z5T.toArray] (some 31) _ (sameterm_walk d.val nT vc z5T w7 F [] (HVAL1.out.below (BW.out)) (nT_at _ _) SD.out.val) ?_
  rintro e w8 ⟨rfl, b8⟩
  obtain ⟨bn, hbn⟩ : ∃ b, Hid (eqT d.val nT = b) := ⟨_, rfl⟩
  rw [hbn.out]
  refine ⟨_, rfl, ?_⟩
  refine lnow 4 (.bool bn) (some 3) ?_
  refine ldn 5 ?_
  generalize hact : Act.put _ (some 3) _ = act
  simp only [Act.put, sA, sC, sZ] at hact
  subst hact
  clear kv BQ7
  have BW := Lib.hid (BW.out.trans (b8.mono BW.out.size))
  clear b8
  have BQ8 : Blk w8 q 38 cs := BQ.out.below BW.out S1.out
  have k0 := FM.k BQ8
  go_upto_region 4 with (fail)
  go_cut [4] from 28 (fun sv wc => sv = .bool (decide (valD d)) ∧ w8 = wc)
  case first =>
   by_cases ha : d.kind = 2
   ·skip
    refine lbeg (opsOf Try.f21 4) ?_
    refine lnow 0 (.pointer (some ⟨q, 0, none⟩)) (some 32) ?_
    refine lcl 1 (.int .i64 d.kind) (some 33) 3 32 q 0 (k0) Try.underlying3 ?_
    refine lnowP 2 (.bool true) (some 34) (exec_eqli_yes ha (by kernel_rfl)) ?_
    refine lnow 3 (.bool true) (some 35) ?_
    refine lpas 4 (some 36) ?_
    refine lpas 5 (some 37) ?_
    refine lpas 6 (some 38) ?_
    refine lnow 7 (.bool true) (some 39) ?_
    refine lnow 8 (.bool true) (some 4) ?_
    refine ldn 9 ?_
    generalize hact : Act.put _ (some 4) _ = act
    simp only [Act.put, sA, sC, sZ] at hact
    subst hact
    go_wp2
    go_meet
    case rel => exact ⟨by rw [decide_eq_true (show valD d from .inl ha)], rfl⟩
   refine lbeg (opsOf Try.f21 4) ?_
   refine lnow 0 (.pointer (some ⟨q, 0, none⟩)) (some 32) ?_
   refine lcl 1 (.int .i64 d.kind) (some 33) 3 32 q 0 (k0) Try.underlying3 ?_
   refine lnowP 2 (.bool false) (some 34) (exec_eqli ha (by kernel_rfl)) ?_
   refine lnow 3 (.bool false) (some 35) ?_
   refine lnow 4 (.pointer (some ⟨q, 0, none⟩)) (some 36) ?_
   refine lcl 5 (.int .i64 d.kind) (some 37) 3 36 q 0 (k0) Try.underlying3 ?_
   refine lnow 6 (.bool (decide (d.kind = 3))) (some 38) ?_
   refine lnow 7 (.bool (decide (d.kind = 3))) (some 39) ?_
   refine lnow 8 (.bool (decide (d.kind = 3))) (some 4) ?_
   refine ldn 9 ?_
   generalize hact : Act.put _ (some 4) _ = act
   simp only [Act.put, sA, sC, sZ] at hact
   subst hact
   go_wp2
   go_meet
   case rel => exact ⟨by by_cases h3 : d.kind = 3; rw [decide_eq_true h3, decide_eq_true (show valD d from .inr h3)]; rw [decide_eq_false h3, decide_eq_false (fun e : valD d => e.elim ha h3)], rfl⟩
  obtain ⟨rfl, rfl⟩ := hcut
  clear k0
  have k1 := FM.p BQ8
  have kv := FM.vr BQ8
  obtain ⟨bd, hbd⟩ : ∃ b, Hid (decide (valD d) = b) := ⟨_, rfl⟩
  rw [hbd.out]
  go_upto_region 5 with (fail)
  go_cut [56] from 28 (fun sv wc => sv = .bool (!valR d) ∧ Hid (Below w1.heap.size w1 wc))
  case first =>
   cases bd with
   | true =>
    have hv : valD d := of_decide_eq_true hbd.out
    refine lbeg (opsOf Try.f21 5) ?_
    refine lnow 0 (.bool true) (some 40) ?_
    refine lnow 1 (.bool true) (some 41) ?_
    refine lnow 2 (.pointer (some ⟨q, 8, none⟩)) (some 42) ?_
    refine lrl 3 vc (some 43) 25 42 q 8 (kv) Try.underlying25 (t5Size VC5.out) ?_
    refine lnow 4 (.pointer (some ⟨q, 1, none⟩)) (some 44) ?_
    refine lcl 5 (.int .i64 d.params) (some 45) 3 44 q 1 (k1) Try.underlying3 ?_
    refine lcal 6 47 #[.agg vc.toArray, .int .i64 d.params, .int .i64 0] (some 46) _ (rR_walk d.val vc w8 d.params 0 (HVAL1.out.below BW.out) SD.out.val) ?_
    rintro e w9 ⟨rfl, b9⟩
    obtain ⟨br, hbr⟩ : ∃ b, Hid (rightP d.params 0 d.val = b) := ⟨_, rfl⟩
    rw [hbr.out]
    refine ⟨_, rfl, ?_⟩
    have EV : Hid (valR d = br) := by rw [Hid, valR, if_pos hv, hbr.out]
    refine lnow 7 (.bool (!br)) (some 47) ?_
    refine lnow 8 (.bool (!br)) (some 48) ?_
    refine lnow 9 (.bool (!br)) (some 49) ?_
    cases br with
    | false =>
     refine lpas 10 (some 50) ?_
     refine lpas 11 (some 51) ?_
     refine lpas 12 (some 52) ?_
     refine lpas 13 (some 53) ?_
     refine lpas 14 (some 54) ?_
     refine lpas 15 (some 55) ?_
     refine lnow 16 (.bool true) (some 56) ?_
     refine ldn 17 ?_
     generalize hact : Act.put _ (some 56) _ = act
     simp only [Act.put, sA, sC, sZ] at hact
     subst hact
     go_wp2
     go_meet
     case rel => exact ⟨by rw [EV.out]; rfl, BW.out.trans (b9.mono BW.out.size)⟩
    | true =>
     refine lnow 10 (.bool true) (some 50) ?_
     refine lnow 11 (.bool false) (some 51) ?_
     refine lnow 12 (.bool false) (some 52) ?_
     refine lpas 13 (some 53) ?_
     refine lpas 14 (some 54) ?_
     refine lnow 15 (.bool false) (some 55) ?_
     refine lnow 16 (.bool false) (some 56) ?_
     refine ldn 17 ?_
     generalize hact : Act.put _ (some 56) _ = act
     simp only [Act.put, sA, sC, sZ] at hact
     subst hact
     go_wp2
     go_meet
     case rel => exact ⟨by rw [EV.out]; rfl, BW.out.trans (b9.mono BW.out.size)⟩
   | false =>
    have hv : ¬ valD d := of_decide_eq_false hbd.out
    refine lbeg (opsOf Try.f21 5) ?_
    have EV : Hid (valR d = bn) := by rw [Hid, valR, if_neg hv, hbn.out]
    refine lnow 0 (.bool false) (some 40) ?_
    refine lnow 1 (.bool false) (some 41) ?_
    refine lpas 2 (some 42) ?_
    refine lpas 3 (some 43) ?_
    refine lpas 4 (some 44) ?_
    refine lpas 5 (some 45) ?_
    refine lpas 6 (some 46) ?_
    refine lpas 7 (some 47) ?_
    refine lnow 8 (.bool false) (some 48) ?_
    refine lnow 9 (.bool false) (some 49) ?_
    refine lnow 10 (.bool false) (some 50) ?_
    refine lnow 11 (.bool true) (some 51) ?_
    refine lnow 12 (.bool true) (some 52) ?_
    refine lnow 13 (.bool bn) (some 53) ?_
    refine lnow 14 (.bool (!bn)) (some 54) ?_
    refine lnow 15 (.bool (!bn)) (some 55) ?_
    refine lnow 16 (.bool (!bn)) (some 56) ?_
    refine ldn 17 ?_
    generalize hact : Act.put _ (some 56) _ = act
    simp only [Act.put, sA, sC, sZ] at hact
    subst hact
    go_wp2
    go_meet
    case rel => exact ⟨by rw [EV.out], BW⟩
  clear k1 kv BQ8 BW
  obtain ⟨rfl, BW⟩ := hcut
  obtain ⟨w9, hw9⟩ : ∃ y, y = wc := ⟨_, rfl⟩
  rw [← hw9] at BW ⊢
  clear hw9
  obtain ⟨bv, hbv⟩ : ∃ b, Hid (valR d = b) := ⟨_, rfl⟩
  rw [hbv.out]
  cases bv with
  | false =>
   obtain rfl : B = false := by rw [← hB.out, formR, hbp.out, hbv.out]; rfl
   have FB := Lib.hid (BE.out.trans (BW.out.mono BE.out.size))
   go_wp2
   go_ret
   exact ⟨rfl, FB.out⟩
  | true =>
   have EB : Hid ((if d.kind = 4 then famB d else noFam d) = B) := by rw [Hid, ← hB.out, formR, hbp.out, hbv.out]; rfl
   clear hbp hbv hbn
   have BQ9 : Blk w9 q 38 cs := BQ.out.below BW.out S1.out
   have k0 := FM.k BQ9
   have kf := FM.f BQ9
   have kc := FM.c BQ9
   have FB := Lib.hid (BE.out.trans (BW.out.mono BE.out.size))
   go_upto_region 7 with (fail)
   refine lbeg (opsOf Try.f21 7) ?_
   refine lnow 0 (.pointer (some ⟨q, 0, none⟩)) (some 57) ?_
   refine lcl 1 (.int .i64 d.kind) (some 58) 3 57 q 0 (k0) Try.underlying3 ?_
   by_cases h4 : d.kind = 4
   rotate_left
   ·skip
    refine lnow 2 (.bool (!decide (d.kind = 4))) (some 59) ?_
    rw [show (!decide (d.kind = 4)) = true by rw [decide_eq_false h4]; rfl]
    refine ldn 3 ?_
    generalize hact : Act.put _ (some 59) _ = act
    simp only [Act.put, sA, sC, sZ] at hact
    subst hact
    rw [if_neg h4] at EB
    go_upto_region 8 with (fail)
    refine lbeg (opsOf Try.f21 8) ?_
    refine lnow 0 (.pointer (some ⟨q, 13, none⟩)) (some 60) ?_
    refine lcl 1 (.int .i64 d.fixed) (some 61) 3 60 q 13 (kf) Try.underlying3 ?_
    by_cases h : d.fixed = 0
    rotate_left
    ·skip
     refine lnowP 2 (.bool false) (some 62) (exec_eqli h (by kernel_rfl)) ?_
     refine lnow 3 (.bool false) (some 63) ?_
     refine lpas 4 (some 64) ?_
     refine lpas 5 (some 65) ?_
     refine lpas 6 (some 66) ?_
     refine lpas 7 (some 67) ?_
     refine lnow 8 (.bool false) (some 68) ?_
     refine lnow 9 (.bool false) (some 2) ?_
     refine ldn 10 ?_
     generalize hact : Act.put _ (some 2) _ = act
     simp only [Act.put, sA, sC, sZ] at hact
     subst hact
     obtain rfl : B = false := by rw [← EB.out, noFam, decide_eq_false h, Bool.false_and]
     clear k0 kf kc h h4
     go_wp2
     go_ret
     exact ⟨rfl, FB.out⟩
    refine lnowP 2 (.bool true) (some 62) (exec_eqli_yes h (by kernel_rfl)) ?_
    refine lnow 3 (.bool true) (some 63) ?_
    refine lnow 4 (.pointer (some ⟨q, 14, none⟩)) (some 64) ?_
    refine lcl 5 (.slice ca M cc) (some 65) 36 64 q 14 (kc) Try.underlying36 ?_
    refine lnow 6 (.int .i64 (M : Int)) (some 66) ?_
    refine lnow 7 (.bool (decide ((M : Int) = 0))) (some 67) ?_
    refine lnow 8 (.bool (decide ((M : Int) = 0))) (some 68) ?_
    refine lnow 9 (.bool (decide ((M : Int) = 0))) (some 2) ?_
    refine ldn 10 ?_
    generalize hact : Act.put _ (some 2) _ = act
    simp only [Act.put, sA, sC, sZ] at hact
    subst hact
    have e : decide ((M : Int) = 0) = B := by
     rw [← EB.out, noFam, decide_eq_true h, Bool.true_and, hM.out]
     by_cases h0 : M = 0
     ·rw [h0]; rfl
     ·rw [decide_eq_false h0, decide_eq_false (by omega)]
    rw [e]
    clear k0 kf kc h h4 e
    go_wp2
    go_ret
    exact ⟨rfl, FB.out⟩
   refine lnow 2 (.bool (!decide (d.kind = 4))) (some 59) ?_
   rw [show (!decide (d.kind = 4)) = false by rw [decide_eq_true h4]; rfl]
   refine ldn 3 ?_
   generalize hact : Act.put _ (some 59) _ = act
   simp only [Act.put, sA, sC, sZ] at hact
   subst hact
   rw [if_pos h4] at EB
   clear h4
   go_upto_region 9 with (fail)
   go_cut [82] from 57 (fun sv wc => sv = .bool (!famH d) ∧ w9 = wc)
   case first =>
    refine lbeg (opsOf Try.f21 9) ?_
    refine lnow 0 (.pointer (some ⟨q, 13, none⟩)) (some 69) ?_
    refine lcl 1 (.int .i64 d.fixed) (some 70) 3 69 q 13 (kf) Try.underlying3 ?_
    by_cases h1 : d.fixed < 0
    ·skip
     refine lnow 2 (.bool (decide (d.fixed < 0))) (some 71) ?_
     rw [show decide (d.fixed < 0) = true from decide_eq_true h1]
     refine lnow 3 (.bool true) (some 72) ?_
     refine lpas 4 (some 73) ?_
     refine lpas 5 (some 74) ?_
     refine lpas 6 (some 75) ?_
     refine lnow 7 (.bool true) (some 76) ?_
     refine lnow 8 (.bool true) (some 77) ?_
     refine lpas 9 (some 78) ?_
     refine lpas 10 (some 79) ?_
     refine lpas 11 (some 80) ?_
     refine lpas 12 (some 81) ?_
     refine lnow 13 (.bool true) (some 82) ?_
     refine ldn 14 ?_
     generalize hact : Act.put _ (some 82) _ = act
     simp only [Act.put, sA, sC, sZ] at hact
     subst hact
     go_wp2
     go_meet
     case rel => exact ⟨by rw [famH, decide_eq_false (show ¬ 0 ≤ d.fixed by omega)]; rfl, rfl⟩
    refine lnow 2 (.bool (decide (d.fixed < 0))) (some 71) ?_
    rw [show decide (d.fixed < 0) = false from decide_eq_false h1]
    refine lnow 3 (.bool false) (some 72) ?_
    refine lnow 4 (.pointer (some ⟨q, 13, none⟩)) (some 73) ?_
    refine lcl 5 (.int .i64 d.fixed) (some 74) 3 73 q 13 (kf) Try.underlying3 ?_
    by_cases h2 : d.fixed > 16
    ·skip
     refine lnow 6 (.bool (decide (d.fixed > 16))) (some 75) ?_
     rw [show decide (d.fixed > 16) = true from decide_eq_true h2]
     refine lnow 7 (.bool true) (some 76) ?_
     refine lnow 8 (.bool true) (some 77) ?_
     refine lpas 9 (some 78) ?_
     refine lpas 10 (some 79) ?_
     refine lpas 11 (some 80) ?_
     refine lpas 12 (some 81) ?_
     refine lnow 13 (.bool true) (some 82) ?_
     refine ldn 14 ?_
     generalize hact : Act.put _ (some 82) _ = act
     simp only [Act.put, sA, sC, sZ] at hact
     subst hact
     go_wp2
     go_meet
     case rel => exact ⟨by rw [famH, decide_eq_false (show ¬ d.fixed ≤ 16 by omega), Bool.and_false]; rfl, rfl⟩
    refine lnow 6 (.bool (decide (d.fixed > 16))) (some 75) ?_
    rw [show decide (d.fixed > 16) = false from decide_eq_false h2]
    refine lnow 7 (.bool false) (some 76) ?_
    refine lnow 8 (.bool false) (some 77) ?_
    refine lnow 9 (.pointer (some ⟨q, 14, none⟩)) (some 78) ?_
    refine lcl 10 (.slice ca M cc) (some 79) 36 78 q 14 (kc) Try.underlying36 ?_
    refine lnow 11 (.int .i64 (M : Int)) (some 80) ?_
    refine lnow 12 (.bool (decide ((M : Int) > 8))) (some 81) ?_
    refine lnow 13 (.bool (decide ((M : Int) > 8))) (some 82) ?_
    refine ldn 14 ?_
    generalize hact : Act.put _ (some 82) _ = act
    simp only [Act.put, sA, sC, sZ] at hact
    subst hact
    go_wp2
    go_meet
    case rel => exact ⟨by
     rw [famH, decide_eq_true (show 0 ≤ d.fixed by omega), decide_eq_true (show d.fixed ≤ 16 by omega), hM.out]
     by_cases h8 : (M : Int) > 8
     ·rw [decide_eq_true h8, decide_eq_false (show ¬ M ≤ 8 by omega)]; rfl
     ·rw [decide_eq_false h8, decide_eq_true (show M ≤ 8 by omega)]; rfl, rfl⟩
   obtain ⟨rfl, rfl⟩ := hcut
   obtain ⟨hh, hhh⟩ : ∃ b, Hid (famH d = b) := ⟨_, rfl⟩
   rw [hhh.out]
   clear k0 kf kc
   cases hh with
   | false =>
    obtain rfl : B = false := by rw [← EB.out, famB, hhh.out, Bool.false_and]
    go_wp2
    go_ret
    exact ⟨rfl, FB.out⟩
   | true =>
    have M8 : Hid (M ≤ 8) := by have := hhh.out; unfold famH at this; simp only [Bool.and_eq_true, decide_eq_true_eq] at this; rw [Hid, ← hM.out]; exact this.2
    have EC : Hid (d.ctors.all (ctOk d.params) = B) := by rw [Hid, ← EB.out, famB, hhh.out, Bool.true_and]
    clear FB BQ9
    go_upto_region 11 with (fail)
    refine lbeg (opsOf Try.f21 11) ?_
    refine lnow 0 (.int .i64 0) (some 5) ?_
    refine ldn 1 ?_
    generalize hact : Act.put _ (some 5) _ = act
    simp only [Act.put, sA, sC, sZ] at hact
    subst hact
    go_wp2
    go_loopw [5] (fun jv wr => ∃ j : Nat, j ≤ M ∧ jv = .int .i64 (j : Int) ∧ Hid ((d.ctors.take j).all (ctOk d.params) = true) ∧ Hid (Below w1.heap.size w1 wr)) (fun jv _ => M - (intOf jv).toNat)
    case atStart => exact ⟨0, Nat.zero_le _, rfl, rfl, BW⟩
    case round =>
     clear BW
     obtain ⟨j, hj, rfl, NT, BW⟩ := hrel
     have BQr : Hid (Blk wr q 38 cs) := BQ.out.below BW.out S1.out
     have kc := FM.c BQr.out
     by_cases hlt : j < M
     ·skip
      have c1 : (j : Int) < (M : Int) := by omega
      have CTr : CtsAt F w1 d.ctors (.slice ca M cc) := CT1.out
      obtain ⟨x, pb, po, xs, hx, hxm, haa, hpF, hpb, hrx, htx⟩ := CTr.get hM.out hlt
      subst haa
      have RX := Lib.hid hrx
      have PB := Lib.hid hpb
      have TX := Lib.hid htx
      have X5 := Lib.hid htx.len
      have TK : Hid (d.ctors.take (j + 1) = d.ctors.take j ++ [x]) := by rw [Hid, List.take_add_one, hx]; rfl
      have XS := Lib.hid (SD.out.ctors x hxm)
      have XM := Lib.hid hxm
      clear hx hrx hpF hpb htx hxm CTr
      go_upto_region 12 with (fail)
      refine lbeg (opsOf Try.f21 12) ?_
      refine lnow 0 (.int .i64 (j : Int)) (some 83) ?_
      refine lnow 1 (.pointer (some ⟨q, 14, none⟩)) (some 84) ?_
      refine lcl 2 (.slice (some ⟨pb, po, none⟩) M cc) (some 85) 36 84 q 14 (kc) Try.underlying36 ?_
      refine lnow 3 (.int .i64 (M : Int)) (some 86) ?_
      refine lnow 4 (.bool (decide ((j : Int) < (M : Int)))) (some 87) ?_
      rw [decide_eq_true c1]
      refine ldn 5 ?_
      generalize hact : Act.put _ (some 87) _ = act
      simp only [Act.put, sA, sC, sZ] at hact
      subst hact
      clear kc
      have D0 : Below w1.heap.size w1 wr.drew := BW.out.trans ((Below.refl _ _).drew)
      go_upto_region 14 with (fail)
      refine region_begin (opsOf Try.f21 14) (fun W' => Below w1.heap.size w1 W') (by kernel_rfl) (by kernel_rfl) 20 (by kernel_rfl) ?_
      intro Q' hQN hN
      generalize wr.drew = wd at D0 ⊢
      refine reg_now 0 (.pointer (some ⟨q, 14, none⟩)) (some 90) hQN D0 (by kernel_rfl) (by kernel_rfl) (fun w => by kernel_rfl) ?_
      refine reg_now 2 (.int .i64 (j : Int)) (some 92) hQN D0 (by kernel_rfl) (by kernel_rfl) (fun w => by kernel_rfl) ?_
      refine reg_nowIf 1 (.slice (some ⟨pb, po, none⟩) M cc) (some 91) hQN D0 (by kernel_rfl) (by kernel_rfl) (fun w' hw => exec_load_cell 36 (.tmp 90) (by kernel_rfl) q 14 (by kernel_rfl) _ (FM.c (BQ.out.below hw S1.out)) _ Try.underlying36 rfl) ?_
      refine reg_now 3 (.pointer (some ⟨pb, po + 6 * j, none⟩)) (some 93) hQN D0 (by kernel_rfl) (by kernel_rfl) (fun w' => exec_indexAt 36 (.tmp 91) (.tmp 92) (by kernel_rfl) _ _ _ (by kernel_rfl) (by kernel_rfl) (run_at_ct pb po M cc j hlt w')) ?_
      refine reg_now 4 (.pointer (some ⟨pb, po + 6 * j, none⟩)) (some 94) hQN D0 (by kernel_rfl) (by kernel_rfl) (fun w => by kernel_rfl) ?_
      refine reg_nowIf 5 (strT x.1) (some 95) hQN D0 (by kernel_rfl) (by kernel_rfl) (fun w' hw => exec_load_cell 9 (.tmp 94) (by kernel_rfl) pb (po + 6 * j) (by kernel_rfl) _ (ct_name (rng_low RX.out hw PB.out)) _ Try.underlying9 rfl) ?_
      refine reg_call 6 46 #[strT x.1] (some 96) _ (by kernel_rfl) (by kernel_rfl) (by kernel_rfl) (rword_walk x.1 XS.out.1 wd) ?_
      rintro e w5 ⟨rfl, b5⟩
      obtain ⟨bw, hbw⟩ : ∃ b, Hid (wordB x.1 = b) := ⟨_, rfl⟩
      rw [hbw.out]
      have D5 : Below w1.heap.size w1 w5 := D0.trans (b5.mono D0.size)
      refine ⟨_, rfl, D5, ?_⟩
      refine reg_now 7 (.bool (!bw)) (some 97) hQN D5 (by kernel_rfl) (by kernel_rfl) (fun w => by kernel_rfl) ?_
      refine reg_now 8 (.bool (!bw)) (some 98) hQN D5 (by kernel_rfl) (by kernel_rfl) (fun w => by kernel_rfl) ?_
      cases bw with
      | false =>
       refine reg_pass 9 (some 99) hQN D5 (by kernel_rfl) (by kernel_rfl) ?_
       refine reg_pass 10 (some 100) hQN D5 (by kernel_rfl) (by kernel_rfl) ?_
       refine reg_pass 11 (some 101) hQN D5 (by kernel_rfl) (by kernel_rfl) ?_
       refine reg_pass 12 (some 102) hQN D5 (by kernel_rfl) (by kernel_rfl) ?_
       refine reg_pass 13 (some 103) hQN D5 (by kernel_rfl) (by kernel_rfl) ?_
       refine reg_pass 14 (some 104) hQN D5 (by kernel_rfl) (by kernel_rfl) ?_
       refine reg_pass 15 (some 105) hQN D5 (by kernel_rfl) (by kernel_rfl) ?_
       refine reg_pass 16 (some 106) hQN D5 (by kernel_rfl) (by kernel_rfl) ?_
       refine reg_pass 17 (some 107) hQN D5 (by kernel_rfl) (by kernel_rfl) ?_
       refine reg_pass 18 (some 108) hQN D5 (by kernel_rfl) (by kernel_rfl) ?_
       refine reg_now 19 (.bool true) (some 109) hQN D5 (by kernel_rfl) (by kernel_rfl) (fun w => by kernel_rfl) ?_
       refine reg_done (by kernel_rfl) (hN _ _ ?_)
       generalize hact : Act.put _ (some 109) _ = act
       simp only [Act.put, sA, sC, sZ] at hact
       subst hact
       obtain rfl : B = false := by rw [← EC.out]; exact List.all_eq_false.2 ⟨x, XM.out, by rw [ctOk, hbw.out]; simp⟩
       have FB := Lib.hid (BE.out.trans (D5.mono BE.out.size))
       clear TK NT hbw D0 b5 D5 BQr BW
       go_wp2
       go_ret
       exact ⟨rfl, FB.out⟩
      | true =>
       refine reg_now 9 (.pointer (some ⟨q, 14, none⟩)) (some 99) hQN D5 (by kernel_rfl) (by kernel_rfl) (fun w => by kernel_rfl) ?_
       refine reg_now 11 (.int .i64 (j : Int)) (some 101) hQN D5 (by kernel_rfl) (by kernel_rfl) (fun w => by kernel_rfl) ?_
       refine reg_now 15 (.pointer (some ⟨q, 1, none⟩)) (some 105) hQN D5 (by kernel_rfl) (by kernel_rfl) (fun w => by kernel_rfl) ?_
       refine reg_nowIf 10 (.slice (some ⟨pb, po, none⟩) M cc) (some 100) hQN D5 (by kernel_rfl) (by kernel_rfl) (fun w' hw => exec_load_cell 36 (.tmp 99) (by kernel_rfl) q 14 (by kernel_rfl) _ (FM.c (BQ.out.below hw S1.out)) _ Try.underlying36 rfl) ?_
       refine reg_now 12 (.pointer (some ⟨pb, po + 6 * j, none⟩)) (some 102) hQN D5 (by kernel_rfl) (by kernel_rfl) (fun w' => exec_indexAt 36 (.tmp 100) (.tmp 101) (by kernel_rfl) _ _ _ (by kernel_rfl) (by kernel_rfl) (run_at_ct pb po M cc j hlt w')) ?_
       refine reg_now 13 (.pointer (some ⟨pb, po + 6 * j + 1, none⟩)) (some 103) hQN D5 (by kernel_rfl) (by kernel_rfl) (fun w => by kernel_rfl) ?_
       refine reg_nowIf 14 (.agg xs.toArray) (some 104) hQN D5 (by kernel_rfl) (by kernel_rfl) (fun w' hw => exec_load_mid 25 (.tmp 103) (by kernel_rfl) pb (po + 6 * j + 1) (by kernel_rfl) xs _ (ct_type (rng_low RX.out hw PB.out)) Try.underlying25 rfl (t5Size X5.out)) ?_
       refine reg_nowIf 16 (.int .i64 d.params) (some 106) hQN D5 (by kernel_rfl) (by kernel_rfl) (fun w' hw => exec_load_cell 3 (.tmp 105) (by kernel_rfl) q 1 (by kernel_rfl) _ (FM.p (BQ.out.below hw S1.out)) _ Try.underlying3 rfl) ?_
       refine reg_call 17 47 #[.agg xs.toArray, .int .i64 d.params, .int .i64 0] (some 107) _ (by kernel_rfl) (by kernel_rfl) (by kernel_rfl) (rR_walk x.2 xs w5 d.params 0 (TX.out.below D5) XS.out.2) ?_
       rintro e w6 ⟨rfl, b6⟩
       obtain ⟨br, hbr⟩ : ∃ b, Hid (rightP d.params 0 x.2 = b) := ⟨_, rfl⟩
       rw [hbr.out]
       have D6 : Below w1.heap.size w1 w6 := D5.trans (b6.mono D5.size)
       refine ⟨_, rfl, D6, ?_⟩
       have EX : Hid (ctOk d.params x = br) := by rw [Hid, ctOk, hbw.out, hbr.out, Bool.true_and]
       refine reg_now 18 (.bool (!br)) (some 108) hQN D6 (by kernel_rfl) (by kernel_rfl) (fun w => by kernel_rfl) ?_
       refine reg_now 19 (.bool (!br)) (some 109) hQN D6 (by kernel_rfl) (by kernel_rfl) (fun w => by kernel_rfl) ?_
       refine reg_done (by kernel_rfl) (hN _ _ ?_)
       generalize hact : Act.put _ (some 109) _ = act
       simp only [Act.put, sA, sC, sZ] at hact
       subst hact
       have BW6 := Lib.hid D6
       clear b5 b6 D0 D5 D6 hbw hbr BW BQr
       cases br with
       | false =>
        obtain rfl : B = false := by rw [← EC.out]; exact List.all_eq_false.2 ⟨x, XM.out, by rw [EX.out]; simp⟩
        have FB := Lib.hid (BE.out.trans (BW6.out.mono BE.out.size))
        clear TK NT EX
        go_wp2
        go_ret
        exact ⟨rfl, FB.out⟩
       | true =>
        have NT6 : Hid ((d.ctors.take (j + 1)).all (ctOk d.params) = true) := by rw [Hid, TK.out, List.all_append, NT.out]; simp [EX.out]
        have m8 := M8.out
        clear TK NT EX
        go_wp2
        go_roundw
        case rel => exact ⟨j + 1, by omega, by go_num, NT6, BW6⟩
        case measure => simp [intOf]; omega
     obtain rfl : j = M := by omega
     have c1 : ¬ ((j : Int) < (j : Int)) := by omega
     obtain rfl : B = true := by rw [← EC.out]; have := NT.out; rw [List.take_of_length_le (by have := hM.out; omega)] at this; exact this
     have FB := Lib.hid (BE.out.trans (BW.out.mono BE.out.size))
     go_upto_region 12 with (fail)
     refine lbeg (opsOf Try.f21 12) ?_
     refine lnow 0 (.int .i64 (j : Int)) (some 83) ?_
     refine lnow 1 (.pointer (some ⟨q, 14, none⟩)) (some 84) ?_
     refine lcl 2 (.slice ca j cc) (some 85) 36 84 q 14 (kc) Try.underlying36 ?_
     refine lnow 3 (.int .i64 (j : Int)) (some 86) ?_
     refine lnow 4 (.bool (decide ((j : Int) < (j : Int)))) (some 87) ?_
     rw [decide_eq_false c1]
     refine ldn 5 ?_
     generalize hact : Act.put _ (some 87) _ = act
     simp only [Act.put, sA, sC, sZ] at hact
     subst hact
     clear NT BW kc BQr
     go_wp2
     go_ret
     exact ⟨rfl, FB.out⟩
end Go.Proofs.Yteohjbggicchgaa
