/- Whether a declaration is well formed: the program's Formed. -/
import Derived.Test.YtmceocgddaaohaaGreatDoorQGenT
import Derived.Test.YtmceocgddaaohaaGreatDoorQCodK
import Derived.Test.YtmceocgddaaohaaGreatDoorQTrmZ
namespace Go.Proofs.YtmceocgddaaohaaGreatDoor
open Go Go.RowKit
set_option maxRecDepth 100000
theorem nT_at (F : List Nat) (w : World) : TmAt F w nT z5T := TmAt.mk (t := nT) (LvsOff.nil _ _ _ _) (TmsAt.nil _ _ _ _)
theorem nT_sm : SmT nT := by
 rw [nT, SmT]
 exact ⟨by simp, by simp, by simp, SmTs.of (fun t h => by cases h)⟩
def noFam (d : Dc) : Bool := decide (d.fixed = 0) && decide (d.ctors.length = 0)
def ctOk (p : Int) (c : List UInt8 × Tm) : Bool := wordB c.1 && rightP p 0 c.2
def famH (d : Dc) : Bool := (decide (0 ≤ d.fixed) && decide (d.fixed ≤ 16)) && decide (d.ctors.length ≤ 8)
def famB (d : Dc) : Bool := famH d && d.ctors.all (ctOk d.params)
noncomputable def formB (d : Dc) : Bool := (wordB d.name && rightP d.params 0 d.ty) && (if d.kind = 1 then eqT d.val nT && noFam d else if d.kind = 2 ∨ d.kind = 3 then rightP d.params 0 d.val && noFam d else if d.kind = 4 then eqT d.val nT && famB d else false)
/-- No term of a declaration is beyond what is walked. -/
structure BigD (d : Dc) : Prop where
 ty : nodesT d.ty ≤ 100000000000
 val : nodesT d.val ≤ 100000000000
 ctors : ∀ c ∈ d.ctors, nodesT c.2 ≤ 100000000000
theorem noFam_iff {d : Dc} : noFam d = true ↔ d.fixed = 0 ∧ d.ctors = [] := by
 unfold noFam
 simp
set_option maxHeartbeats 4000000 in
theorem noValue_walk {F : List Nat} (d : Dc) (cs : List Value) (w : World) (hd : DcAt F w d cs) (hs : SmD d) : Calls Tryz.prog 59 #[.agg cs.toArray] w fun e w' => e = .returned (.bool (eqT d.val nT)) ∧ Below w.heap.size w w' := by
 obtain ⟨tc, vc, cv, hform, hty, hval, hcts⟩ := id hd
 obtain ⟨ca, cc, rfl⟩ := hcts.slice
 have C15 := Lib.hid hd.len
 have TC5 := Lib.hid hform.t5
 have VC5 := Lib.hid hform.v5
 have FM := Lib.hid hform
 have SD := Lib.hid hs
 have DD := Lib.hid hd
 have CT := Lib.hid hcts
 have HTY := Lib.hid hty
 have HVAL := Lib.hid hval
 obtain ⟨M, hM⟩ : ∃ M, Hid (d.ctors.length = M) := ⟨_, rfl⟩
 rw [hM.out] at CT FM
 obtain ⟨q, hq⟩ : ∃ q, Hid (w.heap.size = q) := ⟨_, rfl⟩
 clear hform hty hval hcts hs hd
 go_enter Tryz.func59, Tryz.ntmps59
 go_upto_region 0 with (fail)
 refine lbeg (opsOf Tryz.f59 0) ?_
 refine lbox 0 46 (.tmp 0) (cs) (q) (some 1) hq ?_
 intro w1 bw1 bew1 hsw1
 refine lnow 1 (.bool false) (some 2) ?_
 refine ldn 2 ?_
 generalize hact : Act.put _ (some 2) _ = act
 simp only [Act.put, sA, sC, sZ] at hact
 subst hact
 have BQ := Lib.hid bw1
 have BE : Hid (Below w.heap.size w w1) := by rw [Hid, hq.out]; exact bew1
 have S1 : Hid (q < w1.heap.size) := by have := hsw1.out; rw [Hid]; omega
 have FM := FM.out
 have k0 := FM.k BQ.out
 have k1 := FM.p BQ.out
 have k2 := FM.n BQ.out
 have kf := FM.f BQ.out
 have kc := FM.c BQ.out
 have kt := FM.tr BQ.out
 have kv := FM.vr BQ.out
 have HTY1 := Lib.hid (HTY.out.below BE.out)
 have HVAL1 := Lib.hid (HVAL.out.below BE.out)
 have CT1 := Lib.hid (CT.out.below BE.out)
 clear bw1 bew1 hsw1 HTY HVAL CT
 go_upto_region 1 with (fail)
 refine lbeg (opsOf Tryz.f59 1) ?_
 refine lnow 0 (.pointer (some ⟨q, 8, none⟩)) (some 3) ?_
 refine lrl 1 vc (some 4) 25 3 q 8 (kv) Tryz.underlying25 (t5Size VC5.out) ?_
 refine lnow 2 (.agg z5T.toArray) (some 5) ?_
 refine lcal 3 93 #[.agg vc.toArray, .agg z5T.toArray] (some 6) _ (same_walkT d.val nT vc z5T w1 F [] HVAL1.out (nT_at _ _) SD.out.val nT_sm) ?_
 rintro e w2 ⟨rfl, b2⟩
 obtain ⟨B, hB⟩ : ∃ b, Hid (eqT d.val nT = b) := ⟨_, rfl⟩
 rw [hB.out]
 refine ⟨_, rfl, ?_⟩
 have FB := Lib.hid (BE.out.trans (b2.mono BE.out.size))
 refine lnow 4 (.bool B) (some 2) ?_
 refine ldn 5 ?_
 generalize hact : Act.put _ (some 2) _ = act
 simp only [Act.put, sA, sC, sZ] at hact
 subst hact
 clear b2 k0 k1 k2 kf kc kt kv
 go_wp2
 go_ret
 exact ⟨by rw [hB.out]; rfl, FB.out⟩
set_option maxHeartbeats 4000000 in
theorem noFamily_walk {F : List Nat} (d : Dc) (cs : List Value) (w : World) (hd : DcAt F w d cs) (hs : SmD d) : Calls Tryz.prog 60 #[.agg cs.toArray] w fun e w' => e = .returned (.bool (noFam d)) ∧ Below w.heap.size w w' := by
 obtain ⟨tc, vc, cv, hform, hty, hval, hcts⟩ := id hd
 obtain ⟨ca, cc, rfl⟩ := hcts.slice
 have C15 := Lib.hid hd.len
 have TC5 := Lib.hid hform.t5
 have VC5 := Lib.hid hform.v5
 have FM := Lib.hid hform
 have SD := Lib.hid hs
 have DD := Lib.hid hd
 have CT := Lib.hid hcts
 have HTY := Lib.hid hty
 have HVAL := Lib.hid hval
 obtain ⟨M, hM⟩ : ∃ M, Hid (d.ctors.length = M) := ⟨_, rfl⟩
 rw [hM.out] at CT FM
 obtain ⟨q, hq⟩ : ∃ q, Hid (w.heap.size = q) := ⟨_, rfl⟩
 clear hform hty hval hcts hs hd
 obtain ⟨B, hB⟩ : ∃ b, Hid (noFam d = b) := ⟨_, rfl⟩
 rw [hB.out]
 go_enter Tryz.func60, Tryz.ntmps60
 go_upto_region 0 with (fail)
 refine lbeg (opsOf Tryz.f60 0) ?_
 refine lbox 0 46 (.tmp 0) (cs) (q) (some 1) hq ?_
 intro w1 bw1 bew1 hsw1
 refine lnow 1 (.bool false) (some 2) ?_
 refine ldn 2 ?_
 generalize hact : Act.put _ (some 2) _ = act
 simp only [Act.put, sA, sC, sZ] at hact
 subst hact
 have BQ := Lib.hid bw1
 have BE : Hid (Below w.heap.size w w1) := by rw [Hid, hq.out]; exact bew1
 have S1 : Hid (q < w1.heap.size) := by have := hsw1.out; rw [Hid]; omega
 have FM := FM.out
 have k0 := FM.k BQ.out
 have k1 := FM.p BQ.out
 have k2 := FM.n BQ.out
 have kf := FM.f BQ.out
 have kc := FM.c BQ.out
 have kt := FM.tr BQ.out
 have kv := FM.vr BQ.out
 have HTY1 := Lib.hid (HTY.out.below BE.out)
 have HVAL1 := Lib.hid (HVAL.out.below BE.out)
 have CT1 := Lib.hid (CT.out.below BE.out)
 clear bw1 bew1 hsw1 HTY HVAL CT
 go_upto_region 1 with (fail)
 refine lbeg (opsOf Tryz.f60 1) ?_
 refine lnow 0 (.pointer (some ⟨q, 13, none⟩)) (some 3) ?_
 refine lcl 1 (.int .i64 d.fixed) (some 4) 3 3 q 13 (kf) Tryz.underlying3 ?_
 by_cases h : d.fixed = 0
 rotate_left
 ·skip
  refine lnowP 2 (.bool false) (some 5) (exec_eqli h (by kernel_rfl)) ?_
  refine lnow 3 (.bool false) (some 6) ?_
  refine lpas 4 (some 7) ?_
  refine lpas 5 (some 8) ?_
  refine lpas 6 (some 9) ?_
  refine lpas 7 (some 10) ?_
  refine lnow 8 (.bool false) (some 11) ?_
  refine lnow 9 (.bool false) (some 2) ?_
  refine ldn 10 ?_
  generalize hact : Act.put _ (some 2) _ = act
  simp only [Act.put, sA, sC, sZ] at hact
  subst hact
  obtain rfl : B = false := by rw [← hB.out, noFam, decide_eq_false h, Bool.false_and]
  clear k0 k1 k2 kf kc kt kv h
  go_wp2
  go_ret
  exact ⟨rfl, BE.out⟩
 refine lnowP 2 (.bool true) (some 5) (exec_eqli_yes h (by kernel_rfl)) ?_
 refine lnow 3 (.bool true) (some 6) ?_
 refine lnow 4 (.pointer (some ⟨q, 14, none⟩)) (some 7) ?_
 refine lcl 5 (.slice ca M cc) (some 8) 44 7 q 14 (kc) Tryz.underlying44 ?_
 refine lnow 6 (.int .i64 (M : Int)) (some 9) ?_
 refine lnow 7 (.bool (decide ((M : Int) = 0))) (some 10) ?_
 refine lnow 8 (.bool (decide ((M : Int) = 0))) (some 11) ?_
 refine lnow 9 (.bool (decide ((M : Int) = 0))) (some 2) ?_
 refine ldn 10 ?_
 generalize hact : Act.put _ (some 2) _ = act
 simp only [Act.put, sA, sC, sZ] at hact
 subst hact
 have e : decide ((M : Int) = 0) = B := by
  rw [← hB.out, noFam, decide_eq_true h, Bool.true_and, hM.out]
  by_cases h0 : M = 0
  ·rw [h0]; rfl
  ·rw [decide_eq_false h0, decide_eq_false (by omega)]
 rw [e]
 clear k0 k1 k2 kf kc kt kv h e
 go_wp2
 go_ret
 exact ⟨rfl, BE.out⟩
set_option maxHeartbeats 4000000 in
theorem isFamily_walk {F : List Nat} (d : Dc) (cs : List Value) (w : World) (hd : DcAt F w d cs) (hs : SmD d) (hb : BigD d) : Calls Tryz.prog 61 #[.agg cs.toArray] w fun e w' => e = .returned (.bool (famB d)) ∧ Below w.heap.size w w' := by
 obtain ⟨tc, vc, cv, hform, hty, hval, hcts⟩ := id hd
 obtain ⟨ca, cc, rfl⟩ := hcts.slice
 have C15 := Lib.hid hd.len
 have TC5 := Lib.hid hform.t5
 have VC5 := Lib.hid hform.v5
 have FM := Lib.hid hform
 have SD := Lib.hid hs
 have DD := Lib.hid hd
 have CT := Lib.hid hcts
 have HTY := Lib.hid hty
 have HVAL := Lib.hid hval
 obtain ⟨M, hM⟩ : ∃ M, Hid (d.ctors.length = M) := ⟨_, rfl⟩
 rw [hM.out] at CT FM
 obtain ⟨q, hq⟩ : ∃ q, Hid (w.heap.size = q) := ⟨_, rfl⟩
 clear hform hty hval hcts hs hd
 have BG := Lib.hid hb
 clear hb
 obtain ⟨B, hB⟩ : ∃ b, Hid (famB d = b) := ⟨_, rfl⟩
 rw [hB.out]
 go_enter Tryz.func61, Tryz.ntmps61
 go_upto_region 0 with (fail)
 refine lbeg (opsOf Tryz.f61 0) ?_
 refine lbox 0 46 (.tmp 0) (cs) (q) (some 1) hq ?_
 intro w1 bw1 bew1 hsw1
 refine lnow 1 (.bool false) (some 2) ?_
 refine ldn 2 ?_
 generalize hact : Act.put _ (some 2) _ = act
 simp only [Act.put, sA, sC, sZ] at hact
 subst hact
 have BQ := Lib.hid bw1
 have BE : Hid (Below w.heap.size w w1) := by rw [Hid, hq.out]; exact bew1
 have S1 : Hid (q < w1.heap.size) := by have := hsw1.out; rw [Hid]; omega
 have FM := FM.out
 have k0 := FM.k BQ.out
 have k1 := FM.p BQ.out
 have k2 := FM.n BQ.out
 have kf := FM.f BQ.out
 have kc := FM.c BQ.out
 have kt := FM.tr BQ.out
 have kv := FM.vr BQ.out
 have HTY1 := Lib.hid (HTY.out.below BE.out)
 have HVAL1 := Lib.hid (HVAL.out.below BE.out)
 have CT1 := Lib.hid (CT.out.below BE.out)
 clear bw1 bew1 hsw1 HTY HVAL CT
 go_upto_region 1 with (fail)
 go_cut [18] from 5 (fun sv wc => sv = .bool (!famH d) ∧ w1 = wc)
 case first =>
  refine lbeg (opsOf Tryz.f61 1) ?_
  refine lnow 0 (.pointer (some ⟨q, 13, none⟩)) (some 5) ?_
  refine lcl 1 (.int .i64 d.fixed) (some 6) 3 5 q 13 (kf) Tryz.underlying3 ?_
  by_cases h1 : d.fixed < 0
  ·skip
   refine lnow 2 (.bool (decide (d.fixed < 0))) (some 7) ?_
   rw [show decide (d.fixed < 0) = true from decide_eq_true h1]
   refine lnow 3 (.bool true) (some 8) ?_
   refine lpas 4 (some 9) ?_
   refine lpas 5 (some 10) ?_
   refine lpas 6 (some 11) ?_
   refine lnow 7 (.bool true) (some 12) ?_
   refine lnow 8 (.bool true) (some 13) ?_
   refine lpas 9 (some 14) ?_
   refine lpas 10 (some 15) ?_
   refine lpas 11 (some 16) ?_
   refine lpas 12 (some 17) ?_
   refine lnow 13 (.bool true) (some 18) ?_
   refine ldn 14 ?_
   generalize hact : Act.put _ (some 18) _ = act
   simp only [Act.put, sA, sC, sZ] at hact
   subst hact
   go_wp2
   go_meet
   case rel => exact ⟨by rw [famH, decide_eq_false (show ¬ 0 ≤ d.fixed by omega)]; rfl, rfl⟩
  refine lnow 2 (.bool (decide (d.fixed < 0))) (some 7) ?_
  rw [show decide (d.fixed < 0) = false from decide_eq_false h1]
  refine lnow 3 (.bool false) (some 8) ?_
  refine lnow 4 (.pointer (some ⟨q, 13, none⟩)) (some 9) ?_
  refine lcl 5 (.int .i64 d.fixed) (some 10) 3 9 q 13 (kf) Tryz.underlying3 ?_
  by_cases h2 : d.fixed > 16
  ·skip
   refine lnow 6 (.bool (decide (d.fixed > 16))) (some 11) ?_
   rw [show decide (d.fixed > 16) = true from decide_eq_true h2]
   refine lnow 7 (.bool true) (some 12) ?_
   refine lnow 8 (.bool true) (some 13) ?_
   refine lpas 9 (some 14) ?_
   refine lpas 10 (some 15) ?_
   refine lpas 11 (some 16) ?_
   refine lpas 12 (some 17) ?_
   refine lnow 13 (.bool true) (some 18) ?_
   refine ldn 14 ?_
   generalize hact : Act.put _ (some 18) _ = act
   simp only [Act.put, sA, sC, sZ] at hact
   subst hact
   go_wp2
   go_meet
   case rel => exact ⟨by rw [famH, decide_eq_false (show ¬ d.fixed ≤ 16 by omega), Bool.and_false]; rfl, rfl⟩
  refine lnow 6 (.bool (decide (d.fixed > 16))) (some 11) ?_
  rw [show decide (d.fixed > 16) = false from decide_eq_false h2]
  refine lnow 7 (.bool false) (some 12) ?_
  refine lnow 8 (.bool false) (some 13) ?_
  refine lnow 9 (.pointer (some ⟨q, 14, none⟩)) (some 14) ?_
  refine lcl 10 (.slice ca M cc) (some 15) 44 14 q 14 (kc) Tryz.underlying44 ?_
  refine lnow 11 (.int .i64 (M : Int)) (some 16) ?_
  refine lnow 12 (.bool (decide ((M : Int) > 8))) (some 17) ?_
  refine lnow 13 (.bool (decide ((M : Int) > 8))) (some 18) ?_
  refine ldn 14 ?_
  generalize hact : Act.put _ (some 18) _ = act
  simp only [Act.put, sA, sC, sZ] at hact
  subst hact
  go_wp2
  go_meet
  case rel => exact ⟨by
   rw [famH, decide_eq_true (show 0 ≤ d.fixed by omega), decide_eq_true (show d.fixed ≤ 16 by omega), hM.out]
   by_cases h8 : (M : Int) > 8
   ·rw [decide_eq_true h8, decide_eq_false (show ¬ M ≤ 8 by omega)]; rfl
   ·rw [decide_eq_false h8, decide_eq_true (show M ≤ 8 by omega)]; rfl, rfl⟩
 obtain ⟨rfl, rfl⟩ := hcut
 obtain ⟨hh, hhh⟩ : ∃ b, Hid (famH d = b) := ⟨_, rfl⟩
 rw [hhh.out]
 clear k0 k1 k2 kf kt kv
 cases hh with
 | false =>
  obtain rfl : B = false := by rw [← hB.out, famB, hhh.out, Bool.false_and]
  clear kc
  go_wp2
  go_ret
  exact ⟨rfl, BE.out⟩
 | true =>
  go_upto_region 3 with (fail)
  refine lbeg (opsOf Tryz.f61 3) ?_
  refine lnow 0 (.pointer (some ⟨q, 14, none⟩)) (some 19) ?_
  refine lcl 1 (.slice ca M cc) (some 20) 44 19 q 14 (kc) Tryz.underlying44 ?_
  refine lnow 2 (.int .i64 (M : Int)) (some 21) ?_
  refine lnow 3 (.int .i64 0) (some 22) ?_
  refine ldn 4 ?_
  generalize hact : Act.put _ (some 22) _ = act
  simp only [Act.put, sA, sC, sZ] at hact
  subst hact
  clear kc
  have M8 : Hid (M ≤ 8) := by have := hhh.out; unfold famH at this; simp only [Bool.and_eq_true, decide_eq_true_eq] at this; rw [Hid, ← hM.out]; exact this.2
  have EB : Hid (d.ctors.all (ctOk d.params) = B) := by rw [Hid, ← hB.out, famB, hhh.out, Bool.true_and]
  go_wp2
  go_loopw [22] (fun jv wr => ∃ j : Nat, j ≤ M ∧ jv = .int .i64 (j : Int) ∧ Hid ((d.ctors.take j).all (ctOk d.params) = true) ∧ Hid (Below w1.heap.size w1 wr)) (fun jv _ => M - (intOf jv).toNat)
  case atStart => exact ⟨0, Nat.zero_le _, rfl, rfl, Below.refl _ _⟩
  case round =>
   obtain ⟨j, hj, rfl, NT, BW⟩ := hrel
   by_cases hlt : j < M
   ·skip
    have c1 : (j : Int) < (M : Int) := by omega
    have CTr : CtsAt F wr d.ctors (.slice ca M cc) := CT1.out.below BW.out
    obtain ⟨x, pb, po, xs, hx, hxm, haa, hpF, hpb, hrx, htx⟩ := CTr.get hM.out hlt
    subst haa
    have RX := Lib.hid hrx
    have TX := Lib.hid htx
    have X5 := Lib.hid htx.len
    have X1 := Lib.hid htx.one
    have TK : Hid (d.ctors.take (j + 1) = d.ctors.take j ++ [x]) := by rw [Hid, List.take_add_one, hx]; rfl
    have XS := Lib.hid (SD.out.ctors x hxm)
    have XM := Lib.hid hxm
    have XB := Lib.hid (BG.out.ctors x hxm)
    clear hx hrx hpF hpb htx hxm CTr
    have X6 : Hid ((strT x.1 :: xs).length = 6) := by have := X5.out; rw [Hid, List.length_cons]; omega
    have BQ2 : Hid (Blk wr q 46 cs) := BQ.out.below BW.out S1.out
    go_upto_region 4 with (fail)
    refine lbeg (opsOf Tryz.f61 4) ?_
    refine lnow 0 (.bool (decide ((j : Int) < (M : Int)))) (some 23) ?_
    rw [decide_eq_true c1]
    refine ldn 1 ?_
    generalize hact : Act.put _ (some 23) _ = act
    simp only [Act.put, sA, sC, sZ] at hact
    subst hact
    obtain ⟨z, hz⟩ : ∃ z, Hid (wr.heap.size = z) := ⟨_, rfl⟩
    go_upto_region 5 with (fail)
    refine lbeg (opsOf Tryz.f61 5) ?_
    refine lix 0 (.pointer (some ⟨pb, po + 6 * j, none⟩)) (some 24) 44 20 22 (run_at_ct pb po M cc j hlt _) ?_
    refine lrl 1 (strT x.1 :: xs) (some 25) 56 24 pb (po + 6 * j) RX.out Tryz.underlying56 (ctSizeC X6.out) ?_
    refine lin_alloc 2 56 zC z (some 4) (by kernel_rfl) (by kernel_rfl) (by kernel_rfl) zeroCtC hz ?_
    intro w3 bw3 bew3 hsw3
    refine lput 3 56 (.tmp 4) (.tmp 25) z _ zC (strT x.1 :: xs) bw3 (by rw [X6.out]; rfl) (ctSizeC X6.out) (by simp only [List.all_toArray, List.all_cons]; rw [show (strT x.1).oneCell' = true from rfl, Bool.true_and]; exact List.all_eq_true.2 X1.out) ?_
    intro w4 bw4 uw4
    refine ldn 4 ?_
    generalize hact : Act.put _ none _ = act
    simp only [Act.put, sA, sC, sZ] at hact
    subst hact
    have B34 : Below wr.heap.size wr w4 := by rw [hz.out]; exact uw4.below bew3 (Nat.le_refl _) (by have := hsw3.out; omega)
    have BZ := Lib.hid bw4
    have BW4 := Lib.hid (BW.out.trans (B34.mono BW.out.size))
    have TX4 := Lib.hid (TX.out.below B34)
    have BQ4 := Lib.hid (BQ2.out.below B34 BQ2.out.lt)
    clear bw3 bew3 hsw3 bw4 uw4 B34 RX TX BW BQ2
    have kz : w4.rangeAt z 0 (strT x.1 :: xs) := BZ.out.whole
    go_upto_region 6 with (fail)
    refine lbeg (opsOf Tryz.f61 6) ?_
    refine lnow 0 (.pointer (some ⟨z, 0, none⟩)) (some 26) ?_
    refine lcl 1 (strT x.1) (some 27) 9 26 z 0 (ct_name kz) Tryz.underlying9 ?_
    refine lcal 2 58 #[strT x.1] (some 28) _ (word_walk x.1 XS.out.1 w4) ?_
    rintro e w5 ⟨rfl, hw5⟩
    obtain rfl := hw5.symm
    obtain ⟨bw, hbw⟩ : ∃ b, Hid (wordB x.1 = b) := ⟨_, rfl⟩
    rw [hbw.out]
    refine ⟨_, rfl, ?_⟩
    refine lnow 3 (.bool (!bw)) (some 29) ?_
    refine lnow 4 (.bool (!bw)) (some 30) ?_
    cases bw with
    | false =>
     refine lpas 5 (some 31) ?_
     refine lpas 6 (some 32) ?_
     refine lpas 7 (some 33) ?_
     refine lpas 8 (some 34) ?_
     refine lpas 9 (some 35) ?_
     refine lpas 10 (some 36) ?_
     refine lnow 11 (.bool true) (some 37) ?_
     refine ldn 12 ?_
     generalize hact : Act.put _ (some 37) _ = act
     simp only [Act.put, sA, sC, sZ] at hact
     subst hact
     obtain rfl : B = false := by rw [← EB.out]; exact List.all_eq_false.2 ⟨x, XM.out, by rw [ctOk, hbw.out]; simp⟩
     have FB := Lib.hid (BE.out.trans (BW4.out.mono BE.out.size))
     clear TK NT hbw kz
     go_wp2
     go_ret
     exact ⟨rfl, FB.out⟩
    | true =>
     refine lnow 5 (.pointer (some ⟨z, 1, none⟩)) (some 31) ?_
     refine lrl 6 xs (some 32) 25 31 z 1 (by have := ct_type kz; rwa [Nat.zero_add] at this) Tryz.underlying25 (t5Size X5.out) ?_
     refine lnow 7 (.pointer (some ⟨q, 1, none⟩)) (some 33) ?_
     refine lcl 8 (.int .i64 d.params) (some 34) 3 33 q 1 (FM.p BQ4.out) Tryz.underlying3 ?_
     refine lcal 9 23 #[.agg xs.toArray, .int .i64 d.params, .int .i64 0] (some 35) _ (right_walk8 x.2 xs d.params 0 w4 TX4.out XS.out.2 XB.out) ?_
     rintro e w6 ⟨rfl, b6⟩
     obtain ⟨br, hbr⟩ : ∃ b, Hid (rightP d.params 0 x.2 = b) := ⟨_, rfl⟩
     rw [hbr.out]
     refine ⟨_, rfl, ?_⟩
     have BW6 := Lib.hid (BW4.out.trans (b6.mono BW4.out.size))
     have EX : Hid (ctOk d.params x = br) := by rw [Hid, ctOk, hbw.out, hbr.out, Bool.true_and]
     refine lnow 10 (.bool (!br)) (some 36) ?_
     refine lnow 11 (.bool (!br)) (some 37) ?_
     refine ldn 12 ?_
     generalize hact : Act.put _ (some 37) _ = act
     simp only [Act.put, sA, sC, sZ] at hact
     subst hact
     clear b6 kz BW4 TX4 BQ4 BZ hz hbw hbr
     cases br with
     | false =>
      obtain rfl : B = false := by rw [← EB.out]; exact List.all_eq_false.2 ⟨x, XM.out, by rw [EX.out]; simp⟩
      have FB := Lib.hid (BE.out.trans (BW6.out.mono BE.out.size))
      clear TK NT EX
      go_wp2
      go_ret
      exact ⟨rfl, FB.out⟩
     | true =>
      have NT6 : Hid ((d.ctors.take (j + 1)).all (ctOk d.params) = true) := by rw [Hid, TK.out, List.all_append, NT.out]; simp [EX.out]
      have m8 := M8.out
      clear TK NT EX
      go_wp2
      go_roundw
      case rel => exact ⟨j + 1, by omega, by go_num, NT6, BW6⟩
      case measure => simp [intOf]; omega
   obtain rfl : j = M := by omega
   have c1 : ¬ ((j : Int) < (j : Int)) := by omega
   obtain rfl : B = true := by rw [← EB.out]; have := NT.out; rw [List.take_of_length_le (by have := hM.out; omega)] at this; exact this
   have FB := Lib.hid (BE.out.trans (BW.out.mono BE.out.size))
   go_upto_region 4 with (fail)
   refine lbeg (opsOf Tryz.f61 4) ?_
   refine lnow 0 (.bool (decide ((j : Int) < (j : Int)))) (some 23) ?_
   rw [decide_eq_false c1]
   refine ldn 1 ?_
   generalize hact : Act.put _ (some 23) _ = act
   simp only [Act.put, sA, sC, sZ] at hact
   subst hact
   clear NT BW
   go_wp2
   go_ret
   exact ⟨rfl, FB.out⟩
set_option maxHeartbeats 8000000 in
theorem Formed_walk {F : List Nat} (d : Dc) (cs : List Value) (w : World) (hd : DcAt F w d cs) (hs : SmD d) (hb : BigD d) : Calls Tryz.prog 33 #[.agg cs.toArray] w fun e w' => e = .returned (.bool (formB d)) ∧ Below w.heap.size w w' := by
 obtain ⟨tc, vc, cv, hform, hty, hval, hcts⟩ := id hd
 obtain ⟨ca, cc, rfl⟩ := hcts.slice
 have C15 := Lib.hid hd.len
 have TC5 := Lib.hid hform.t5
 have VC5 := Lib.hid hform.v5
 have FM := Lib.hid hform
 have SD := Lib.hid hs
 have DD := Lib.hid hd
 have CT := Lib.hid hcts
 have HTY := Lib.hid hty
 have HVAL := Lib.hid hval
 obtain ⟨M, hM⟩ : ∃ M, Hid (d.ctors.length = M) := ⟨_, rfl⟩
 rw [hM.out] at CT FM
 obtain ⟨q, hq⟩ : ∃ q, Hid (w.heap.size = q) := ⟨_, rfl⟩
 clear hform hty hval hcts hs hd
 have BG := Lib.hid hb
 clear hb
 obtain ⟨B, hB⟩ : ∃ b, Hid (formB d = b) := ⟨_, rfl⟩
 rw [hB.out]
 go_enter Tryz.func33, Tryz.ntmps33
 go_upto_region 0 with (fail)
 refine lbeg (opsOf Tryz.f33 0) ?_
 refine lbox 0 46 (.tmp 0) (cs) (q) (some 1) hq ?_
 intro w1 bw1 bew1 hsw1
 refine lnow 1 (.bool false) (some 2) ?_
 refine ldn 2 ?_
 generalize hact : Act.put _ (some 2) _ = act
 simp only [Act.put, sA, sC, sZ] at hact
 subst hact
 have BQ := Lib.hid bw1
 have BE : Hid (Below w.heap.size w w1) := by rw [Hid, hq.out]; exact bew1
 have S1 : Hid (q < w1.heap.size) := by have := hsw1.out; rw [Hid]; omega
 have FM := FM.out
 have k0 := FM.k BQ.out
 have k1 := FM.p BQ.out
 have k2 := FM.n BQ.out
 have kf := FM.f BQ.out
 have kc := FM.c BQ.out
 have kt := FM.tr BQ.out
 have kv := FM.vr BQ.out
 have HTY1 := Lib.hid (HTY.out.below BE.out)
 have HVAL1 := Lib.hid (HVAL.out.below BE.out)
 have CT1 := Lib.hid (CT.out.below BE.out)
 clear bw1 bew1 hsw1 HTY HVAL CT
 clear kc kf kv
 go_upto_region 1 with (fail)
 refine lbeg (opsOf Tryz.f33 1) ?_
 refine lnow 0 (.pointer (some ⟨q, 2, none⟩)) (some 3) ?_
 refine lcl 1 (strT d.name) (some 4) 9 3 q 2 (k2) Tryz.underlying9 ?_
 refine lcal 2 58 #[strT d.name] (some 5) _ (word_walk d.name SD.out.name w1) ?_
 rintro e w5 ⟨rfl, hw5⟩
 obtain rfl := hw5.symm
 obtain ⟨bw, hbw⟩ : ∃ b, Hid (wordB d.name = b) := ⟨_, rfl⟩
 rw [hbw.out]
 refine ⟨_, rfl, ?_⟩
 refine lnow 3 (.bool (!bw)) (some 6) ?_
 refine lnow 4 (.bool (!bw)) (some 7) ?_
 cases bw with
 | false =>
  refine lpas 5 (some 8) ?_
  refine lpas 6 (some 9) ?_
  refine lpas 7 (some 10) ?_
  refine lpas 8 (some 11) ?_
  refine lpas 9 (some 12) ?_
  refine lpas 10 (some 13) ?_
  refine lnow 11 (.bool true) (some 14) ?_
  refine ldn 12 ?_
  generalize hact : Act.put _ (some 14) _ = act
  simp only [Act.put, sA, sC, sZ] at hact
  subst hact
  obtain rfl : B = false := by rw [← hB.out, formB, hbw.out, Bool.false_and, Bool.false_and]
  clear k0 k1 k2 kt
  go_wp2
  go_ret
  exact ⟨rfl, BE.out⟩
 | true =>
  refine lnow 5 (.pointer (some ⟨q, 3, none⟩)) (some 8) ?_
  refine lrl 6 tc (some 9) 25 8 q 3 (kt) Tryz.underlying25 (t5Size TC5.out) ?_
  refine lnow 7 (.pointer (some ⟨q, 1, none⟩)) (some 10) ?_
  refine lcl 8 (.int .i64 d.params) (some 11) 3 10 q 1 (k1) Tryz.underlying3 ?_
  refine lcal 9 23 #[.agg tc.toArray, .int .i64 d.params, .int .i64 0] (some 12) _ (right_walk8 d.ty tc d.params 0 w1 HTY1.out SD.out.ty BG.out.ty) ?_
  rintro e w2 ⟨rfl, b2⟩
  obtain ⟨br, hbr⟩ : ∃ b, Hid (rightP d.params 0 d.ty = b) := ⟨_, rfl⟩
  rw [hbr.out]
  refine ⟨_, rfl, ?_⟩
  have BE := Lib.hid (BE.out.trans (b2.mono BE.out.size))
  have BQ := Lib.hid (BQ.out.below b2 BQ.out.lt)
  have DD2 := Lib.hid (DD.out.below BE.out)
  clear b2 k0 k1 k2 kt HTY1 HVAL1 CT1 S1
  have k0 := FM.k BQ.out
  have k1 := FM.p BQ.out
  have kv := FM.vr BQ.out
  refine lnow 10 (.bool (!br)) (some 13) ?_
  refine lnow 11 (.bool (!br)) (some 14) ?_
  refine ldn 12 ?_
  generalize hact : Act.put _ (some 14) _ = act
  simp only [Act.put, sA, sC, sZ] at hact
  subst hact
  cases br with
  | false =>
   clear k0 k1 kv
   obtain rfl : B = false := by rw [← hB.out, formB, hbw.out, hbr.out, Bool.true_and, Bool.false_and]
   skip
   go_wp2
   go_ret
   exact ⟨rfl, BE.out⟩
  | true =>
   have EB : Hid ((if d.kind = 1 then eqT d.val nT && noFam d else if d.kind = 2 ∨ d.kind = 3 then rightP d.params 0 d.val && noFam d else if d.kind = 4 then eqT d.val nT && famB d else false) = B) := by rw [Hid, ← hB.out, formB, hbw.out, hbr.out, Bool.true_and, Bool.true_and]
   clear hbw hbr
   go_upto_region 3 with (fail)
   refine lbeg (opsOf Tryz.f33 3) ?_
   refine lnow 0 (.pointer (some ⟨q, 0, none⟩)) (some 15) ?_
   refine lcl 1 (.int .i64 d.kind) (some 16) 3 15 q 0 (k0) Tryz.underlying3 ?_
   refine ldn 2 ?_
   generalize hact : Act.put _ (some 16) _ = act
   simp only [Act.put, sA, sC, sZ] at hact
   subst hact
   go_upto_region 4 with (fail)
   refine lbeg (opsOf Tryz.f33 4) ?_
   refine lnow 0 (.bool (decide (d.kind = 1))) (some 18) ?_
   refine lnow 1 (.bool (decide (d.kind = 1))) (some 17) ?_
   refine ldn 2 ?_
   generalize hact : Act.put _ (some 17) _ = act
   simp only [Act.put, sA, sC, sZ] at hact
   subst hact
   by_cases h1 : d.kind = 1
   ·skip
    rw [decide_eq_true h1]
    go_upto_region 5 with (fail)
    refine lbeg (opsOf Tryz.f33 5) ?_
    refine lrl 0 cs (some 19) 46 1 q 0 BQ.out.whole Tryz.underlying46 (dcSize C15.out) ?_
    refine lcal 1 59 #[.agg cs.toArray] (some 20) _ (noValue_walk d cs w2 DD2.out SD.out) ?_
    rintro e w3 ⟨rfl, b3⟩
    obtain ⟨b1, hb1⟩ : ∃ b, Hid (eqT d.val nT = b) := ⟨_, rfl⟩
    rw [hb1.out]
    refine ⟨_, rfl, ?_⟩
    have BE3 := Lib.hid (BE.out.trans (b3.mono BE.out.size))
    have BQ3 := Lib.hid (BQ.out.below b3 BQ.out.lt)
    have DD3 := Lib.hid (DD2.out.below b3)
    clear b3 k0 k1 kv BE BQ DD2
    refine lnow 2 (.bool b1) (some 21) ?_
    cases b1 with
    | false =>
     refine lpas 3 (some 22) ?_
     refine lpas 4 (some 23) ?_
     refine lnow 5 (.bool false) (some 24) ?_
     refine lnow 6 (.bool false) (some 2) ?_
     refine ldn 7 ?_
     generalize hact : Act.put _ (some 2) _ = act
     simp only [Act.put, sA, sC, sZ] at hact
     subst hact
     obtain rfl : B = false := by rw [← EB.out, if_pos h1, hb1.out, Bool.false_and]
     go_wp2
     go_ret
     exact ⟨rfl, BE3.out⟩
    | true =>
     refine lrl 3 cs (some 22) 46 1 q 0 BQ3.out.whole Tryz.underlying46 (dcSize C15.out) ?_
     refine lcal 4 60 #[.agg cs.toArray] (some 23) _ (noFamily_walk d cs w3 DD3.out SD.out) ?_
     rintro e w4 ⟨rfl, b4⟩
     rw [show noFam d = B by rw [← EB.out, if_pos h1, hb1.out, Bool.true_and]]
     refine ⟨_, rfl, ?_⟩
     have BE4 := Lib.hid (BE3.out.trans (b4.mono BE3.out.size))
     clear b4
     refine lnow 5 (.bool B) (some 24) ?_
     refine lnow 6 (.bool B) (some 2) ?_
     refine ldn 7 ?_
     generalize hact : Act.put _ (some 2) _ = act
     simp only [Act.put, sA, sC, sZ] at hact
     subst hact
     go_wp2
     go_ret
     exact ⟨rfl, BE4.out⟩
   rw [decide_eq_false h1]
   go_upto_region 6 with (fail)
   refine lbeg (opsOf Tryz.f33 6) ?_
   refine lnow 0 (.bool (decide (d.kind = 2))) (some 26) ?_
   refine lnow 1 (.bool (decide (d.kind = 2))) (some 25) ?_
   refine ldn 2 ?_
   generalize hact : Act.put _ (some 25) _ = act
   simp only [Act.put, sA, sC, sZ] at hact
   subst hact
   have HV2 : Hid (TmAt F w2 d.val vc) := by
    obtain ⟨tc', vc', cv', hf', -, hv', -⟩ := DD2.out
    have e1 := FM.e
    have e2 := hf'.e
    rw [e1] at e2
    have e3 := (List.append_inj (List.append_cancel_left e2) (by rw [TC5.out, hf'.t5])).2
    have e4 := (List.append_inj e3 (by rw [VC5.out, hf'.v5])).1
    rw [Hid, e4]
    exact hv'
   by_cases h2 : d.kind = 2
   ·skip
    rw [decide_eq_true h2]
    go_upto_region 8 with (fail)
    refine lbeg (opsOf Tryz.f33 8) ?_
    refine lnow 0 (.pointer (some ⟨q, 8, none⟩)) (some 28) ?_
    refine lrl 1 vc (some 29) 25 28 q 8 (kv) Tryz.underlying25 (t5Size VC5.out) ?_
    refine lnow 2 (.pointer (some ⟨q, 1, none⟩)) (some 30) ?_
    refine lcl 3 (.int .i64 d.params) (some 31) 3 30 q 1 (k1) Tryz.underlying3 ?_
    refine lcal 4 23 #[.agg vc.toArray, .int .i64 d.params, .int .i64 0] (some 32) _ (right_walk8 d.val vc d.params 0 w2 HV2.out SD.out.val BG.out.val) ?_
    rintro e w3 ⟨rfl, b3⟩
    obtain ⟨b1, hb1⟩ : ∃ b, Hid (rightP d.params 0 d.val = b) := ⟨_, rfl⟩
    rw [hb1.out]
    refine ⟨_, rfl, ?_⟩
    have BE3 := Lib.hid (BE.out.trans (b3.mono BE.out.size))
    have BQ3 := Lib.hid (BQ.out.below b3 BQ.out.lt)
    have DD3 := Lib.hid (DD2.out.below b3)
    clear b3 k0 k1 kv BE BQ DD2
    refine lnow 5 (.bool b1) (some 33) ?_
    cases b1 with
    | false =>
     refine lpas 6 (some 34) ?_
     refine lpas 7 (some 35) ?_
     refine lnow 8 (.bool false) (some 36) ?_
     refine lnow 9 (.bool false) (some 2) ?_
     refine ldn 10 ?_
     generalize hact : Act.put _ (some 2) _ = act
     simp only [Act.put, sA, sC, sZ] at hact
     subst hact
     obtain rfl : B = false := by rw [← EB.out, if_neg h1, if_pos (.inl h2), hb1.out, Bool.false_and]
     go_wp2
     go_ret
     exact ⟨rfl, BE3.out⟩
    | true =>
     refine lrl 6 cs (some 34) 46 1 q 0 BQ3.out.whole Tryz.underlying46 (dcSize C15.out) ?_
     refine lcal 7 60 #[.agg cs.toArray] (some 35) _ (noFamily_walk d cs w3 DD3.out SD.out) ?_
     rintro e w4 ⟨rfl, b4⟩
     rw [show noFam d = B by rw [← EB.out, if_neg h1, if_pos (.inl h2), hb1.out, Bool.true_and]]
     refine ⟨_, rfl, ?_⟩
     have BE4 := Lib.hid (BE3.out.trans (b4.mono BE3.out.size))
     clear b4
     refine lnow 8 (.bool B) (some 36) ?_
     refine lnow 9 (.bool B) (some 2) ?_
     refine ldn 10 ?_
     generalize hact : Act.put _ (some 2) _ = act
     simp only [Act.put, sA, sC, sZ] at hact
     subst hact
     go_wp2
     go_ret
     exact ⟨rfl, BE4.out⟩
   rw [decide_eq_false h2]
   go_upto_region 7 with (fail)
   refine lbeg (opsOf Tryz.f33 7) ?_
   refine lnow 0 (.bool (decide (d.kind = 3))) (some 27) ?_
   refine lnow 1 (.bool (decide (d.kind = 3))) (some 25) ?_
   refine ldn 2 ?_
   generalize hact : Act.put _ (some 25) _ = act
   simp only [Act.put, sA, sC, sZ] at hact
   subst hact
   by_cases h3 : d.kind = 3
   ·skip
    rw [decide_eq_true h3]
    go_upto_region 8 with (fail)
    refine lbeg (opsOf Tryz.f33 8) ?_
    refine lnow 0 (.pointer (some ⟨q, 8, none⟩)) (some 28) ?_
    refine lrl 1 vc (some 29) 25 28 q 8 (kv) Tryz.underlying25 (t5Size VC5.out) ?_
    refine lnow 2 (.pointer (some ⟨q, 1, none⟩)) (some 30) ?_
    refine lcl 3 (.int .i64 d.params) (some 31) 3 30 q 1 (k1) Tryz.underlying3 ?_
    refine lcal 4 23 #[.agg vc.toArray, .int .i64 d.params, .int .i64 0] (some 32) _ (right_walk8 d.val vc d.params 0 w2 HV2.out SD.out.val BG.out.val) ?_
    rintro e w3 ⟨rfl, b3⟩
    obtain ⟨b1, hb1⟩ : ∃ b, Hid (rightP d.params 0 d.val = b) := ⟨_, rfl⟩
    rw [hb1.out]
    refine ⟨_, rfl, ?_⟩
    have BE3 := Lib.hid (BE.out.trans (b3.mono BE.out.size))
    have BQ3 := Lib.hid (BQ.out.below b3 BQ.out.lt)
    have DD3 := Lib.hid (DD2.out.below b3)
    clear b3 k0 k1 kv BE BQ DD2
    refine lnow 5 (.bool b1) (some 33) ?_
    cases b1 with
    | false =>
     refine lpas 6 (some 34) ?_
     refine lpas 7 (some 35) ?_
     refine lnow 8 (.bool false) (some 36) ?_
     refine lnow 9 (.bool false) (some 2) ?_
     refine ldn 10 ?_
     generalize hact : Act.put _ (some 2) _ = act
     simp only [Act.put, sA, sC, sZ] at hact
     subst hact
     obtain rfl : B = false := by rw [← EB.out, if_neg h1, if_pos (.inr h3), hb1.out, Bool.false_and]
     go_wp2
     go_ret
     exact ⟨rfl, BE3.out⟩
    | true =>
     refine lrl 6 cs (some 34) 46 1 q 0 BQ3.out.whole Tryz.underlying46 (dcSize C15.out) ?_
     refine lcal 7 60 #[.agg cs.toArray] (some 35) _ (noFamily_walk d cs w3 DD3.out SD.out) ?_
     rintro e w4 ⟨rfl, b4⟩
     rw [show noFam d = B by rw [← EB.out, if_neg h1, if_pos (.inr h3), hb1.out, Bool.true_and]]
     refine ⟨_, rfl, ?_⟩
     have BE4 := Lib.hid (BE3.out.trans (b4.mono BE3.out.size))
     clear b4
     refine lnow 8 (.bool B) (some 36) ?_
     refine lnow 9 (.bool B) (some 2) ?_
     refine ldn 10 ?_
     generalize hact : Act.put _ (some 2) _ = act
     simp only [Act.put, sA, sC, sZ] at hact
     subst hact
     go_wp2
     go_ret
     exact ⟨rfl, BE4.out⟩
   rw [decide_eq_false h3]
   go_upto_region 9 with (fail)
   refine lbeg (opsOf Tryz.f33 9) ?_
   refine lnow 0 (.bool (decide (d.kind = 4))) (some 38) ?_
   refine lnow 1 (.bool (decide (d.kind = 4))) (some 37) ?_
   refine ldn 2 ?_
   generalize hact : Act.put _ (some 37) _ = act
   simp only [Act.put, sA, sC, sZ] at hact
   subst hact
   by_cases h4 : d.kind = 4
   ·skip
    rw [decide_eq_true h4]
    go_upto_region 10 with (fail)
    refine lbeg (opsOf Tryz.f33 10) ?_
    refine lrl 0 cs (some 39) 46 1 q 0 BQ.out.whole Tryz.underlying46 (dcSize C15.out) ?_
    refine lcal 1 59 #[.agg cs.toArray] (some 40) _ (noValue_walk d cs w2 DD2.out SD.out) ?_
    rintro e w3 ⟨rfl, b3⟩
    obtain ⟨b1, hb1⟩ : ∃ b, Hid (eqT d.val nT = b) := ⟨_, rfl⟩
    rw [hb1.out]
    refine ⟨_, rfl, ?_⟩
    have BE3 := Lib.hid (BE.out.trans (b3.mono BE.out.size))
    have BQ3 := Lib.hid (BQ.out.below b3 BQ.out.lt)
    have DD3 := Lib.hid (DD2.out.below b3)
    clear b3 k0 k1 kv BE BQ DD2
    refine lnow 2 (.bool b1) (some 41) ?_
    cases b1 with
    | false =>
     refine lpas 3 (some 42) ?_
     refine lpas 4 (some 43) ?_
     refine lnow 5 (.bool false) (some 44) ?_
     refine lnow 6 (.bool false) (some 2) ?_
     refine ldn 7 ?_
     generalize hact : Act.put _ (some 2) _ = act
     simp only [Act.put, sA, sC, sZ] at hact
     subst hact
     obtain rfl : B = false := by rw [← EB.out, if_neg h1, if_neg (fun e => e.elim h2 h3), if_pos h4, hb1.out, Bool.false_and]
     go_wp2
     go_ret
     exact ⟨rfl, BE3.out⟩
    | true =>
     refine lrl 3 cs (some 42) 46 1 q 0 BQ3.out.whole Tryz.underlying46 (dcSize C15.out) ?_
     refine lcal 4 61 #[.agg cs.toArray] (some 43) _ (isFamily_walk d cs w3 DD3.out SD.out BG.out) ?_
     rintro e w4 ⟨rfl, b4⟩
     rw [show famB d = B by rw [← EB.out, if_neg h1, if_neg (fun e => e.elim h2 h3), if_pos h4, hb1.out, Bool.true_and]]
     refine ⟨_, rfl, ?_⟩
     have BE4 := Lib.hid (BE3.out.trans (b4.mono BE3.out.size))
     clear b4
     refine lnow 5 (.bool B) (some 44) ?_
     refine lnow 6 (.bool B) (some 2) ?_
     refine ldn 7 ?_
     generalize hact : Act.put _ (some 2) _ = act
     simp only [Act.put, sA, sC, sZ] at hact
     subst hact
     go_wp2
     go_ret
     exact ⟨rfl, BE4.out⟩
   rw [decide_eq_false h4]
   obtain rfl : B = false := by rw [← EB.out, if_neg h1, if_neg (fun e => e.elim h2 h3), if_neg h4]
   clear k0 k1 kv
   go_wp2
   go_ret
   exact ⟨rfl, BE.out⟩
end Go.Proofs.YtmceocgddaaohaaGreatDoor
