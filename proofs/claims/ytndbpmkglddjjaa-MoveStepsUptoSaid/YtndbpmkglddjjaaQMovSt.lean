/- The law MoveSteps. -/
import Derived.Test.YtndbpmkglddjjaaQGenT
import Derived.Test.YtndbpmkglddjjaaQMovQ
import Derived.Test.YtndbpmkglddjjaaQMovLo
import Derived.Test.YtndbpmkglddjjaaQMovU
namespace Go.Proofs.Ytndbpmkglddjjaa
open Go Go.RowKit
set_option maxRecDepth 100000
theorem sm_zT : SmT zT := by rw [zT, SmT]; exact ⟨by simp, by simp, by simp, by rw [SmTs]; trivial⟩
theorem putO_sm {xa : List Tm} {t r : Tm} (h : putO xa t = some r) (hx : ∀ x ∈ xa, SmT x) (hs : SmT t) : SmT r ∧ nodesT r ≤ 3000 := by
  obtain ⟨-, r1, r2, r3⟩ := putO_val h
  unfold putO at h
  rw [if_pos ⟨r1, r2⟩] at h
  exact puO_sm (fun x hm => fit_of (hx x hm) (r1 x hm)) (okO_some h).1 hs (rightP_parts r2).2.1
theorem shiftO_sm {b f : Int} {t r : Tm} (h : shiftO b f t = some r) (hs : SmT t) : SmT r ∧ nodesT r ≤ 3000 := by
  unfold shiftO at h
  split at h
  · obtain ⟨h1, h2⟩ := okO_some h
    exact ⟨(shO_sm h1 hs).1, (rightP_parts h2).2.1⟩
  · cases h
theorem getD_sm {o : Option Tm} (h : ∀ r, o = some r → SmT r ∧ nodesT r ≤ 3000) : SmT (o.getD zT) ∧ nodesT (o.getD zT) ≤ 3000 := by
  cases o with
  | none => exact ⟨sm_zT, by rw [Option.getD_none]; decide⟩
  | some r => exact h r rfl
theorem sms_one {a : Tm} (h : SmT a) : SmTs [a] := by rw [SmTs, SmTs]; exact ⟨h, trivial⟩
theorem sms_two {a b : Tm} (h : SmT a) (h2 : SmT b) : SmTs [a, b] := by rw [SmTs, SmTs, SmTs]; exact ⟨h, h2, trivial⟩
theorem all_one {P : Tm → Prop} {a : Tm} (h : P a) : ∀ x ∈ [a], P x := fun x hx => by rw [List.mem_singleton.1 hx]; exact h
theorem all_two {P : Tm → Prop} {a b : Tm} (h : P a) (h2 : P b) : ∀ x ∈ [a, b], P x := fun x hx => by
  rcases List.mem_cons.1 hx with rfl | hx
  · exact h
  · rw [List.mem_singleton.1 hx]; exact h2
set_option maxHeartbeats 8000000 in
theorem steps_main (t a b : Tm) (cs ca cb : List Value) (w : World) (ht : TmAt [] w t cs) (ha : TmAt [] w a ca) (hb : TmAt [] w b cb) (hs : SmT t) (sa : SmT a) (sb : SmT b) (na : nodesT a ≤ 100000000000) (nb : nodesT b ≤ 100000000000) : Calls Try.prog 5 #[.agg cs.toArray, .agg ca.toArray, .agg cb.toArray] w fun e w' => e = .returned (.bool true) ∧ Below w.heap.size w w' := by
  have C5 := Lib.hid ht.len
  have A5 := Lib.hid ha.len
  have B5 := Lib.hid hb.len
  have HT := Lib.hid ht
  have HA := Lib.hid ha
  have HB := Lib.hid hb
  obtain ⟨q, hq⟩ : ∃ q, Hid (w.heap.size = q) := ⟨_, rfl⟩
  obtain ⟨R1, hR1⟩ : ∃ y, Hid (putO [a, b] t = y) := ⟨_, rfl⟩
  obtain ⟨R2, hR2⟩ : ∃ y, Hid (shiftO 1 0 b = y) := ⟨_, rfl⟩
  obtain ⟨R3, hR3⟩ : ∃ y, Hid (putO [R2.getD zT] t = y) := ⟨_, rfl⟩
  obtain ⟨R4, hR4⟩ : ∃ y, Hid (putO [a] (R3.getD zT) = y) := ⟨_, rfl⟩
  have M1 := Lib.hid (getD_sm (o := R1) (fun r h => putO_sm (hR1.out.trans h) (all_two sa sb) hs))
  have M2 := Lib.hid (getD_sm (o := R2) (fun r h => shiftO_sm (hR2.out.trans h) sb))
  have M3 := Lib.hid (getD_sm (o := R3) (fun r h => putO_sm (hR3.out.trans h) (all_one M2.out.1) hs))
  clear ht ha hb
  go_enter Try.func5, Try.ntmps5
  go_upto_region 0 with (fail)
  refine lbeg (opsOf Try.f5 0) ?_
  refine lbox 0 25 (.tmp 0) (cs) (q) (some 3) hq ?_
  intro w1 bw1 bew1 hsw1
  refine lbox 1 25 (.tmp 1) (ca) (q + 1) (some 4) hsw1 ?_
  intro w2 bw2 bew2 hsw2
  refine lbox 2 25 (.tmp 2) (cb) (q + 1 + 1) (some 5) hsw2 ?_
  intro w3 bw3 bew3 hsw3
  refine lnow 3 (.bool false) (some 6) ?_
  refine ldn 4 ?_
  generalize hact : Act.put _ (some 6) _ = act
  simp only [Act.put, sA, sC, sZ] at hact
  subst hact
  have BQ : Hid (Blk w3 q 25 cs) := (bw1.below bew2 (by omega)).below bew3 (by omega)
  have BA : Hid (Blk w3 (q + 1) 25 ca) := bw2.below bew3 (by omega)
  have BB : Hid (Blk w3 (q + 1 + 1) 25 cb) := bw3
  have BE : Hid (Below w.heap.size w w3) := by rw [Hid, hq.out]; exact (bew1.trans (bew2.mono (by omega))).trans (bew3.mono (by omega))
  clear bw1 bew1 hsw1 bw2 bew2 hsw2 bw3 bew3 hsw3
  go_upto_region 1 with (fail)
  refine lbeg (opsOf Try.f5 1) ?_
  refine lcal 0 16 #[] (some 15) _ (alive9_walk w3) ?_
  rintro e w1 ⟨rfl, hb⟩
  refine ⟨_, rfl, ?_⟩
  have BQ := Lib.hid (BQ.out.below hb BQ.out.lt)
  have BA := Lib.hid (BA.out.below hb BA.out.lt)
  have BB := Lib.hid (BB.out.below hb BB.out.lt)
  have BE := Lib.hid (BE.out.trans (hb.mono BE.out.size))
  clear hb
  refine lnow 1 (.bool false) (some 16) ?_
  refine ldn 2 ?_
  generalize hact : Act.put _ (some 16) _ = act
  simp only [Act.put, sA, sC, sZ] at hact
  subst hact
  have TA := Lib.hid (HT.out.below BE.out)
  have AA := Lib.hid (HA.out.below BE.out)
  have AB := Lib.hid (HB.out.below BE.out)
  clear HT HA HB
  go_upto_region 3 with (fail)
  refine lbeg (opsOf Try.f5 3) ?_
  refine lrl 0 (cs) (some 17) 25 3 (q) 0 (BQ.out).whole Try.underlying25 (t5Size C5.out) ?_
  refine lrl 1 (ca) (some 18) 25 4 (q + 1) 0 (BA.out).whole Try.underlying25 (t5Size A5.out) ?_
  refine lrl 2 (cb) (some 19) 25 5 (q + 1 + 1) 0 (BB.out).whole Try.underlying25 (t5Size B5.out) ?_
  obtain ⟨g3, hgg3⟩ : ∃ y, Hid (w1.heap.size = y) := ⟨_, rfl⟩
  refine lin_rowC 3 g3 2 25 (ca ++ cb) (some 20) (by kernel_rfl) (by kernel_rfl) hgg3 (exec_of _ _ (by kernel_rfl) (run_build_tm2 AA.out AB.out w1)) ?_
  intro w2 bw hb
  have BQ := Lib.hid (BQ.out.below hb BQ.out.lt)
  have BA := Lib.hid (BA.out.below hb BA.out.lt)
  have BB := Lib.hid (BB.out.below hb BB.out.lt)
  have BE := Lib.hid (BE.out.trans (hb.mono BE.out.size))
  have TA := Lib.hid (TA.out.below hb)
  have AA := Lib.hid (AA.out.below hb)
  have AB := Lib.hid (AB.out.below hb)
  have Rg3 := Lib.hid bw
  clear bw hb
  refine lcal 4 17 #[.agg cs.toArray, .slice (some ⟨g3, 0, none⟩) 2 2] (some 21) _ (great9_walk (F := []) t cs [a, b] 2 _ 2 w2 TA.out hs (pair_tms Rg3.out AA.out AB.out (by simp)) (sms_two sa sb) rfl) ?_
  rintro e w4 ⟨gb, rfl, hgb, hb⟩
  refine ⟨_, rfl, ?_⟩
  have BQ := Lib.hid (BQ.out.below hb BQ.out.lt)
  have BA := Lib.hid (BA.out.below hb BA.out.lt)
  have BB := Lib.hid (BB.out.below hb BB.out.lt)
  have BE := Lib.hid (BE.out.trans (hb.mono BE.out.size))
  have TA := Lib.hid (TA.out.below hb)
  have AA := Lib.hid (AA.out.below hb)
  have AB := Lib.hid (AB.out.below hb)
  have Rg3 := Lib.hid (Rg3.out.below hb Rg3.out.lt)
  clear hb
  refine ldn 5 ?_
  generalize hact : Act.put _ (some 21) _ = act
  simp only [Act.put, sA, sC, sZ] at hact
  subst hact
  clear Rg3
  obtain _ | _ := gb
  rotate_left
  · skip
    go_upto_region 4 with (fail)
    refine lbeg (opsOf Try.f5 4) ?_
    refine lnow 0 (.bool true) (some 6) ?_
    refine ldn 1 ?_
    generalize hact : Act.put _ (some 6) _ = act
    simp only [Act.put, sA, sC, sZ] at hact
    subst hact
    go_wp2
    go_ret
    exact ⟨rfl, BE.out⟩
  have n1 := (hgb rfl).1
  clear hgb
  go_upto_region 5 with (fail)
  refine lbeg (opsOf Try.f5 5) ?_
  refine lrl 0 (cs) (some 23) 25 3 (q) 0 (BQ.out).whole Try.underlying25 (t5Size C5.out) ?_
  refine lrl 1 (ca) (some 24) 25 4 (q + 1) 0 (BA.out).whole Try.underlying25 (t5Size A5.out) ?_
  refine lrl 2 (cb) (some 25) 25 5 (q + 1 + 1) 0 (BB.out).whole Try.underlying25 (t5Size B5.out) ?_
  obtain ⟨g6, hgg6⟩ : ∃ y, Hid (w4.heap.size = y) := ⟨_, rfl⟩
  refine lin_rowC 3 g6 2 25 (ca ++ cb) (some 26) (by kernel_rfl) (by kernel_rfl) hgg6 (exec_of _ _ (by kernel_rfl) (run_build_tm2 AA.out AB.out w4)) ?_
  intro w5 bw hb
  have BQ := Lib.hid (BQ.out.below hb BQ.out.lt)
  have BA := Lib.hid (BA.out.below hb BA.out.lt)
  have BB := Lib.hid (BB.out.below hb BB.out.lt)
  have BE := Lib.hid (BE.out.trans (hb.mono BE.out.size))
  have TA := Lib.hid (TA.out.below hb)
  have AA := Lib.hid (AA.out.below hb)
  have AB := Lib.hid (AB.out.below hb)
  have Rg6 := Lib.hid bw
  clear bw hb
  refine lcal 4 20 #[.agg cs.toArray, .slice (some ⟨g6, 0, none⟩) 2 2] (some 27) _ (put_walk (F := []) [a, b] 2 _ 2 t cs w5 TA.out (pair_tms Rg6.out AA.out AB.out (by simp)) (sms_two sa sb) (all_two na nb) rfl (by omega) hs (by omega)) ?_
  rintro e w7 ⟨c1, rfl, hc, hb⟩
  rw [hR1.out] at hc ⊢
  refine ⟨_, rfl, ?_⟩
  have BQ := Lib.hid (BQ.out.below hb BQ.out.lt)
  have BA := Lib.hid (BA.out.below hb BA.out.lt)
  have BB := Lib.hid (BB.out.below hb BB.out.lt)
  have BE := Lib.hid (BE.out.trans (hb.mono BE.out.size))
  have TA := Lib.hid (TA.out.below hb)
  have AA := Lib.hid (AA.out.below hb)
  have AB := Lib.hid (AB.out.below hb)
  have Rg6 := Lib.hid (Rg6.out.below hb Rg6.out.lt)
  clear hb
  have T1 : Hid (TmAt [] w7 (R1.getD zT) c1) := TmAt.sub (fun k hk => by cases hk) _ _ hc
  have T15 := Lib.hid T1.out.len
  have T11 := Lib.hid T1.out.one
  clear hc
  clear Rg6
  refine lnow 5 (.tuple #[.agg c1.toArray, .bool R1.isSome]) (some 22) ?_
  refine lnow 6 (.agg c1.toArray) (some 28) ?_
  refine lnow 7 (.bool R1.isSome) (some 29) ?_
  obtain ⟨b8, hb8⟩ : ∃ y, Hid (w7.heap.size = y) := ⟨_, rfl⟩
  refine lall 8 25 z5T (b8) (some 7) hb8 ?_
  intro w9 bw9 bew9 hsw9
  refine lin_put 9 25 (.tmp 7) (.tmp 28) (b8) _ (z5T) (c1) (by kernel_rfl) (by kernel_rfl) (by kernel_rfl) (by kernel_rfl) (by kernel_rfl) bw9 (T15.out.trans (rfl : z5T.length = 5).symm) (t5Size T15.out) (by simpa using T11.out) ?_
  intro w10 bw10 uw10
  have hb : Below w7.heap.size w7 w10 := by rw [hb8.out]; exact uw10.below bew9 (Nat.le_refl _) (by have := bew9.size; have := hb8.out; omega)
  have BQ := Lib.hid (BQ.out.below hb BQ.out.lt)
  have BA := Lib.hid (BA.out.below hb BA.out.lt)
  have BB := Lib.hid (BB.out.below hb BB.out.lt)
  have BE := Lib.hid (BE.out.trans (hb.mono BE.out.size))
  have TA := Lib.hid (TA.out.below hb)
  have AA := Lib.hid (AA.out.below hb)
  have AB := Lib.hid (AB.out.below hb)
  have T1 := Lib.hid (T1.out.below hb)
  have BT1 := Lib.hid bw10
  clear hb bw9 bew9 hsw9 bw10 uw10
  refine lnow 10 (.bool R1.isSome) (some 8) ?_
  refine ldn 11 ?_
  generalize hact : Act.put _ (some 8) _ = act
  simp only [Act.put, sA, sC, sZ] at hact
  subst hact
  go_upto_region 6 with (fail)
  refine lbeg (opsOf Try.f5 6) ?_
  refine lrl 0 (cb) (some 31) 25 5 (q + 1 + 1) 0 (BB.out).whole Try.underlying25 (t5Size B5.out) ?_
  refine lcal 1 19 #[.agg cb.toArray, .int .i64 1, .int .i64 0] (some 32) _ (shift_walk b 1 0 cb w10 AB.out sb nb) ?_
  rintro e w11 ⟨c2, rfl, hc, hb⟩
  rw [hR2.out] at hc ⊢
  refine ⟨_, rfl, ?_⟩
  have BQ := Lib.hid (BQ.out.below hb BQ.out.lt)
  have BA := Lib.hid (BA.out.below hb BA.out.lt)
  have BB := Lib.hid (BB.out.below hb BB.out.lt)
  have BE := Lib.hid (BE.out.trans (hb.mono BE.out.size))
  have TA := Lib.hid (TA.out.below hb)
  have AA := Lib.hid (AA.out.below hb)
  have AB := Lib.hid (AB.out.below hb)
  have T1 := Lib.hid (T1.out.below hb)
  have BT1 := Lib.hid (BT1.out.below hb BT1.out.lt)
  clear hb
  have T2 : Hid (TmAt [] w11 (R2.getD zT) c2) := TmAt.sub (fun k hk => by cases hk) _ _ hc
  have T25 := Lib.hid T2.out.len
  have T21 := Lib.hid T2.out.one
  clear hc
  refine lnow 2 (.tuple #[.agg c2.toArray, .bool R2.isSome]) (some 30) ?_
  refine lnow 3 (.agg c2.toArray) (some 33) ?_
  refine lnow 4 (.bool R2.isSome) (some 34) ?_
  obtain ⟨b12, hb12⟩ : ∃ y, Hid (w11.heap.size = y) := ⟨_, rfl⟩
  refine lall 5 25 z5T (b12) (some 9) hb12 ?_
  intro w13 bw13 bew13 hsw13
  refine lin_put 6 25 (.tmp 9) (.tmp 33) (b12) _ (z5T) (c2) (by kernel_rfl) (by kernel_rfl) (by kernel_rfl) (by kernel_rfl) (by kernel_rfl) bw13 (T25.out.trans (rfl : z5T.length = 5).symm) (t5Size T25.out) (by simpa using T21.out) ?_
  intro w14 bw14 uw14
  have hb : Below w11.heap.size w11 w14 := by rw [hb12.out]; exact uw14.below bew13 (Nat.le_refl _) (by have := bew13.size; have := hb12.out; omega)
  have BQ := Lib.hid (BQ.out.below hb BQ.out.lt)
  have BA := Lib.hid (BA.out.below hb BA.out.lt)
  have BB := Lib.hid (BB.out.below hb BB.out.lt)
  have BE := Lib.hid (BE.out.trans (hb.mono BE.out.size))
  have TA := Lib.hid (TA.out.below hb)
  have AA := Lib.hid (AA.out.below hb)
  have AB := Lib.hid (AB.out.below hb)
  have T1 := Lib.hid (T1.out.below hb)
  have BT1 := Lib.hid (BT1.out.below hb BT1.out.lt)
  have T2 := Lib.hid (T2.out.below hb)
  have BT2 := Lib.hid bw14
  clear hb bw13 bew13 hsw13 bw14 uw14
  refine lnow 7 (.bool R2.isSome) (some 10) ?_
  refine ldn 8 ?_
  generalize hact : Act.put _ (some 10) _ = act
  simp only [Act.put, sA, sC, sZ] at hact
  subst hact
  go_upto_region 7 with (fail)
  refine lbeg (opsOf Try.f5 7) ?_
  refine lrl 0 (cs) (some 36) 25 3 (q) 0 (BQ.out).whole Try.underlying25 (t5Size C5.out) ?_
  refine lrl 1 (c2) (some 37) 25 9 (b12) 0 (BT2.out).whole Try.underlying25 (t5Size T25.out) ?_
  obtain ⟨g16, hgg16⟩ : ∃ y, Hid (w14.heap.size = y) := ⟨_, rfl⟩
  refine lin_rowC 2 g16 1 25 (c2) (some 38) (by kernel_rfl) (by kernel_rfl) hgg16 (exec_of _ _ (by kernel_rfl) (run_build_tm1 T2.out w14)) ?_
  intro w15 bw hb
  have BQ := Lib.hid (BQ.out.below hb BQ.out.lt)
  have BA := Lib.hid (BA.out.below hb BA.out.lt)
  have BB := Lib.hid (BB.out.below hb BB.out.lt)
  have BE := Lib.hid (BE.out.trans (hb.mono BE.out.size))
  have TA := Lib.hid (TA.out.below hb)
  have AA := Lib.hid (AA.out.below hb)
  have AB := Lib.hid (AB.out.below hb)
  have T1 := Lib.hid (T1.out.below hb)
  have BT1 := Lib.hid (BT1.out.below hb BT1.out.lt)
  have T2 := Lib.hid (T2.out.below hb)
  have BT2 := Lib.hid (BT2.out.below hb BT2.out.lt)
  have Rg16 := Lib.hid bw
  clear bw hb
  refine lcal 3 20 #[.agg cs.toArray, .slice (some ⟨g16, 0, none⟩) 1 1] (some 39) _ (put_walk (F := []) [R2.getD zT] 1 _ 1 t cs w15 TA.out (one_tms9 Rg16.out T2.out (by simp)) (sms_one M2.out.1) (all_one (by have := M2.out.2; omega)) rfl (by omega) hs (by omega)) ?_
  rintro e w17 ⟨c3, rfl, hc, hb⟩
  rw [hR3.out] at hc ⊢
  refine ⟨_, rfl, ?_⟩
  have BQ := Lib.hid (BQ.out.below hb BQ.out.lt)
  have BA := Lib.hid (BA.out.below hb BA.out.lt)
  have BB := Lib.hid (BB.out.below hb BB.out.lt)
  have BE := Lib.hid (BE.out.trans (hb.mono BE.out.size))
  have TA := Lib.hid (TA.out.below hb)
  have AA := Lib.hid (AA.out.below hb)
  have AB := Lib.hid (AB.out.below hb)
  have T1 := Lib.hid (T1.out.below hb)
  have BT1 := Lib.hid (BT1.out.below hb BT1.out.lt)
  have T2 := Lib.hid (T2.out.below hb)
  have BT2 := Lib.hid (BT2.out.below hb BT2.out.lt)
  have Rg16 := Lib.hid (Rg16.out.below hb Rg16.out.lt)
  clear hb
  have T3 : Hid (TmAt [] w17 (R3.getD zT) c3) := TmAt.sub (fun k hk => by cases hk) _ _ hc
  have T35 := Lib.hid T3.out.len
  have T31 := Lib.hid T3.out.one
  clear hc
  clear Rg16
  refine lnow 4 (.tuple #[.agg c3.toArray, .bool R3.isSome]) (some 35) ?_
  refine lnow 5 (.agg c3.toArray) (some 40) ?_
  refine lnow 6 (.bool R3.isSome) (some 41) ?_
  obtain ⟨b18, hb18⟩ : ∃ y, Hid (w17.heap.size = y) := ⟨_, rfl⟩
  refine lall 7 25 z5T (b18) (some 11) hb18 ?_
  intro w19 bw19 bew19 hsw19
  refine lin_put 8 25 (.tmp 11) (.tmp 40) (b18) _ (z5T) (c3) (by kernel_rfl) (by kernel_rfl) (by kernel_rfl) (by kernel_rfl) (by kernel_rfl) bw19 (T35.out.trans (rfl : z5T.length = 5).symm) (t5Size T35.out) (by simpa using T31.out) ?_
  intro w20 bw20 uw20
  have hb : Below w17.heap.size w17 w20 := by rw [hb18.out]; exact uw20.below bew19 (Nat.le_refl _) (by have := bew19.size; have := hb18.out; omega)
  have BQ := Lib.hid (BQ.out.below hb BQ.out.lt)
  have BA := Lib.hid (BA.out.below hb BA.out.lt)
  have BB := Lib.hid (BB.out.below hb BB.out.lt)
  have BE := Lib.hid (BE.out.trans (hb.mono BE.out.size))
  have TA := Lib.hid (TA.out.below hb)
  have AA := Lib.hid (AA.out.below hb)
  have AB := Lib.hid (AB.out.below hb)
  have T1 := Lib.hid (T1.out.below hb)
  have BT1 := Lib.hid (BT1.out.below hb BT1.out.lt)
  have T2 := Lib.hid (T2.out.below hb)
  have BT2 := Lib.hid (BT2.out.below hb BT2.out.lt)
  have T3 := Lib.hid (T3.out.below hb)
  have BT3 := Lib.hid bw20
  clear hb bw19 bew19 hsw19 bw20 uw20
  refine lnow 9 (.bool R3.isSome) (some 12) ?_
  refine ldn 10 ?_
  generalize hact : Act.put _ (some 12) _ = act
  simp only [Act.put, sA, sC, sZ] at hact
  subst hact
  go_upto_region 8 with (fail)
  refine lbeg (opsOf Try.f5 8) ?_
  refine lrl 0 (c3) (some 43) 25 11 (b18) 0 (BT3.out).whole Try.underlying25 (t5Size T35.out) ?_
  refine lrl 1 (ca) (some 44) 25 4 (q + 1) 0 (BA.out).whole Try.underlying25 (t5Size A5.out) ?_
  obtain ⟨g22, hgg22⟩ : ∃ y, Hid (w20.heap.size = y) := ⟨_, rfl⟩
  refine lin_rowC 2 g22 1 25 (ca) (some 45) (by kernel_rfl) (by kernel_rfl) hgg22 (exec_of _ _ (by kernel_rfl) (run_build_tm1 AA.out w20)) ?_
  intro w21 bw hb
  have BQ := Lib.hid (BQ.out.below hb BQ.out.lt)
  have BA := Lib.hid (BA.out.below hb BA.out.lt)
  have BB := Lib.hid (BB.out.below hb BB.out.lt)
  have BE := Lib.hid (BE.out.trans (hb.mono BE.out.size))
  have TA := Lib.hid (TA.out.below hb)
  have AA := Lib.hid (AA.out.below hb)
  have AB := Lib.hid (AB.out.below hb)
  have T1 := Lib.hid (T1.out.below hb)
  have BT1 := Lib.hid (BT1.out.below hb BT1.out.lt)
  have T2 := Lib.hid (T2.out.below hb)
  have BT2 := Lib.hid (BT2.out.below hb BT2.out.lt)
  have T3 := Lib.hid (T3.out.below hb)
  have BT3 := Lib.hid (BT3.out.below hb BT3.out.lt)
  have Rg22 := Lib.hid bw
  clear bw hb
  refine lcal 3 20 #[.agg c3.toArray, .slice (some ⟨g22, 0, none⟩) 1 1] (some 46) _ (put_walk (F := []) [a] 1 _ 1 (R3.getD zT) c3 w21 T3.out (one_tms9 Rg22.out AA.out (by simp)) (sms_one sa) (all_one na) rfl (by omega) M3.out.1 (by have := M3.out.2; omega)) ?_
  rintro e w23 ⟨c4, rfl, hc, hb⟩
  rw [hR4.out] at hc ⊢
  refine ⟨_, rfl, ?_⟩
  have BQ := Lib.hid (BQ.out.below hb BQ.out.lt)
  have BA := Lib.hid (BA.out.below hb BA.out.lt)
  have BB := Lib.hid (BB.out.below hb BB.out.lt)
  have BE := Lib.hid (BE.out.trans (hb.mono BE.out.size))
  have TA := Lib.hid (TA.out.below hb)
  have AA := Lib.hid (AA.out.below hb)
  have AB := Lib.hid (AB.out.below hb)
  have T1 := Lib.hid (T1.out.below hb)
  have BT1 := Lib.hid (BT1.out.below hb BT1.out.lt)
  have T2 := Lib.hid (T2.out.below hb)
  have BT2 := Lib.hid (BT2.out.below hb BT2.out.lt)
  have T3 := Lib.hid (T3.out.below hb)
  have BT3 := Lib.hid (BT3.out.below hb BT3.out.lt)
  have Rg22 := Lib.hid (Rg22.out.below hb Rg22.out.lt)
  clear hb
  have T4 : Hid (TmAt [] w23 (R4.getD zT) c4) := TmAt.sub (fun k hk => by cases hk) _ _ hc
  have T45 := Lib.hid T4.out.len
  have T41 := Lib.hid T4.out.one
  clear hc
  clear Rg22
  refine lnow 4 (.tuple #[.agg c4.toArray, .bool R4.isSome]) (some 42) ?_
  refine lnow 5 (.agg c4.toArray) (some 47) ?_
  refine lnow 6 (.bool R4.isSome) (some 48) ?_
  obtain ⟨b24, hb24⟩ : ∃ y, Hid (w23.heap.size = y) := ⟨_, rfl⟩
  refine lall 7 25 z5T (b24) (some 13) hb24 ?_
  intro w25 bw25 bew25 hsw25
  refine lin_put 8 25 (.tmp 13) (.tmp 47) (b24) _ (z5T) (c4) (by kernel_rfl) (by kernel_rfl) (by kernel_rfl) (by kernel_rfl) (by kernel_rfl) bw25 (T45.out.trans (rfl : z5T.length = 5).symm) (t5Size T45.out) (by simpa using T41.out) ?_
  intro w26 bw26 uw26
  have hb : Below w23.heap.size w23 w26 := by rw [hb24.out]; exact uw26.below bew25 (Nat.le_refl _) (by have := bew25.size; have := hb24.out; omega)
  have BQ := Lib.hid (BQ.out.below hb BQ.out.lt)
  have BA := Lib.hid (BA.out.below hb BA.out.lt)
  have BB := Lib.hid (BB.out.below hb BB.out.lt)
  have BE := Lib.hid (BE.out.trans (hb.mono BE.out.size))
  have TA := Lib.hid (TA.out.below hb)
  have AA := Lib.hid (AA.out.below hb)
  have AB := Lib.hid (AB.out.below hb)
  have T1 := Lib.hid (T1.out.below hb)
  have BT1 := Lib.hid (BT1.out.below hb BT1.out.lt)
  have T2 := Lib.hid (T2.out.below hb)
  have BT2 := Lib.hid (BT2.out.below hb BT2.out.lt)
  have T3 := Lib.hid (T3.out.below hb)
  have BT3 := Lib.hid (BT3.out.below hb BT3.out.lt)
  have T4 := Lib.hid (T4.out.below hb)
  have BT4 := Lib.hid bw26
  clear hb bw25 bew25 hsw25 bw26 uw26
  refine lnow 9 (.bool R4.isSome) (some 14) ?_
  refine ldn 10 ?_
  generalize hact : Act.put _ (some 14) _ = act
  simp only [Act.put, sA, sC, sZ] at hact
  subst hact
  obtain _ | r1 := R1
  · skip
    go_upto_region 9 with (fail)
    refine lbeg (opsOf Try.f5 9) ?_
    refine lnow 0 (.bool false) (some 49) ?_
    refine lnow 1 (.bool true) (some 50) ?_
    refine lnow 2 (.bool true) (some 51) ?_
    refine lpas 3 (some 52) ?_
    refine lpas 4 (some 53) ?_
    refine lnow 5 (.bool true) (some 54) ?_
    refine lnow 6 (.bool true) (some 55) ?_
    refine lpas 7 (some 56) ?_
    refine lpas 8 (some 57) ?_
    refine lnow 9 (.bool true) (some 58) ?_
    refine lnow 10 (.bool true) (some 59) ?_
    refine lpas 11 (some 60) ?_
    refine lpas 12 (some 61) ?_
    refine lnow 13 (.bool true) (some 62) ?_
    refine lnow 14 (.bool true) (some 63) ?_
    refine lpas 15 (some 64) ?_
    refine lpas 16 (some 65) ?_
    refine lpas 17 (some 66) ?_
    refine lnow 18 (.bool true) (some 67) ?_
    refine lnow 19 (.bool true) (some 6) ?_
    refine ldn 20 ?_
    generalize hact : Act.put _ (some 6) _ = act
    simp only [Act.put, sA, sC, sZ] at hact
    subst hact
    go_wp2
    go_ret
    exact ⟨rfl, BE.out⟩
  obtain _ | r2 := R2
  · skip
    go_upto_region 9 with (fail)
    refine lbeg (opsOf Try.f5 9) ?_
    refine lnow 0 (.bool true) (some 49) ?_
    refine lnow 1 (.bool false) (some 50) ?_
    refine lnow 2 (.bool false) (some 51) ?_
    refine lnow 3 (.bool false) (some 52) ?_
    refine lnow 4 (.bool true) (some 53) ?_
    refine lnow 5 (.bool true) (some 54) ?_
    refine lnow 6 (.bool true) (some 55) ?_
    refine lpas 7 (some 56) ?_
    refine lpas 8 (some 57) ?_
    refine lnow 9 (.bool true) (some 58) ?_
    refine lnow 10 (.bool true) (some 59) ?_
    refine lpas 11 (some 60) ?_
    refine lpas 12 (some 61) ?_
    refine lnow 13 (.bool true) (some 62) ?_
    refine lnow 14 (.bool true) (some 63) ?_
    refine lpas 15 (some 64) ?_
    refine lpas 16 (some 65) ?_
    refine lpas 17 (some 66) ?_
    refine lnow 18 (.bool true) (some 67) ?_
    refine lnow 19 (.bool true) (some 6) ?_
    refine ldn 20 ?_
    generalize hact : Act.put _ (some 6) _ = act
    simp only [Act.put, sA, sC, sZ] at hact
    subst hact
    go_wp2
    go_ret
    exact ⟨rfl, BE.out⟩
  obtain _ | r3 := R3
  · skip
    go_upto_region 9 with (fail)
    refine lbeg (opsOf Try.f5 9) ?_
    refine lnow 0 (.bool true) (some 49) ?_
    refine lnow 1 (.bool false) (some 50) ?_
    refine lnow 2 (.bool false) (some 51) ?_
    refine lnow 3 (.bool true) (some 52) ?_
    refine lnow 4 (.bool false) (some 53) ?_
    refine lnow 5 (.bool false) (some 54) ?_
    refine lnow 6 (.bool false) (some 55) ?_
    refine lnow 7 (.bool false) (some 56) ?_
    refine lnow 8 (.bool true) (some 57) ?_
    refine lnow 9 (.bool true) (some 58) ?_
    refine lnow 10 (.bool true) (some 59) ?_
    refine lpas 11 (some 60) ?_
    refine lpas 12 (some 61) ?_
    refine lnow 13 (.bool true) (some 62) ?_
    refine lnow 14 (.bool true) (some 63) ?_
    refine lpas 15 (some 64) ?_
    refine lpas 16 (some 65) ?_
    refine lpas 17 (some 66) ?_
    refine lnow 18 (.bool true) (some 67) ?_
    refine lnow 19 (.bool true) (some 6) ?_
    refine ldn 20 ?_
    generalize hact : Act.put _ (some 6) _ = act
    simp only [Act.put, sA, sC, sZ] at hact
    subst hact
    go_wp2
    go_ret
    exact ⟨rfl, BE.out⟩
  obtain _ | r4 := R4
  · skip
    go_upto_region 9 with (fail)
    refine lbeg (opsOf Try.f5 9) ?_
    refine lnow 0 (.bool true) (some 49) ?_
    refine lnow 1 (.bool false) (some 50) ?_
    refine lnow 2 (.bool false) (some 51) ?_
    refine lnow 3 (.bool true) (some 52) ?_
    refine lnow 4 (.bool false) (some 53) ?_
    refine lnow 5 (.bool false) (some 54) ?_
    refine lnow 6 (.bool false) (some 55) ?_
    refine lnow 7 (.bool true) (some 56) ?_
    refine lnow 8 (.bool false) (some 57) ?_
    refine lnow 9 (.bool false) (some 58) ?_
    refine lnow 10 (.bool false) (some 59) ?_
    refine lnow 11 (.bool false) (some 60) ?_
    refine lnow 12 (.bool true) (some 61) ?_
    refine lnow 13 (.bool true) (some 62) ?_
    refine lnow 14 (.bool true) (some 63) ?_
    refine lpas 15 (some 64) ?_
    refine lpas 16 (some 65) ?_
    refine lpas 17 (some 66) ?_
    refine lnow 18 (.bool true) (some 67) ?_
    refine lnow 19 (.bool true) (some 6) ?_
    refine ldn 20 ?_
    generalize hact : Act.put _ (some 6) _ = act
    simp only [Act.put, sA, sC, sZ] at hact
    subst hact
    go_wp2
    go_ret
    exact ⟨rfl, BE.out⟩
  have SAME : r1 = r4 := steps_same hR1.out hR2.out hR3.out hR4.out
  go_upto_region 9 with (fail)
  refine lbeg (opsOf Try.f5 9) ?_
  refine lnow 0 (.bool true) (some 49) ?_
  refine lnow 1 (.bool false) (some 50) ?_
  refine lnow 2 (.bool false) (some 51) ?_
  refine lnow 3 (.bool true) (some 52) ?_
  refine lnow 4 (.bool false) (some 53) ?_
  refine lnow 5 (.bool false) (some 54) ?_
  refine lnow 6 (.bool false) (some 55) ?_
  refine lnow 7 (.bool true) (some 56) ?_
  refine lnow 8 (.bool false) (some 57) ?_
  refine lnow 9 (.bool false) (some 58) ?_
  refine lnow 10 (.bool false) (some 59) ?_
  refine lnow 11 (.bool true) (some 60) ?_
  refine lnow 12 (.bool false) (some 61) ?_
  refine lnow 13 (.bool false) (some 62) ?_
  refine lnow 14 (.bool false) (some 63) ?_
  refine lrl 15 (c1) (some 64) 25 7 (b8) 0 (BT1.out).whole Try.underlying25 (t5Size T15.out) ?_
  refine lrl 16 (c4) (some 65) 25 13 (b24) 0 (BT4.out).whole Try.underlying25 (t5Size T45.out) ?_
  refine lcal 17 13 #[.agg c1.toArray, .agg c4.toArray] (some 66) _ (sameterm_walk r1 r4 c1 c4 w26 [] [] T1.out T4.out M1.out.1) ?_
  rintro e w27 ⟨rfl, hb⟩
  rw [eqT_yes SAME]
  refine ⟨_, rfl, ?_⟩
  have BQ := Lib.hid (BQ.out.below hb BQ.out.lt)
  have BA := Lib.hid (BA.out.below hb BA.out.lt)
  have BB := Lib.hid (BB.out.below hb BB.out.lt)
  have BE := Lib.hid (BE.out.trans (hb.mono BE.out.size))
  have TA := Lib.hid (TA.out.below hb)
  have AA := Lib.hid (AA.out.below hb)
  have AB := Lib.hid (AB.out.below hb)
  have T1 := Lib.hid (T1.out.below hb)
  have BT1 := Lib.hid (BT1.out.below hb BT1.out.lt)
  have T2 := Lib.hid (T2.out.below hb)
  have BT2 := Lib.hid (BT2.out.below hb BT2.out.lt)
  have T3 := Lib.hid (T3.out.below hb)
  have BT3 := Lib.hid (BT3.out.below hb BT3.out.lt)
  have T4 := Lib.hid (T4.out.below hb)
  have BT4 := Lib.hid (BT4.out.below hb BT4.out.lt)
  clear hb
  refine lnow 18 (.bool true) (some 67) ?_
  refine lnow 19 (.bool true) (some 6) ?_
  refine ldn 20 ?_
  generalize hact : Act.put _ (some 6) _ = act
  simp only [Act.put, sA, sC, sZ] at hact
  subst hact
  go_wp2
  go_ret
  exact ⟨rfl, BE.out⟩
end Go.Proofs.Ytndbpmkglddjjaa
