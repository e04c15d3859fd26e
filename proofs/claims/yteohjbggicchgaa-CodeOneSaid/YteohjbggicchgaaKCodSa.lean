/- SameDecl, of one declaration lying twice. -/
import Derived.Test.YteohjbggicchgaaKGenT
import Derived.Test.YteohjbggicchgaaKCodZ
namespace Go.Proofs.Yteohjbggicchgaa
open Go Go.RowKit
set_option maxRecDepth 100000
theorem neqg_str (a b : ByteArray) (w : World) (x y : Operand) : (eqGuard .neq 9 x y (.string a) (.string b)).run Try.prog w = .ok () w := by kernel_rfl
theorem neqr_str (a b : ByteArray) (w : World) : (binOp .neq 9 (.string a) (.string b)).run Try.prog w = .ok (.bool (!(a.toList == b.toList))) w := by kernel_rfl
theorem exec_neqS {a : Act} {w : World} {op : Oper} (x y : Operand) (yt : TypeId) (ho : op.op = .binOp .neq 9 x y yt) (s : List UInt8) (ex : a.eval x = strT s) (ey : a.eval y = strT s) : (execOp a.eval op).run Try.prog w = .ok (.value (.bool false)) w := by
 unfold execOp
 simp only [ho, ex, ey, strT, Sem.run_bind, neqg_str, Result.andThen_ok, neqr_str, beq_self_eq_true, Bool.not_true]
 rfl
set_option maxHeartbeats 8000000 in
theorem samedecl_same (d : Dc) (cs cs2 : List Value) (w : World) (F G : List Nat) (hd : DcAt F w d cs) (hd2 : DcAt G w d cs2) (hs : SmD d) : Calls Try.prog 22 #[.agg cs.toArray, .agg cs2.toArray] w fun e w' => e = .returned (.bool true) ∧ Below w.heap.size w w' := by
 obtain ⟨tc, vc, cv, hform, hty, hval, hcts⟩ := id hd
 obtain ⟨tc2, vc2, cv2, hform2, hty2, hval2, hcts2⟩ := id hd2
 obtain ⟨ca, cc, rfl⟩ := hcts.slice
 obtain ⟨ca2, cc2, rfl⟩ := hcts2.slice
 have C15 := Lib.hid hd.len
 have C15b := Lib.hid hd2.len
 have ONE := Lib.hid hd.one
 have ONEb := Lib.hid hd2.one
 have FM := Lib.hid hform
 have FM2 := Lib.hid hform2
 have TY := Lib.hid hty
 have TY2 := Lib.hid hty2
 have VA := Lib.hid hval
 have VA2 := Lib.hid hval2
 have CT := Lib.hid hcts
 have CT2 := Lib.hid hcts2
 have SM := Lib.hid hs
 obtain ⟨q, hq⟩ : ∃ q, Hid (w.heap.size = q) := ⟨_, rfl⟩
 obtain ⟨N, hN⟩ : ∃ N, Hid (d.ctors.length = N) := ⟨_, rfl⟩
 rw [hN.out] at FM FM2 CT CT2
 clear hd hd2 hform hform2 hty hty2 hval hval2 hcts hcts2 hs
 go_enter Try.func22, Try.ntmps22
 go_upto_region 0 with (fail)
 refine lbeg (opsOf Try.f22 0) ?_
 refine lbox 0 38 (.tmp 0) cs q (some 2) hq ?_
 intro w1 b1 be1 hs1
 refine lbox 1 38 (.tmp 1) cs2 (q + 1) (some 3) hs1 ?_
 intro w2 b2 be2 hs2
 refine lnow 2 (.bool false) (some 4) ?_
 refine ldn 3 ?_
 generalize hact : Act.put _ (some 4) _ = act
 simp only [Act.put, sA, sC, sZ] at hact
 subst hact
 have BQ : Hid (Blk w2 q 38 cs) := b1.below be2 (Nat.lt_succ_self q)
 have BQ2 := Lib.hid b2
 have BE : Hid (Below q w w2) := be1.trans (be2.mono (Nat.le_succ q))
 have STP : Step ([] : List Nat) w [] w2 := Step.of_below BE.out (Nat.le_of_eq hq.out)
 have TY := Lib.hid (TY.out.below (by rw [hq.out]; exact BE.out))
 have TY2 := Lib.hid (TY2.out.below (by rw [hq.out]; exact BE.out))
 have VA := Lib.hid (VA.out.below (by rw [hq.out]; exact BE.out))
 have VA2 := Lib.hid (VA2.out.below (by rw [hq.out]; exact BE.out))
 have CT := Lib.hid (CT.out.below (by rw [hq.out]; exact BE.out))
 have CT2 := Lib.hid (CT2.out.below (by rw [hq.out]; exact BE.out))
 have S2 : Hid (w2.heap.size = q + 2) := hs2
 clear b1 be1 hs1 b2 be2 hs2 STP
 go_upto_region 1 with (fail)
 refine lbeg (opsOf Try.f22 1) ?_
 refine lnow 0 (.pointer (some ⟨q, 0, none⟩)) (some 6) ?_
 refine lcl 1 (.int .i64 d.kind) (some 7) 3 6 (q) 0 (FM.out.k BQ.out) Try.underlying3 ?_
 refine lnow 2 (.pointer (some ⟨q + 1, 0, none⟩)) (some 8) ?_
 refine lcl 3 (.int .i64 d.kind) (some 9) 3 8 (q + 1) 0 (FM2.out.k BQ2.out) Try.underlying3 ?_
 refine lnow 4 (.bool (!decide (d.kind = d.kind))) (some 10) ?_
 rw [show (!decide (d.kind = d.kind)) = false by simp]
 refine lnow 5 (.bool false) (some 11) ?_
 refine lnow 6 (.pointer (some ⟨q, 1, none⟩)) (some 12) ?_
 refine lcl 7 (.int .i64 d.params) (some 13) 3 12 (q) 1 (FM.out.p BQ.out) Try.underlying3 ?_
 refine lnow 8 (.pointer (some ⟨q + 1, 1, none⟩)) (some 14) ?_
 refine lcl 9 (.int .i64 d.params) (some 15) 3 14 (q + 1) 1 (FM2.out.p BQ2.out) Try.underlying3 ?_
 refine lnow 10 (.bool (!decide (d.params = d.params))) (some 16) ?_
 rw [show (!decide (d.params = d.params)) = false by simp]
 refine lnow 11 (.bool false) (some 17) ?_
 refine lnow 12 (.bool false) (some 18) ?_
 refine lnow 13 (.pointer (some ⟨q, 2, none⟩)) (some 19) ?_
 refine lcl 14 (strT d.name) (some 20) 9 19 (q) 2 (FM.out.n BQ.out) Try.underlying9 ?_
 refine lnow 15 (.pointer (some ⟨q + 1, 2, none⟩)) (some 21) ?_
 refine lcl 16 (strT d.name) (some 22) 9 21 (q + 1) 2 (FM2.out.n BQ2.out) Try.underlying9 ?_
 refine lnowP 17 (.bool false) (some 23) (exec_neqS (.tmp 20) (.tmp 22) 9 (by kernel_rfl) d.name (by kernel_rfl) (by kernel_rfl)) ?_
 refine lnow 18 (.bool false) (some 24) ?_
 refine lnow 19 (.bool false) (some 25) ?_
 refine lnow 20 (.pointer (some ⟨q, 13, none⟩)) (some 26) ?_
 refine lcl 21 (.int .i64 d.fixed) (some 27) 3 26 (q) 13 (FM.out.f BQ.out) Try.underlying3 ?_
 refine lnow 22 (.pointer (some ⟨q + 1, 13, none⟩)) (some 28) ?_
 refine lcl 23 (.int .i64 d.fixed) (some 29) 3 28 (q + 1) 13 (FM2.out.f BQ2.out) Try.underlying3 ?_
 refine lnow 24 (.bool (!decide (d.fixed = d.fixed))) (some 30) ?_
 rw [show (!decide (d.fixed = d.fixed)) = false by simp]
 refine lnow 25 (.bool false) (some 31) ?_
 refine lnow 26 (.bool false) (some 32) ?_
 refine lnow 27 (.pointer (some ⟨q, 14, none⟩)) (some 33) ?_
 refine lcl 28 (.slice ca N cc) (some 34) 36 33 (q) 14 (FM.out.c BQ.out) Try.underlying36 ?_
 refine lnow 29 (.int .i64 (N : Int)) (some 35) ?_
 refine lnow 30 (.pointer (some ⟨q + 1, 14, none⟩)) (some 36) ?_
 refine lcl 31 (.slice ca2 N cc2) (some 37) 36 36 (q + 1) 14 (FM2.out.c BQ2.out) Try.underlying36 ?_
 refine lnow 32 (.int .i64 (N : Int)) (some 38) ?_
 refine lnow 33 (.bool (!decide ((N : Int) = (N : Int)))) (some 39) ?_
 rw [show (!decide ((N : Int) = (N : Int))) = false by simp]
 refine lnow 34 (.bool false) (some 40) ?_
 refine lnow 35 (.bool false) (some 41) ?_
 refine lnow 36 (.pointer (some ⟨q, 3, none⟩)) (some 42) ?_
 refine lrl 37 (tc) (some 43) 25 42 (q) (3) (FM.out.tr BQ.out) Try.underlying25 (t5Size FM.out.t5) ?_
 refine lnow 38 (.pointer (some ⟨q + 1, 3, none⟩)) (some 44) ?_
 refine lrl 39 (tc2) (some 45) 25 44 (q + 1) (3) (FM2.out.tr BQ2.out) Try.underlying25 (t5Size FM2.out.t5) ?_
 refine lcal 40 26 #[.agg tc.toArray, .agg tc2.toArray] (some 46) _ (sameterm_walk d.ty d.ty tc tc2 w2 _ _ TY.out TY2.out SM.out.ty) ?_
 rw [eqT_yes rfl]
 rintro e w3 ⟨rfl, hb3⟩
 refine ⟨_, rfl, ?_⟩
 have BQ := Lib.hid (BQ.out.below hb3 BQ.out.lt)
 have BQ2 := Lib.hid (BQ2.out.below hb3 BQ2.out.lt)
 have VA := Lib.hid (VA.out.below hb3)
 have VA2 := Lib.hid (VA2.out.below hb3)
 have CT := Lib.hid (CT.out.below hb3)
 have CT2 := Lib.hid (CT2.out.below hb3)
 have BE3 : Hid (Below q w w3) := BE.out.trans (hb3.mono (by have := S2.out; omega))
 have S3 : Hid (q + 2 ≤ w3.heap.size) := by have := hb3.size; have := S2.out; rw [Hid]; omega
 clear hb3
 refine lnow 41 (.bool false) (some 47) ?_
 refine lnow 42 (.bool false) (some 48) ?_
 refine lnow 43 (.bool false) (some 49) ?_
 refine lnow 44 (.pointer (some ⟨q, 8, none⟩)) (some 50) ?_
 refine lrl 45 (vc) (some 51) 25 50 (q) (8) (FM.out.vr BQ.out) Try.underlying25 (t5Size FM.out.v5) ?_
 refine lnow 46 (.pointer (some ⟨q + 1, 8, none⟩)) (some 52) ?_
 refine lrl 47 (vc2) (some 53) 25 52 (q + 1) (8) (FM2.out.vr BQ2.out) Try.underlying25 (t5Size FM2.out.v5) ?_
 refine lcal 48 26 #[.agg vc.toArray, .agg vc2.toArray] (some 54) _ (sameterm_walk d.val d.val vc vc2 w3 _ _ VA.out VA2.out SM.out.val) ?_
 rw [eqT_yes rfl]
 rintro e w4 ⟨rfl, hb4⟩
 refine ⟨_, rfl, ?_⟩
 have BQ := Lib.hid (BQ.out.below hb4 BQ.out.lt)
 have BQ2 := Lib.hid (BQ2.out.below hb4 BQ2.out.lt)
 have CT := Lib.hid (CT.out.below hb4)
 have CT2 := Lib.hid (CT2.out.below hb4)
 have BE4 : Hid (Below q w w4) := BE3.out.trans (hb4.mono (by have := S3.out; omega))
 have S4 : Hid (q + 2 ≤ w4.heap.size) := Nat.le_trans S3.out hb4.size
 clear hb4
 refine lnow 49 (.bool false) (some 55) ?_
 refine lnow 50 (.bool false) (some 56) ?_
 refine ldn 51 ?_
 generalize hact : Act.put _ (some 56) _ = act
 simp only [Act.put, sA, sC, sZ] at hact
 subst hact
 go_upto_region 3 with (fail)
 refine lbeg (opsOf Try.f22 3) ?_
 refine lnow 0 (.int .i64 0) (some 5) ?_
 refine ldn 1 ?_
 generalize hact : Act.put _ (some 5) _ = act
 simp only [Act.put, sA, sC, sZ] at hact
 subst hact
 clear TY TY2 VA VA2 BE BE3 S2 S3
 go_wp2
 go_loopw [5] (fun iv wr => ∃ i : Nat, i ≤ N ∧ iv = .int .i64 (i : Int) ∧ Hid (Blk wr q 38 cs) ∧ Hid (Blk wr (q + 1) 38 cs2) ∧ Hid (CtsAt F wr d.ctors (.slice ca N cc)) ∧ Hid (CtsAt G wr d.ctors (.slice ca2 N cc2)) ∧ Hid (Below q w wr) ∧ Hid (q + 2 ≤ wr.heap.size)) (fun iv _ => N - (intOf iv).toNat)
 case atStart => exact ⟨0, Nat.zero_le _, rfl, BQ, BQ2, CT, CT2, BE4, S4⟩
 case round =>
  clear BQ BQ2 CT CT2 BE4 S4
  obtain ⟨i, hi, rfl, BQ, BQ2, CT, CT2, BE, SZ⟩ := hrel
  by_cases hlt : i < N
  rotate_left
  ·skip
   have c1 : ¬ (i : Int) < (N : Int) := by omega
   go_upto_region 4 with (fail)
   refine lbeg (opsOf Try.f22 4) ?_
   refine lnow 0 (.int .i64 (i : Int)) (some 57) ?_
   refine lnow 1 (.pointer (some ⟨q, 14, none⟩)) (some 58) ?_
   refine lcl 2 (.slice ca N cc) (some 59) 36 58 (q) 14 (FM.out.c BQ.out) Try.underlying36 ?_
   refine lnow 3 (.int .i64 (N : Int)) (some 60) ?_
   refine lnow 4 (.bool (decide ((i : Int) < (N : Int)))) (some 61) ?_
   rw [decide_eq_false c1]
   refine ldn 5 ?_
   generalize hact : Act.put _ (some 61) _ = act
   simp only [Act.put, sA, sC, sZ] at hact
   subst hact
   go_upto_region 8 with (fail)
   refine lbeg (opsOf Try.f22 8) ?_
   refine lnow 0 (.bool true) (some 4) ?_
   refine ldn 1 ?_
   generalize hact : Act.put _ (some 4) _ = act
   simp only [Act.put, sA, sC, sZ] at hact
   subst hact
   go_wp2
   go_ret
   exact ⟨rfl, by rw [hq.out]; exact BE.out⟩
  have c1 : (i : Int) < (N : Int) := by omega
  go_upto_region 4 with (fail)
  refine lbeg (opsOf Try.f22 4) ?_
  refine lnow 0 (.int .i64 (i : Int)) (some 57) ?_
  refine lnow 1 (.pointer (some ⟨q, 14, none⟩)) (some 58) ?_
  refine lcl 2 (.slice ca N cc) (some 59) 36 58 (q) 14 (FM.out.c BQ.out) Try.underlying36 ?_
  refine lnow 3 (.int .i64 (N : Int)) (some 60) ?_
  refine lnow 4 (.bool (decide ((i : Int) < (N : Int)))) (some 61) ?_
  rw [decide_eq_true c1]
  refine ldn 5 ?_
  generalize hact : Act.put _ (some 61) _ = act
  simp only [Act.put, sA, sC, sZ] at hact
  subst hact
  obtain ⟨x, pb, po, xs, hx, hxm, hca, -, hpb, hrx, htx⟩ := CT.out.get hN.out hlt
  obtain ⟨y, pb2, po2, ys, hy, -, hca2, -, hpb2, hry, hty⟩ := CT2.out.get hN.out hlt
  obtain rfl : x = y := by rw [hx] at hy; exact Option.some.inj hy
  subst hca
  subst hca2
  have X5 := Lib.hid htx.len
  have Y5 := Lib.hid hty.len
  have SX := Lib.hid (SM.out.ctors x hxm)
  have N64 : Hid (N < 4611686018427387904) := by have := SM.out.num; have hr : reachBytes = 140737488351232 := rfl; rw [hN.out, hr] at this; rw [Hid]; omega
  go_upto_region 6 with (fail)
  refine region_begin (opsOf Try.f22 6) (fun W' => Below wr.heap.size wr W') (by kernel_rfl) (by kernel_rfl) 29 (by kernel_rfl) ?_
  intro Q' hQN hN
  have HS0 : Below wr.heap.size wr wr.drew := (Below.refl _ _).drew
  generalize wr.drew = wd at HS0 ⊢
  refine reg_now 0 (.pointer (some ⟨q, 14, none⟩)) (some 64) hQN HS0 (by kernel_rfl) (by kernel_rfl) (fun w => by kernel_rfl) ?_
  refine reg_nowIf 1 (.slice (some ⟨pb, po, none⟩) N cc) (some 65) hQN HS0 (by kernel_rfl) (by kernel_rfl) (fun w' hw => exec_load_cell 36 (.tmp 64) (by kernel_rfl) (q) (14) (by kernel_rfl) _ (FM.out.c (BQ.out.below hw BQ.out.lt)) _ Try.underlying36 rfl) ?_
  refine reg_now 2 (.int .i64 (i : Int)) (some 66) hQN HS0 (by kernel_rfl) (by kernel_rfl) (fun w => by kernel_rfl) ?_
  refine reg_now 3 (.pointer (some ⟨pb, po + 6 * i, none⟩)) (some 67) hQN HS0 (by kernel_rfl) (by kernel_rfl) (fun w' => exec_indexAt 36 (.tmp 65) (.tmp 66) (by kernel_rfl) _ _ _ (by kernel_rfl) (by kernel_rfl) (run_at_ct pb po N cc i hlt w')) ?_
  refine reg_now 4 (.pointer (some ⟨pb, po + 6 * i, none⟩)) (some 68) hQN HS0 (by kernel_rfl) (by kernel_rfl) (fun w => by kernel_rfl) ?_
  refine reg_nowIf 5 (strT x.1) (some 69) hQN HS0 (by kernel_rfl) (by kernel_rfl) (fun w' hw => exec_load_cell 9 (.tmp 68) (by kernel_rfl) (pb) (po + 6 * i) (by kernel_rfl) _ (ct_name (rangeBelow hw hpb hrx)) _ Try.underlying9 rfl) ?_
  refine reg_now 6 (.pointer (some ⟨q + 1, 14, none⟩)) (some 70) hQN HS0 (by kernel_rfl) (by kernel_rfl) (fun w => by kernel_rfl) ?_
  refine reg_nowIf 7 (.slice (some ⟨pb2, po2, none⟩) N cc2) (some 71) hQN HS0 (by kernel_rfl) (by kernel_rfl) (fun w' hw => exec_load_cell 36 (.tmp 70) (by kernel_rfl) (q + 1) (14) (by kernel_rfl) _ (FM2.out.c (BQ2.out.below hw BQ2.out.lt)) _ Try.underlying36 rfl) ?_
  refine reg_now 8 (.int .i64 (i : Int)) (some 72) hQN HS0 (by kernel_rfl) (by kernel_rfl) (fun w => by kernel_rfl) ?_
  refine reg_now 9 (.pointer (some ⟨pb2, po2 + 6 * i, none⟩)) (some 73) hQN HS0 (by kernel_rfl) (by kernel_rfl) (fun w' => exec_indexAt 36 (.tmp 71) (.tmp 72) (by kernel_rfl) _ _ _ (by kernel_rfl) (by kernel_rfl) (run_at_ct pb2 po2 N cc2 i hlt w')) ?_
  refine reg_now 10 (.pointer (some ⟨pb2, po2 + 6 * i, none⟩)) (some 74) hQN HS0 (by kernel_rfl) (by kernel_rfl) (fun w => by kernel_rfl) ?_
  refine reg_nowIf 11 (strT x.1) (some 75) hQN HS0 (by kernel_rfl) (by kernel_rfl) (fun w' hw => exec_load_cell 9 (.tmp 74) (by kernel_rfl) (pb2) (po2 + 6 * i) (by kernel_rfl) _ (ct_name (rangeBelow hw hpb2 hry)) _ Try.underlying9 rfl) ?_
  refine reg_now 12 (.bool false) (some 76) hQN HS0 (by kernel_rfl) (by kernel_rfl) (fun w' => exec_neqS (.tmp 69) (.tmp 75) 9 (by kernel_rfl) x.1 (by kernel_rfl) (by kernel_rfl)) ?_
  refine reg_now 13 (.bool false) (some 77) hQN HS0 (by kernel_rfl) (by kernel_rfl) (fun w => by kernel_rfl) ?_
  refine reg_now 14 (.pointer (some ⟨q, 14, none⟩)) (some 78) hQN HS0 (by kernel_rfl) (by kernel_rfl) (fun w => by kernel_rfl) ?_
  refine reg_nowIf 15 (.slice (some ⟨pb, po, none⟩) N cc) (some 79) hQN HS0 (by kernel_rfl) (by kernel_rfl) (fun w' hw => exec_load_cell 36 (.tmp 78) (by kernel_rfl) (q) (14) (by kernel_rfl) _ (FM.out.c (BQ.out.below hw BQ.out.lt)) _ Try.underlying36 rfl) ?_
  refine reg_now 16 (.int .i64 (i : Int)) (some 80) hQN HS0 (by kernel_rfl) (by kernel_rfl) (fun w => by kernel_rfl) ?_
  refine reg_now 17 (.pointer (some ⟨pb, po + 6 * i, none⟩)) (some 81) hQN HS0 (by kernel_rfl) (by kernel_rfl) (fun w' => exec_indexAt 36 (.tmp 79) (.tmp 80) (by kernel_rfl) _ _ _ (by kernel_rfl) (by kernel_rfl) (run_at_ct pb po N cc i hlt w')) ?_
  refine reg_now 18 (.pointer (some ⟨pb, po + 6 * i + 1, none⟩)) (some 82) hQN HS0 (by kernel_rfl) (by kernel_rfl) (fun w => by kernel_rfl) ?_
  skip
  refine reg_nowIf 19 (.agg xs.toArray) (some 83) hQN HS0 (by kernel_rfl) (by kernel_rfl) (fun w' hw => exec_load_mid 25 (.tmp 82) (by kernel_rfl) pb (po + 6 * i + 1) (by kernel_rfl) xs _ (ct_type (rangeBelow hw hpb hrx)) Try.underlying25 rfl (t5Size X5.out)) ?_
  refine reg_now 20 (.pointer (some ⟨q + 1, 14, none⟩)) (some 84) hQN HS0 (by kernel_rfl) (by kernel_rfl) (fun w => by kernel_rfl) ?_
  refine reg_nowIf 21 (.slice (some ⟨pb2, po2, none⟩) N cc2) (some 85) hQN HS0 (by kernel_rfl) (by kernel_rfl) (fun w' hw => exec_load_cell 36 (.tmp 84) (by kernel_rfl) (q + 1) (14) (by kernel_rfl) _ (FM2.out.c (BQ2.out.below hw BQ2.out.lt)) _ Try.underlying36 rfl) ?_
  refine reg_now 22 (.int .i64 (i : Int)) (some 86) hQN HS0 (by kernel_rfl) (by kernel_rfl) (fun w => by kernel_rfl) ?_
  refine reg_now 23 (.pointer (some ⟨pb2, po2 + 6 * i, none⟩)) (some 87) hQN HS0 (by kernel_rfl) (by kernel_rfl) (fun w' => exec_indexAt 36 (.tmp 85) (.tmp 86) (by kernel_rfl) _ _ _ (by kernel_rfl) (by kernel_rfl) (run_at_ct pb2 po2 N cc2 i hlt w')) ?_
  refine reg_now 24 (.pointer (some ⟨pb2, po2 + 6 * i + 1, none⟩)) (some 88) hQN HS0 (by kernel_rfl) (by kernel_rfl) (fun w => by kernel_rfl) ?_
  refine reg_nowIf 25 (.agg ys.toArray) (some 89) hQN HS0 (by kernel_rfl) (by kernel_rfl) (fun w' hw => exec_load_mid 25 (.tmp 88) (by kernel_rfl) pb2 (po2 + 6 * i + 1) (by kernel_rfl) ys _ (ct_type (rangeBelow hw hpb2 hry)) Try.underlying25 rfl (t5Size Y5.out)) ?_
  refine reg_call 26 26 #[.agg xs.toArray, .agg ys.toArray] (some 90) _ (by kernel_rfl) (by kernel_rfl) (by kernel_rfl) (sameterm_walk x.2 x.2 xs ys wd _ _ (htx.below HS0) (hty.below HS0) SX.out.2) ?_
  rw [eqT_yes rfl]
  rintro e w5 ⟨rfl, hb5⟩
  have HS5 : Below wr.heap.size wr w5 := HS0.trans (hb5.mono HS0.size)
  refine ⟨_, rfl, HS5, ?_⟩
  refine reg_now 27 (.bool false) (some 91) hQN HS5 (by kernel_rfl) (by kernel_rfl) (fun w => by kernel_rfl) ?_
  refine reg_now 28 (.bool false) (some 92) hQN HS5 (by kernel_rfl) (by kernel_rfl) (fun w => by kernel_rfl) ?_
  have BQ := Lib.hid (BQ.out.below HS5 BQ.out.lt)
  have BQ2 := Lib.hid (BQ2.out.below HS5 BQ2.out.lt)
  have CT := Lib.hid (CT.out.below HS5)
  have CT2 := Lib.hid (CT2.out.below HS5)
  have BE5 : Hid (Below q w w5) := BE.out.trans (HS5.mono (by have := SZ.out; omega))
  have SZ5 : Hid (q + 2 ≤ w5.heap.size) := Nat.le_trans SZ.out HS5.size
  refine reg_done (by kernel_rfl) (hN _ _ ?_)
  generalize hact : Act.put _ (some 92) _ = act
  simp only [Act.put, sA, sC, sZ] at hact
  subst hact
  clear HS0 HS5 hb5 hrx hry htx hty hpb hpb2 hx hy hxm hQN hN
  have n64 := N64.out
  go_wp2
  go_roundw
  case rel => exact ⟨i + 1, by omega, by go_num, BQ, BQ2, CT, CT2, BE5, SZ5⟩
  case measure => simp [intOf]; omega
end Go.Proofs.Yteohjbggicchgaa
