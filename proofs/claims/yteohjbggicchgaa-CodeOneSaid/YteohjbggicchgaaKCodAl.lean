/- Law 10's alive. -/
import Derived.Test.YteohjbggicchgaaKGenT
import Derived.Test.YteohjbggicchgaaKCodSa
import Derived.Test.YteohjbggicchgaaKCodO
namespace Go.Proofs.Yteohjbggicchgaa
open Go Go.RowKit
set_option maxRecDepth 100000
def cP : List Value := [.int .i64 2, .int .i64 0, strT [], .slice none 0 0, .slice none 0 0]
def cV : List Value := [.int .i64 1, .int .i64 0, strT [], .slice none 0 0, .slice none 0 0]
def tP : Tm := .mk 2 0 [] [] []
def tV : Tm := .mk 1 0 [] [] []
def dP : Dc := ⟨1, 0, [112], tP, nT, 0, []⟩
def dcP : List Value := dC0 1 0 [112] cP
theorem tP_at (F : List Nat) (w : World) : TmAt F w tP cP := TmAt.mk (t := tP) (LvsOff.nil _ _ _ _) (TmsAt.nil _ _ _ _)
theorem tV_at (F : List Nat) (w : World) : TmAt F w tV cV := TmAt.mk (t := tV) (LvsOff.nil _ _ _ _) (TmsAt.nil _ _ _ _)
theorem dP_at (F : List Nat) (w : World) : DcAt F w dP dcP := ⟨cP, z5T, _, dC0_form rfl, tP_at F w, nT_at F w, CtsAt.nil _ _ _ _⟩
theorem tP_good : GoodT tP := ⟨by rw [tP, SmT]; exact ⟨by simp, by simp, by simp, SmTs.of (fun t h => by cases h)⟩, by rw [tP, nodesT, nodesTs]; decide⟩
theorem tV_good : GoodT tV := ⟨by rw [tV, SmT]; exact ⟨by simp, by simp, by simp, SmTs.of (fun t h => by cases h)⟩, by rw [tV, nodesT, nodesTs]; decide⟩
theorem dP_good : GoodD dP := ⟨by decide, tP_good, nT_good, GoodC.nil⟩
theorem f10_num : numOk 300 = true := by kernel_rfl
theorem f10_numv : numV 300 = [2, 1, 44] := by kernel_rfl
theorem f10_take : numP [1, 7, 9] = some (7, [9]) := by kernel_rfl
theorem f10_term : termOk tV = true := by kernel_rfl
theorem f10_termv : termV tV = [1, 0] := by kernel_rfl
theorem f10_form : formB dP = true := by
 unfold formB
 rw [show dP.kind = 1 from rfl, if_pos rfl, eqT_yes (show dP.val = nT from rfl)]
 kernel_rfl
theorem f10_declv : declV dP = [1, 1, 1, 112, 0, 2] := by
 unfold declV
 rw [if_pos f10_form]
 kernel_rfl
theorem f10_lib : libOk [dP] = true := by
 unfold libOk
 simp [f10_form]
theorem f10_libv : libV [dP] = numB 1 ++ dsB [dP] := by
 unfold libV
 rw [if_pos f10_lib]
 rfl
theorem f10_back : libP (libV [dP]) = some [dP] := by
 rw [f10_libv]
 exact libP_full f10_lib (fun d hd => by
  rw [List.mem_singleton.1 hd]
  exact ⟨TmAt.lv _ _ (tP_at [] default), TmAt.lv _ _ (nT_at [] default), fun c hc => by cases hc⟩)
theorem f10_bytes : libV [dP] = [1, 1, 1, 1, 1, 112, 0, 2] := by
 rw [f10_libv]
 kernel_rfl
theorem run_build_d1 (w : World) : (Instr.buildSlice 26 1 #[(0, .agg dcP.toArray)]).run Try.prog w = .ok (.slice (some ⟨w.heap.size, 0, none⟩) 1 1) (w.alloc (.cells dcP.toArray 38)) := by kernel_rfl
theorem one_dcs {F : List Nat} {w : World} {d : Dc} {cs : List Value} {g : Nat} (hb : Blk w g 38 cs) (hd : DcAt F w d cs) (hg : g ∉ F) : DcsAt F w [d] (.slice (some ⟨g, 0, none⟩) 1 1) :=
 DcCells.dcs (cs := [cs]) ⟨hd, trivial⟩ rfl hb (by simp) hg
set_option maxHeartbeats 8000000 in
theorem alive10_walk (w : World) : Calls Try.prog 7 #[] w fun e w' => e = .returned (.bool true) ∧ Below w.heap.size w w' := by
 obtain ⟨q, hq⟩ : ∃ q, Hid (w.heap.size = q) := ⟨_, rfl⟩
 go_enter Try.func7, Try.ntmps7
 go_upto_region 0 with (fail)
 refine lbeg (opsOf Try.f7 0) ?_
 refine lnow 0 (.bool false) (some 0) ?_
 refine ldn 1 ?_
 generalize hact : Act.put _ (some 0) _ = act
 simp only [Act.put, sA, sC, sZ] at hact
 subst hact
 go_upto_region 1 with (fail)
 refine lbeg (opsOf Try.f7 1) ?_
 refine lnow 0 (.agg cP.toArray) (some 16) ?_
 refine lall 1 25 z5T (q) (some 1) hq ?_
 intro w1 bw1 bew1 hsw1
 refine lput 2 25 (.tmp 1) (.tmp 16) (q) _ (z5T) (cP) bw1 ((rfl : cP.length = 5).trans (rfl : z5T.length = 5).symm) (t5Size (rfl : cP.length = 5)) (by simpa using (tP_at [] w1).one) ?_
 intro w2 bw2 uw2
 refine ldn 3 ?_
 generalize hact : Act.put _ none _ = act
 simp only [Act.put, sA, sC, sZ] at hact
 subst hact
 have BT := Lib.hid bw2
 have BE : Hid (Below q w w2) := uw2.below bew1 (Nat.le_refl _) (by have := hsw1.out; omega)
 obtain ⟨p, hp⟩ : ∃ p, Hid (w2.heap.size = p) := ⟨_, rfl⟩
 have QP : Hid (q < p) := by have := bw2.lt; have := hp.out; rw [Hid]; omega
 clear bw1 bew1 hsw1 bw2 uw2
 go_upto_region 2 with (fail)
 refine lbeg (opsOf Try.f7 2) ?_
 refine lrl 0 (cP) (some 17) 25 1 (q) 0 (BT.out).whole Try.underlying25 (t5Size (rfl : cP.length = 5)) ?_
 refine lnow 1 (.agg dcP.toArray) (some 18) ?_
 refine lin_alloc 2 38 zD p (some 2) (by kernel_rfl) (by kernel_rfl) (by kernel_rfl) zeroDc hp ?_
 intro w3 b3 be3 hs3
 refine lput 3 38 (.tmp 2) (.tmp 18) p _ zD dcP b3 rfl (dcSize rfl) (by simpa using (dP_at [] w3).one) ?_
 intro w4 b4 u4
 refine ldn 4 ?_
 generalize hact : Act.put _ none _ = act
 simp only [Act.put, sA, sC, sZ] at hact
 subst hact
 have BD := Lib.hid b4
 have BE : Hid (Below q w w4) := BE.out.trans ((u4.below be3 (Nat.le_refl _) (by have := hs3.out; omega)).mono (Nat.le_of_lt QP.out))
 have SQ : Hid (q ≤ w4.heap.size) := by have := b4.lt; have := QP.out; rw [Hid]; omega
 clear b3 be3 hs3 b4 u4 BT hp
 go_upto_region 3 with (fail)
 refine lbeg (opsOf Try.f7 3) ?_
 have CALL := Num_walk 300 w4
 rw [f10_num, f10_numv] at CALL
 refine lcal 0 10 #[.int .i64 300] (some 20) _ (CALL) ?_
 rintro e w5 ⟨v3, rfl, hr, hb⟩
 refine ⟨_, rfl, ?_⟩
 clear CALL
 refine lnow 1 (.tuple #[v3, .bool true]) (some 19) ?_
 refine lnow 2 (v3) (some 21) ?_
 refine lnow 3 (.bool true) (some 22) ?_
 refine lnow 4 (v3) (some 3) ?_
 refine lnow 5 (.bool true) (some 4) ?_
 refine ldn 6 ?_
 generalize hact : Act.put _ (some 4) _ = act
 simp only [Act.put, sA, sC, sZ] at hact
 subst hact
 have R3 := Lib.hid hr
 have BE : Hid (Below q w w5) := BE.out.trans (hb.mono SQ.out)
 have SQ : Hid (q ≤ w5.heap.size) := Nat.le_trans SQ.out hb.size
 have BD := Lib.hid (BD.out.below hb BD.out.lt)
 clear hb
 clear hr
 go_upto_region 4 with (fail)
 refine lbeg (opsOf Try.f7 4) ?_
 refine lin_new 0 (some 24) [1, 7, 9] 3 rfl (by decide) (by kernel_rfl) (by kernel_rfl) (by kernel_rfl) ?_
 intro v5 w6 r6 hb _ _
 have RX := Lib.hid r6
 have BE : Hid (Below q w w6) := BE.out.trans (hb.mono SQ.out)
 have SQ : Hid (q ≤ w6.heap.size) := Nat.le_trans SQ.out hb.size
 have BD := Lib.hid (BD.out.below hb BD.out.lt)
 have R3 := Lib.hid (R3.out.below hb)
 clear hb
 clear r6
 have CALL := TakeNum_walk v5 [1, 7, 9] w6 RX.out.in (by intro z hz; simp only [List.mem_cons, List.not_mem_nil, or_false] at hz; omega) (by decide)
 rw [f10_take] at CALL
 refine lcal 1 23 #[v5] (some 25) _ (CALL) ?_
 rintro e w7 ⟨hb, v, v6, rfl, hv, hr⟩
 obtain rfl : v = .int .i64 7 := hv
 refine ⟨_, rfl, ?_⟩
 clear CALL
 refine lnow 2 (.tuple #[.int .i64 7, v6, .bool true]) (some 23) ?_
 refine lnow 3 (.int .i64 7) (some 26) ?_
 refine lnow 4 (v6) (some 27) ?_
 refine lnow 5 (.bool true) (some 28) ?_
 refine lnow 6 (.int .i64 7) (some 5) ?_
 refine lnow 7 (v6) (some 6) ?_
 refine lnow 8 (.bool true) (some 7) ?_
 refine ldn 9 ?_
 generalize hact : Act.put _ (some 7) _ = act
 simp only [Act.put, sA, sC, sZ] at hact
 subst hact
 have R6 := Lib.hid hr
 have BE : Hid (Below q w w7) := BE.out.trans (hb.mono SQ.out)
 have SQ : Hid (q ≤ w7.heap.size) := Nat.le_trans SQ.out hb.size
 have BD := Lib.hid (BD.out.below hb BD.out.lt)
 have R3 := Lib.hid (R3.out.below hb)
 clear hb
 clear hr RX
 go_upto_region 5 with (fail)
 refine lbeg (opsOf Try.f7 5) ?_
 refine lnow 0 (.agg cV.toArray) (some 30) ?_
 have CALL := Term_walk (F := []) tV cV w7 (tV_at _ _) tV_good.1 (Nat.le_trans tV_good.2 (by decide))
 rw [f10_term, f10_termv] at CALL
 refine lcal 1 12 #[.agg cV.toArray] (some 31) _ (CALL) ?_
 rintro e w8 ⟨v8, rfl, hr, hb⟩
 refine ⟨_, rfl, ?_⟩
 clear CALL
 refine lnow 2 (.tuple #[v8, .bool true]) (some 29) ?_
 refine lnow 3 (v8) (some 32) ?_
 refine lnow 4 (.bool true) (some 33) ?_
 refine lnow 5 (v8) (some 8) ?_
 refine lnow 6 (.bool true) (some 9) ?_
 refine ldn 7 ?_
 generalize hact : Act.put _ (some 9) _ = act
 simp only [Act.put, sA, sC, sZ] at hact
 subst hact
 have R8 := Lib.hid hr
 have BE : Hid (Below q w w8) := BE.out.trans (hb.mono SQ.out)
 have SQ : Hid (q ≤ w8.heap.size) := Nat.le_trans SQ.out hb.size
 have BD := Lib.hid (BD.out.below hb BD.out.lt)
 have R3 := Lib.hid (R3.out.below hb)
 have R6 := Lib.hid (R6.out.below hb)
 clear hb
 clear hr
 go_upto_region 6 with (fail)
 refine lbeg (opsOf Try.f7 6) ?_
 refine lrl 0 dcP (some 35) 38 2 p 0 BD.out.whole Try.underlying38 (dcSize rfl) ?_
 have CALL := Decl_walk (F := []) dP dcP w8 (dP_at _ _) dP_good.sm dP_good.big
 rw [f10_form, f10_declv] at CALL
 refine lcal 1 18 #[.agg dcP.toArray] (some 36) _ (CALL) ?_
 rintro e w9 ⟨v10, rfl, hr, hb⟩
 refine ⟨_, rfl, ?_⟩
 clear CALL
 refine lnow 2 (.tuple #[v10, .bool true]) (some 34) ?_
 refine lnow 3 (v10) (some 37) ?_
 refine lnow 4 (.bool true) (some 38) ?_
 refine lnow 5 (v10) (some 10) ?_
 refine lnow 6 (.bool true) (some 11) ?_
 refine ldn 7 ?_
 generalize hact : Act.put _ (some 11) _ = act
 simp only [Act.put, sA, sC, sZ] at hact
 subst hact
 have R10 := Lib.hid hr
 have BE : Hid (Below q w w9) := BE.out.trans (hb.mono SQ.out)
 have SQ : Hid (q ≤ w9.heap.size) := Nat.le_trans SQ.out hb.size
 have BD := Lib.hid (BD.out.below hb BD.out.lt)
 have R3 := Lib.hid (R3.out.below hb)
 have R6 := Lib.hid (R6.out.below hb)
 have R8 := Lib.hid (R8.out.below hb)
 clear hb
 clear hr
 go_upto_region 7 with (fail)
 refine lbeg (opsOf Try.f7 7) ?_
 refine lrl 0 dcP (some 40) 38 2 p 0 BD.out.whole Try.underlying38 (dcSize rfl) ?_
 obtain ⟨g, hg⟩ : ∃ g, Hid (w9.heap.size = g) := ⟨_, rfl⟩
 have RB := run_build_d1 w9
 have bw := Blk.new w9 38 dcP
 have hb : Below w9.heap.size w9 (w9.alloc (.cells dcP.toArray 38)) := (Below.refl _ _).alloc (Nat.le_refl _) _
 refine lin_value 1 _ (some 41) _ (by kernel_rfl) (by kernel_rfl) (exec_of _ _ (by kernel_rfl) RB) ?_
 generalize w9.alloc (.cells dcP.toArray 38) = w10 at bw hb ⊢
 rw [hg.out] at bw ⊢
 have DL : Hid (DcsAt [] w10 [dP] (.slice (some ⟨g, 0, none⟩) 1 1)) := one_dcs bw (dP_at _ _) (by simp)
 clear RB bw hg
 have BE : Hid (Below q w w10) := BE.out.trans (hb.mono SQ.out)
 have SQ : Hid (q ≤ w10.heap.size) := Nat.le_trans SQ.out hb.size
 have BD := Lib.hid (BD.out.below hb BD.out.lt)
 have R3 := Lib.hid (R3.out.below hb)
 have R6 := Lib.hid (R6.out.below hb)
 have R8 := Lib.hid (R8.out.below hb)
 have R10 := Lib.hid (R10.out.below hb)
 clear hb
 have CALL := Library_walk (F := []) [dP] _ w10 DL.out (fun d hd => by rw [List.mem_singleton.1 hd]; exact ⟨dP_good.sm, dP_good.big⟩) (by decide)
 rw [f10_lib] at CALL
 refine lcal 2 14 #[.slice (some ⟨g, 0, none⟩) 1 1] (some 42) _ (CALL) ?_
 rintro e w11 ⟨v12, rfl, hr, hb⟩
 refine ⟨_, rfl, ?_⟩
 clear CALL
 refine lnow 3 (.tuple #[v12, .bool true]) (some 39) ?_
 refine lnow 4 (v12) (some 43) ?_
 refine lnow 5 (.bool true) (some 44) ?_
 refine lnow 6 (v12) (some 12) ?_
 refine lnow 7 (.bool true) (some 13) ?_
 refine ldn 8 ?_
 generalize hact : Act.put _ (some 13) _ = act
 simp only [Act.put, sA, sC, sZ] at hact
 subst hact
 have R12 := Lib.hid hr
 have BE : Hid (Below q w w11) := BE.out.trans (hb.mono SQ.out)
 have SQ : Hid (q ≤ w11.heap.size) := Nat.le_trans SQ.out hb.size
 have BD := Lib.hid (BD.out.below hb BD.out.lt)
 have R3 := Lib.hid (R3.out.below hb)
 have R6 := Lib.hid (R6.out.below hb)
 have R8 := Lib.hid (R8.out.below hb)
 have R10 := Lib.hid (R10.out.below hb)
 clear hb
 clear hr DL
 go_upto_region 8 with (fail)
 refine lbeg (opsOf Try.f7 8) ?_
 refine lnow 0 (v12) (some 46) ?_
 have CALL := TakeLib_walk v12 (libV [dP]) w11 R12.out.in (by rw [f10_bytes]; intro z hz; simp only [List.mem_cons, List.not_mem_nil, or_false] at hz; omega) (by rw [f10_bytes]; decide)
 rw [f10_back] at CALL
 refine lcal 1 28 #[v12] (some 47) _ (CALL) ?_
 rintro e w12 ⟨hb, v14, rfl, hr⟩
 refine ⟨_, rfl, ?_⟩
 obtain ⟨la, lc, rfl⟩ := hr.slice
 clear CALL
 rw [show [dP].length = 1 from rfl] at hr ⊢
 refine lnow 2 (.tuple #[(.slice la 1 lc), .bool true]) (some 45) ?_
 refine lnow 3 ((.slice la 1 lc)) (some 48) ?_
 refine lnow 4 (.bool true) (some 49) ?_
 refine lnow 5 ((.slice la 1 lc)) (some 14) ?_
 refine lnow 6 (.bool true) (some 15) ?_
 refine ldn 7 ?_
 generalize hact : Act.put _ (some 15) _ = act
 simp only [Act.put, sA, sC, sZ] at hact
 subst hact
 have L14 := Lib.hid hr
 have BE : Hid (Below q w w12) := BE.out.trans (hb.mono SQ.out)
 have SQ : Hid (q ≤ w12.heap.size) := Nat.le_trans SQ.out hb.size
 have BD := Lib.hid (BD.out.below hb BD.out.lt)
 have R3 := Lib.hid (R3.out.below hb)
 have R6 := Lib.hid (R6.out.below hb)
 have R8 := Lib.hid (R8.out.below hb)
 have R10 := Lib.hid (R10.out.below hb)
 have R12 := Lib.hid (R12.out.below hb)
 clear hb
 clear hr
 go_upto_region 9 with (fail)
 refine region_begin (opsOf Try.f7 9) (fun W' => Below w12.heap.size w12 W') (by kernel_rfl) (by kernel_rfl) 57 (by kernel_rfl) ?_
 intro Q' hQN hN
 have HS : Below w12.heap.size w12 w12.drew := (Below.refl _ _).drew
 have hb := HS
 obtain ⟨x, pb, po, cx, hx, -, hla, -, hpb, hrx, hdx⟩ := L14.out.get rfl (show 0 < 1 by decide)
 obtain rfl : dP = x := by simpa using hx
 subst hla
 have PX := Lib.hid hrx
 have DX := Lib.hid hdx
 have CX := Lib.hid hdx.len
 have HPB := Lib.hid hpb
 clear hx hpb hrx hdx
 have R3 := Lib.hid (R3.out.below hb)
 have R6 := Lib.hid (R6.out.below hb)
 have R8 := Lib.hid (R8.out.below hb)
 have R10 := Lib.hid (R10.out.below hb)
 clear hb
 generalize w12.drew = W0 at HS R3 R6 R8 R10 ⊢
 refine reg_now 0 (.bool true) (some 50) hQN HS (by kernel_rfl) (by kernel_rfl) (fun w => by kernel_rfl) ?_
 refine reg_now 1 (.bool true) (some 51) hQN HS (by kernel_rfl) (by kernel_rfl) (fun w => by kernel_rfl) ?_
 refine reg_now 2 (.bool true) (some 52) hQN HS (by kernel_rfl) (by kernel_rfl) (fun w => by kernel_rfl) ?_
 refine reg_now 3 (.bool true) (some 53) hQN HS (by kernel_rfl) (by kernel_rfl) (fun w => by kernel_rfl) ?_
 refine reg_now 4 (.bool true) (some 54) hQN HS (by kernel_rfl) (by kernel_rfl) (fun w => by kernel_rfl) ?_
 refine reg_now 5 (.bool true) (some 55) hQN HS (by kernel_rfl) (by kernel_rfl) (fun w => by kernel_rfl) ?_
 refine reg_now 6 (.bool true) (some 56) hQN HS (by kernel_rfl) (by kernel_rfl) (fun w => by kernel_rfl) ?_
 refine reg_now 7 (.bool true) (some 57) hQN HS (by kernel_rfl) (by kernel_rfl) (fun w => by kernel_rfl) ?_
 refine reg_now 8 (.bool true) (some 58) hQN HS (by kernel_rfl) (by kernel_rfl) (fun w => by kernel_rfl) ?_
 refine reg_now 9 (.bool true) (some 59) hQN HS (by kernel_rfl) (by kernel_rfl) (fun w => by kernel_rfl) ?_
 refine reg_now 10 (.bool true) (some 60) hQN HS (by kernel_rfl) (by kernel_rfl) (fun w => by kernel_rfl) ?_
 refine reg_now 11 (.bool true) (some 61) hQN HS (by kernel_rfl) (by kernel_rfl) (fun w => by kernel_rfl) ?_
 refine reg_now 12 (.bool true) (some 62) hQN HS (by kernel_rfl) (by kernel_rfl) (fun w => by kernel_rfl) ?_
 refine reg_now 13 (.bool true) (some 63) hQN HS (by kernel_rfl) (by kernel_rfl) (fun w => by kernel_rfl) ?_
 refine reg_now 14 (.bool true) (some 64) hQN HS (by kernel_rfl) (by kernel_rfl) (fun w => by kernel_rfl) ?_
 refine reg_now 15 (.bool true) (some 65) hQN HS (by kernel_rfl) (by kernel_rfl) (fun w => by kernel_rfl) ?_
 refine reg_now 16 (.bool true) (some 66) hQN HS (by kernel_rfl) (by kernel_rfl) (fun w => by kernel_rfl) ?_
 refine reg_now 17 (v3) (some 67) hQN HS (by kernel_rfl) (by kernel_rfl) (fun w => by kernel_rfl) ?_
 have RB : (Instr.buildSlice 30 3 #[(0, .int .u8 2), (1, .int .u8 1), (2, .int .u8 44)]).run Try.prog W0 = .ok (.slice (some ⟨W0.heap.size, 0, none⟩) 3 3) (W0.alloc (.cells (ints .u8 [2, 1, 44]).toArray 5)) := by kernel_rfl
 have rn := row_new (w := W0) (xs := [2, 1, 44]) (n := 3) rfl (by decide)
 have hb : Below W0.heap.size W0 (W0.alloc (.cells (ints .u8 [2, 1, 44]).toArray 5)) := (Below.refl _ _).alloc (Nat.le_refl _) _
 have HS1 : Below w12.heap.size w12 (W0.alloc (.cells (ints .u8 [2, 1, 44]).toArray 5)) := HS.trans (hb.mono HS.size)
 refine reg_value 18 _ (some 68) _ (by kernel_rfl) (by kernel_rfl) (exec_of _ _ (by kernel_rfl) RB) HS1 ?_
 generalize W0.alloc (.cells (ints .u8 [2, 1, 44]).toArray 5) = A1 at rn hb HS1 ⊢
 have R3 := Lib.hid (R3.out.below hb)
 have R6 := Lib.hid (R6.out.below hb)
 have R8 := Lib.hid (R8.out.below hb)
 have R10 := Lib.hid (R10.out.below hb)
 obtain ⟨y1, hy1⟩ : ∃ y, Hid (W0.heap.size = y) := ⟨_, rfl⟩
 rw [hy1.out] at rn ⊢
 have HS := HS1
 clear hb RB HS1
 have CALL := sameb_walk v3 _ [2, 1, 44] [2, 1, 44] A1 R3.out.in rn.in (by decide)
 rw [decide_eq_true rfl] at CALL
 refine reg_call 19 16 #[v3, .slice (some ⟨y1, 0, none⟩) 3 3] (some 69) _ (by kernel_rfl) (by kernel_rfl) (by kernel_rfl) (CALL) ?_
 rintro e B1 ⟨rfl, n1, hn1⟩
 have hb : Below A1.heap.size A1 B1 := by rw [hn1]; exact below_drewN _ _
 have HS2 : Below w12.heap.size w12 B1 := HS.trans (hb.mono HS.size)
 refine ⟨_, rfl, HS2, ?_⟩
 have R3 := Lib.hid (R3.out.below hb)
 have R6 := Lib.hid (R6.out.below hb)
 have R8 := Lib.hid (R8.out.below hb)
 have R10 := Lib.hid (R10.out.below hb)
 have HS := HS2
 clear hb HS2 CALL rn hn1
 refine reg_now 20 (.bool true) (some 70) hQN HS (by kernel_rfl) (by kernel_rfl) (fun w => by kernel_rfl) ?_
 refine reg_now 21 (.bool true) (some 71) hQN HS (by kernel_rfl) (by kernel_rfl) (fun w => by kernel_rfl) ?_
 refine reg_now 22 (.int .i64 7) (some 72) hQN HS (by kernel_rfl) (by kernel_rfl) (fun w => by kernel_rfl) ?_
 refine reg_now 23 (.bool true) (some 73) hQN HS (by kernel_rfl) (by kernel_rfl) (fun w => by kernel_rfl) ?_
 refine reg_now 24 (.bool true) (some 74) hQN HS (by kernel_rfl) (by kernel_rfl) (fun w => by kernel_rfl) ?_
 refine reg_now 25 (.bool true) (some 75) hQN HS (by kernel_rfl) (by kernel_rfl) (fun w => by kernel_rfl) ?_
 refine reg_now 26 (v6) (some 76) hQN HS (by kernel_rfl) (by kernel_rfl) (fun w => by kernel_rfl) ?_
 have RB : (Instr.buildSlice 30 1 #[(0, .int .u8 9)]).run Try.prog B1 = .ok (.slice (some ⟨B1.heap.size, 0, none⟩) 1 1) (B1.alloc (.cells (ints .u8 [9]).toArray 5)) := by kernel_rfl
 have rn := row_new (w := B1) (xs := [9]) (n := 1) rfl (by decide)
 have hb : Below B1.heap.size B1 (B1.alloc (.cells (ints .u8 [9]).toArray 5)) := (Below.refl _ _).alloc (Nat.le_refl _) _
 have HS1 : Below w12.heap.size w12 (B1.alloc (.cells (ints .u8 [9]).toArray 5)) := HS.trans (hb.mono HS.size)
 refine reg_value 27 _ (some 77) _ (by kernel_rfl) (by kernel_rfl) (exec_of _ _ (by kernel_rfl) RB) HS1 ?_
 generalize B1.alloc (.cells (ints .u8 [9]).toArray 5) = A2 at rn hb HS1 ⊢
 have R3 := Lib.hid (R3.out.below hb)
 have R6 := Lib.hid (R6.out.below hb)
 have R8 := Lib.hid (R8.out.below hb)
 have R10 := Lib.hid (R10.out.below hb)
 obtain ⟨y2, hy2⟩ : ∃ y, Hid (B1.heap.size = y) := ⟨_, rfl⟩
 rw [hy2.out] at rn ⊢
 have HS := HS1
 clear hb RB HS1
 have CALL := sameb_walk v6 _ [9] [9] A2 R6.out.in rn.in (by decide)
 rw [decide_eq_true rfl] at CALL
 refine reg_call 28 16 #[v6, .slice (some ⟨y2, 0, none⟩) 1 1] (some 78) _ (by kernel_rfl) (by kernel_rfl) (by kernel_rfl) (CALL) ?_
 rintro e B2 ⟨rfl, n2, hn2⟩
 have hb : Below A2.heap.size A2 B2 := by rw [hn2]; exact below_drewN _ _
 have HS2 : Below w12.heap.size w12 B2 := HS.trans (hb.mono HS.size)
 refine ⟨_, rfl, HS2, ?_⟩
 have R3 := Lib.hid (R3.out.below hb)
 have R6 := Lib.hid (R6.out.below hb)
 have R8 := Lib.hid (R8.out.below hb)
 have R10 := Lib.hid (R10.out.below hb)
 have HS := HS2
 clear hb HS2 CALL rn hn2
 refine reg_now 29 (.bool true) (some 79) hQN HS (by kernel_rfl) (by kernel_rfl) (fun w => by kernel_rfl) ?_
 refine reg_now 30 (.bool true) (some 80) hQN HS (by kernel_rfl) (by kernel_rfl) (fun w => by kernel_rfl) ?_
 refine reg_now 31 (v8) (some 81) hQN HS (by kernel_rfl) (by kernel_rfl) (fun w => by kernel_rfl) ?_
 have RB : (Instr.buildSlice 30 2 #[(0, .int .u8 1), (1, .int .u8 0)]).run Try.prog B2 = .ok (.slice (some ⟨B2.heap.size, 0, none⟩) 2 2) (B2.alloc (.cells (ints .u8 [1, 0]).toArray 5)) := by kernel_rfl
 have rn := row_new (w := B2) (xs := [1, 0]) (n := 2) rfl (by decide)
 have hb : Below B2.heap.size B2 (B2.alloc (.cells (ints .u8 [1, 0]).toArray 5)) := (Below.refl _ _).alloc (Nat.le_refl _) _
 have HS1 : Below w12.heap.size w12 (B2.alloc (.cells (ints .u8 [1, 0]).toArray 5)) := HS.trans (hb.mono HS.size)
 refine reg_value 32 _ (some 82) _ (by kernel_rfl) (by kernel_rfl) (exec_of _ _ (by kernel_rfl) RB) HS1 ?_
 generalize B2.alloc (.cells (ints .u8 [1, 0]).toArray 5) = A3 at rn hb HS1 ⊢
 have R3 := Lib.hid (R3.out.below hb)
 have R6 := Lib.hid (R6.out.below hb)
 have R8 := Lib.hid (R8.out.below hb)
 have R10 := Lib.hid (R10.out.below hb)
 obtain ⟨y3, hy3⟩ : ∃ y, Hid (B2.heap.size = y) := ⟨_, rfl⟩
 rw [hy3.out] at rn ⊢
 have HS := HS1
 clear hb RB HS1
 have CALL := sameb_walk v8 _ [1, 0] [1, 0] A3 R8.out.in rn.in (by decide)
 rw [decide_eq_true rfl] at CALL
 refine reg_call 33 16 #[v8, .slice (some ⟨y3, 0, none⟩) 2 2] (some 83) _ (by kernel_rfl) (by kernel_rfl) (by kernel_rfl) (CALL) ?_
 rintro e B3 ⟨rfl, n3, hn3⟩
 have hb : Below A3.heap.size A3 B3 := by rw [hn3]; exact below_drewN _ _
 have HS2 : Below w12.heap.size w12 B3 := HS.trans (hb.mono HS.size)
 refine ⟨_, rfl, HS2, ?_⟩
 have R3 := Lib.hid (R3.out.below hb)
 have R6 := Lib.hid (R6.out.below hb)
 have R8 := Lib.hid (R8.out.below hb)
 have R10 := Lib.hid (R10.out.below hb)
 have HS := HS2
 clear hb HS2 CALL rn hn3
 refine reg_now 34 (.bool true) (some 84) hQN HS (by kernel_rfl) (by kernel_rfl) (fun w => by kernel_rfl) ?_
 refine reg_now 35 (.bool true) (some 85) hQN HS (by kernel_rfl) (by kernel_rfl) (fun w => by kernel_rfl) ?_
 refine reg_now 36 (v10) (some 86) hQN HS (by kernel_rfl) (by kernel_rfl) (fun w => by kernel_rfl) ?_
 have RB : (Instr.buildSlice 30 6 #[(0, .int .u8 1), (1, .int .u8 1), (2, .int .u8 1), (3, .int .u8 112), (4, .int .u8 0), (5, .int .u8 2)]).run Try.prog B3 = .ok (.slice (some ⟨B3.heap.size, 0, none⟩) 6 6) (B3.alloc (.cells (ints .u8 [1, 1, 1, 112, 0, 2]).toArray 5)) := by kernel_rfl
 have rn := row_new (w := B3) (xs := [1, 1, 1, 112, 0, 2]) (n := 6) rfl (by decide)
 have hb : Below B3.heap.size B3 (B3.alloc (.cells (ints .u8 [1, 1, 1, 112, 0, 2]).toArray 5)) := (Below.refl _ _).alloc (Nat.le_refl _) _
 have HS1 : Below w12.heap.size w12 (B3.alloc (.cells (ints .u8 [1, 1, 1, 112, 0, 2]).toArray 5)) := HS.trans (hb.mono HS.size)
 refine reg_value 37 _ (some 87) _ (by kernel_rfl) (by kernel_rfl) (exec_of _ _ (by kernel_rfl) RB) HS1 ?_
 generalize B3.alloc (.cells (ints .u8 [1, 1, 1, 112, 0, 2]).toArray 5) = A4 at rn hb HS1 ⊢
 have R3 := Lib.hid (R3.out.below hb)
 have R6 := Lib.hid (R6.out.below hb)
 have R8 := Lib.hid (R8.out.below hb)
 have R10 := Lib.hid (R10.out.below hb)
 obtain ⟨y4, hy4⟩ : ∃ y, Hid (B3.heap.size = y) := ⟨_, rfl⟩
 rw [hy4.out] at rn ⊢
 have HS := HS1
 clear hb RB HS1
 have CALL := sameb_walk v10 _ [1, 1, 1, 112, 0, 2] [1, 1, 1, 112, 0, 2] A4 R10.out.in rn.in (by decide)
 rw [decide_eq_true rfl] at CALL
 refine reg_call 38 16 #[v10, .slice (some ⟨y4, 0, none⟩) 6 6] (some 88) _ (by kernel_rfl) (by kernel_rfl) (by kernel_rfl) (CALL) ?_
 rintro e B4 ⟨rfl, n4, hn4⟩
 have hb : Below A4.heap.size A4 B4 := by rw [hn4]; exact below_drewN _ _
 have HS2 : Below w12.heap.size w12 B4 := HS.trans (hb.mono HS.size)
 refine ⟨_, rfl, HS2, ?_⟩
 have R3 := Lib.hid (R3.out.below hb)
 have R6 := Lib.hid (R6.out.below hb)
 have R8 := Lib.hid (R8.out.below hb)
 have R10 := Lib.hid (R10.out.below hb)
 have HS := HS2
 clear hb HS2 CALL rn hn4
 refine reg_now 39 (.bool true) (some 89) hQN HS (by kernel_rfl) (by kernel_rfl) (fun w => by kernel_rfl) ?_
 refine reg_now 40 (.bool true) (some 90) hQN HS (by kernel_rfl) (by kernel_rfl) (fun w => by kernel_rfl) ?_
 refine reg_now 41 ((.slice (some ⟨pb, po, none⟩) 1 lc)) (some 91) hQN HS (by kernel_rfl) (by kernel_rfl) (fun w => by kernel_rfl) ?_
 refine reg_now 42 (.int .i64 1) (some 92) hQN HS (by kernel_rfl) (by kernel_rfl) (fun w => by kernel_rfl) ?_
 refine reg_now 43 (.bool true) (some 93) hQN HS (by kernel_rfl) (by kernel_rfl) (fun w => by kernel_rfl) ?_
 refine reg_now 44 (.bool true) (some 94) hQN HS (by kernel_rfl) (by kernel_rfl) (fun w => by kernel_rfl) ?_
 refine reg_now 45 (.bool true) (some 95) hQN HS (by kernel_rfl) (by kernel_rfl) (fun w => by kernel_rfl) ?_
 refine reg_now 46 ((.slice (some ⟨pb, po, none⟩) 1 lc)) (some 96) hQN HS (by kernel_rfl) (by kernel_rfl) (fun w => by kernel_rfl) ?_
 refine reg_now 47 (.pointer (some ⟨pb, po + 15 * 0, none⟩)) (some 97) hQN HS (by kernel_rfl) (by kernel_rfl) (fun w' => exec_indexAt 26 (.tmp 96) (.const (.int .i64 0)) (by kernel_rfl) _ _ _ (by kernel_rfl) (by kernel_rfl) (run_at_dc pb po 1 lc 0 (by decide) w')) ?_
 refine reg_nowIf 48 (.agg cx.toArray) (some 98) hQN HS (by kernel_rfl) (by kernel_rfl) (fun w' hw => exec_load_mid 38 (.tmp 97) (by kernel_rfl) pb (po + 15 * 0) (by kernel_rfl) cx _ (rangeBelow hw HPB.out PX.out) Try.underlying38 rfl (dcSize CX.out)) ?_
 refine reg_nowIf 49 (.agg dcP.toArray) (some 99) hQN HS (by kernel_rfl) (by kernel_rfl) (fun w' hw => exec_load_mid 38 (.tmp 2) (by kernel_rfl) p 0 (by kernel_rfl) dcP _ (BD.out.below hw BD.out.lt).whole Try.underlying38 rfl (dcSize rfl)) ?_
 refine reg_call 50 22 #[.agg cx.toArray, .agg dcP.toArray] (some 100) _ (by kernel_rfl) (by kernel_rfl) (by kernel_rfl) (samedecl_same dP cx dcP B4 _ [] (DX.out.below HS) (dP_at _ _) dP_good.sm) ?_
 rintro e X1 ⟨rfl, hb⟩
 have HS2 : Below w12.heap.size w12 X1 := HS.trans (hb.mono HS.size)
 refine ⟨_, rfl, HS2, ?_⟩
 have HS := HS2
 clear hb HS2
 refine reg_now 51 (.bool true) (some 101) hQN HS (by kernel_rfl) (by kernel_rfl) (fun w => by kernel_rfl) ?_
 refine reg_now 52 (.bool true) (some 102) hQN HS (by kernel_rfl) (by kernel_rfl) (fun w => by kernel_rfl) ?_
 refine reg_nowIf 53 (.agg dcP.toArray) (some 103) hQN HS (by kernel_rfl) (by kernel_rfl) (fun w' hw => exec_load_mid 38 (.tmp 2) (by kernel_rfl) p 0 (by kernel_rfl) dcP _ (BD.out.below hw BD.out.lt).whole Try.underlying38 rfl (dcSize rfl)) ?_
 have CALL := Formed_walk (F := []) dP dcP X1 (dP_at _ _) dP_good.sm dP_good.big
 rw [f10_form] at CALL
 refine reg_call 54 20 #[.agg dcP.toArray] (some 104) _ (by kernel_rfl) (by kernel_rfl) (by kernel_rfl) (CALL) ?_
 rintro e X2 ⟨rfl, hb⟩
 have HS2 : Below w12.heap.size w12 X2 := HS.trans (hb.mono HS.size)
 refine ⟨_, rfl, HS2, ?_⟩
 have HS := HS2
 clear hb HS2 CALL
 refine reg_now 55 (.bool true) (some 105) hQN HS (by kernel_rfl) (by kernel_rfl) (fun w => by kernel_rfl) ?_
 refine reg_now 56 (.bool true) (some 0) hQN HS (by kernel_rfl) (by kernel_rfl) (fun w => by kernel_rfl) ?_
 have FIN : Hid (Below q w X2) := BE.out.trans (HS.mono SQ.out)
 refine reg_done (by kernel_rfl) (hN _ _ ?_)
 generalize hact : Act.put _ (some 0) _ = act
 simp only [Act.put, sA, sC, sZ] at hact
 subst hact
 clear hQN hN
 go_wp2
 go_ret
 exact ⟨rfl, by rw [hq.out]; exact FIN.out⟩
end Go.Proofs.Yteohjbggicchgaa
