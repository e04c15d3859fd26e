/- The document's Decl and Library. -/
import Derived.Test.YteohjbggicchgaaKGenT
import Derived.Test.YteohjbggicchgaaKCodN
namespace Go.Proofs.Yteohjbggicchgaa
open Go Go.RowKit
set_option maxRecDepth 100000
/-- A row that is made beside a call (the row's place ahead of the call's). -/
theorem reg_pc {P : Program} {ops : Array Oper} {Q : Exit → Act → World → Prop} {S : World → Prop} {fuel : Nat} {listed : Array Bool} {a : Act} {w : World} (c p : Nat) (dc dp : Tmp) (f : FuncId) (args : Array Value) (R : World → Ending → World → Prop) (vp : Nat → Value) (o : Obj) (X : Value → Nat → World → Prop)
    (hst : (ops[c]?.isSome && ops[p]?.isSome && (opAt ops c).guard.isNone && (opAt ops p).guard.isNone && (Region.ready .any ops listed == [p, c]) && (Region.ready .any ops (listed.setIfInBounds c true) == [p]) && (Region.ready .any ops (listed.setIfInBounds p true) == [c])) = true)
    (hdc : (opAt ops c).dst = some dc) (hdp : (opAt ops p).dst = some dp) (n : dc ≠ dp) (ecp : c ≠ p)
    (rc0 : (execOp a.eval (opAt ops c)).run P w = .ok (.enter f args) w) (rc1 : ∀ v w1, (execOp (a.put (some dp) v).eval (opAt ops c)).run P w1 = .ok (.enter f args) w1)
    (rp0 : ∀ w1 : World, (execOp a.eval (opAt ops p)).run P w1 = .ok (.value (vp w1.heap.size)) (w1.alloc o)) (rp1 : ∀ v w1, (execOp (a.put (some dc) v).eval (opAt ops p)).run P w1 = .ok (.value (vp w1.heap.size)) (w1.alloc o))
    (hc : ∀ w1, Below w.heap.size w w1 → Calls P f args w1 (R w1)) (hSo : S (w.alloc o))
    (hA : ∀ e w2, R w e w2 → S w2 ∧ S (w2.alloc o) ∧ ∃ v, e = .returned v ∧ X v w2.heap.size (w2.alloc o)) (hB : ∀ e w3, R (w.alloc o) e w3 → S w3 ∧ ∃ v, e = .returned v ∧ X v w.heap.size w3)
    (h : ∀ v q w3, X v q w3 → wpAnyH P .any ops Q S fuel ((listed.setIfInBounds c true).setIfInBounds p true) ((a.put (some dc) v).put (some dp) (vp q)) w3) : wpAnyH P .any ops Q S (fuel + 2) listed a w := by
  simp only [Bool.and_eq_true, beq_iff_eq] at hst
  obtain ⟨⟨⟨⟨⟨⟨g1, g2⟩, n1⟩, n2⟩, r0⟩, rc⟩, rp⟩ := hst
  have wc : ∀ y, Region.wanted (opAt ops c) y = true := fun y => by simp [Region.wanted, Option.isNone_iff_eq_none.1 n1]
  have wp : ∀ y, Region.wanted (opAt ops p) y = true := fun y => by simp [Region.wanted, Option.isNone_iff_eq_none.1 n2]
  have al : Below w.heap.size w (w.alloc o) := (Below.refl _ _).alloc (Nat.le_refl _) o
  refine wpAnyH_two r0 ?_ ?_
  rotate_left
  · refine wpOp_callE f args (R w) (get_opAt g1) (wc _) rc0 (hc w (Below.refl _ _)) (fun e w2 hR => ?_)
    obtain ⟨hs2, hs3, v, rfl, hX⟩ := hA e w2 hR
    refine ⟨v, rfl, hs2, wpAnyH_one rc ?_⟩
    rw [hdc]
    refine wpOp_value _ (get_opAt g2) (wp _) (rp1 v w2) ⟨hs3, ?_⟩
    rw [hdp]
    exact h v _ _ hX
  · refine wpOp_value _ (get_opAt g2) (wp _) (rp0 w) ⟨hSo, wpAnyH_one rp ?_⟩
    rw [hdp]
    refine wpOp_callE f args (R (w.alloc o)) (get_opAt g1) (wc _) (rc1 _ _) (hc _ al) (fun e w3 hR => ?_)
    obtain ⟨hs3, v, rfl, hX⟩ := hB e w3 hR
    refine ⟨v, rfl, hs3, ?_⟩
    rw [hdc, Act.put_comm a _ _ (fun d h1 h2 => n (by cases h1; cases h2; rfl)), Array.setIfInBounds_comm _ _ (Ne.symm ecp)]
    exact h v _ _ hX
set_option maxHeartbeats 8000000 in
theorem rDecl_walk {F : List Nat} (d : Dc) (cs : List Value) (w : World) (hd : DcAt F w d cs) (hs : SmD d) : Calls Try.prog 19 #[.agg cs.toArray] w (GivesIf (formB d) (declV d) w) := by
 obtain ⟨tc, vc, cv, hform, hty, hval, hcts⟩ := id hd
 obtain ⟨ca, cc, rfl⟩ := hcts.slice
 have C15 := Lib.hid hd.len
 have TC5 := Lib.hid hform.t5
 have VC5 := Lib.hid hform.v5
 have FM := Lib.hid hform
 have LV := Lib.hid hd.lv
 have CT := Lib.hid hcts
 have HTY := Lib.hid hty
 have HVAL := Lib.hid hval
 have DD := Lib.hid hd
 have SD := Lib.hid hs
 obtain ⟨M, hM⟩ : ∃ M, Hid (d.ctors.length = M) := ⟨_, rfl⟩
 rw [hM.out] at CT FM
 obtain ⟨q, hq⟩ : ∃ q, Hid (w.heap.size = q) := ⟨_, rfl⟩
 obtain ⟨B, hB⟩ : ∃ b, Hid (formB d = b) := ⟨_, rfl⟩
 obtain ⟨V, hV⟩ : ∃ b, Hid (declV d = b) := ⟨_, rfl⟩
 rw [hB.out, hV.out]
 clear hform hty hval hcts hd hs
 go_enter Try.func19, Try.ntmps19
 go_upto_region 0 with (fail)
 refine lbeg (opsOf Try.f19 0) ?_
 refine lbox 0 38 (.tmp 0) (cs) (q) (some 1) hq ?_
 intro w1 bw1 bew1 hsw1
 refine lnow 1 (.slice none 0 0) (some 2) ?_
 refine lnow 2 (.bool false) (some 3) ?_
 refine ldn 3 ?_
 generalize hact : Act.put _ (some 3) _ = act
 simp only [Act.put, sA, sC, sZ] at hact
 subst hact
 have BQ := Lib.hid bw1
 have BE : Hid (Below w.heap.size w w1) := by rw [Hid, hq.out]; exact bew1
 have S1 : Hid (q < w1.heap.size) := by have := hsw1.out; rw [Hid]; omega
 have FM := FM.out
 have HTY1 := Lib.hid (HTY.out.below BE.out)
 have HVAL1 := Lib.hid (HVAL.out.below BE.out)
 have CT1 := Lib.hid (CT.out.below BE.out)
 have DD1 := Lib.hid (DD.out.below BE.out)
 clear bw1 bew1 hsw1 HTY HVAL CT DD
 go_upto_region 1 with (fail)
 refine lbeg (opsOf Try.f19 1) ?_
 refine lrl 0 cs (some 6) 38 1 q 0 BQ.out.whole Try.underlying38 (dcSize C15.out) ?_
 refine lcal 1 21 #[.agg cs.toArray] (some 7) _ (rFormed_walk d cs w1 DD1.out SD.out) ?_
 rintro e w2 ⟨rfl, b2⟩
 rw [hB.out]
 refine ⟨_, rfl, ?_⟩
 have BW2 := Lib.hid b2
 clear b2 DD1
 refine lnow 2 (.bool (!B)) (some 8) ?_
 refine ldn 3 ?_
 generalize hact : Act.put _ (some 8) _ = act
 simp only [Act.put, sA, sC, sZ] at hact
 subst hact
 cases B with
 | false =>
  obtain rfl : V = [] := by rw [← hV.out, declV, hB.out]; rfl
  have FB := Lib.hid (BE.out.trans (BW2.out.mono BE.out.size))
  go_wp2
  go_ret2
  exact ⟨_, rfl, RowB.nil _ _, FB.out⟩
 | true =>
  have OK := Lib.hid (form_ok (form_iff.1 hB.out))
  have HDL := Lib.hid (headD_len OK.out LV.out.ty)
  obtain ⟨HD, hHD⟩ : ∃ y, Hid (headD d = y) := ⟨_, rfl⟩
  rw [hHD.out] at HDL
  have EV0 : Hid (V = HD ++ tailD d) := by rw [Hid, ← hV.out, declV, hB.out, if_pos rfl, declB_head, hHD.out]
  obtain ⟨TA, hTA⟩ : ∃ y, Hid ((if valD d then termB d.val else []) = y) := ⟨_, rfl⟩
  obtain ⟨TB, hTB⟩ : ∃ y, Hid ((if d.kind = 4 then [d.fixed % 256, ((M % 256 : Nat) : Int)] ++ ctsB d.ctors else []) = y) := ⟨_, rfl⟩
  have ETL : Hid (tailD d = TA ++ TB) := by rw [Hid, tailD, hTA.out, hM.out, hTB.out]
  clear hV
  have BE2 : Hid (Below q w1 w2) := BW2.out.mono (Nat.le_of_lt S1.out)
  have BWd : Hid (Below w1.heap.size w1 w2.drew) := BW2.out.trans ((Below.refl _ _).drew)
  have D0 : Blk w2.drew q 38 cs := BQ.out.below BWd.out S1.out
  have NM := OK.out.name
  go_upto_region 3 with (fail)
  refine region_begin (opsOf Try.f19 3) (fun W' => Blk W' q 38 cs) (by kernel_rfl) (by kernel_rfl) 9 (by kernel_rfl) ?_
  intro Q' hQN hN
  generalize w2.drew = wd at D0 BWd ⊢
  refine reg_now 0 (.pointer (some ⟨q, 0, none⟩)) (some 9) hQN D0 (by kernel_rfl) (by kernel_rfl) (fun w => by kernel_rfl) ?_
  refine reg_now 4 (.pointer (some ⟨q, 2, none⟩)) (some 13) hQN D0 (by kernel_rfl) (by kernel_rfl) (fun w => by kernel_rfl) ?_
  refine reg_nowIf 1 (.int .i64 d.kind) (some 10) hQN D0 (by kernel_rfl) (by kernel_rfl) (fun w' hw => exec_load_cell 3 (.tmp 9) (by kernel_rfl) q 0 (by kernel_rfl) _ (FM.k hw) _ Try.underlying3 rfl) ?_
  refine reg_nowIf 5 (strT d.name) (some 14) hQN D0 (by kernel_rfl) (by kernel_rfl) (fun w' hw => exec_load_cell 9 (.tmp 13) (by kernel_rfl) q 2 (by kernel_rfl) _ (FM.n hw) _ Try.underlying9 rfl) ?_
  refine reg_now 2 (.int .u8 (IntKind.u8.wrap d.kind)) (some 11) hQN D0 (by kernel_rfl) (by kernel_rfl) (fun w => by kernel_rfl) ?_
  rw [wrapI8]
  have al : Below wd.heap.size wd (wd.alloc (.cells (ints .u8 [d.kind % 256]).toArray 5)) := (Below.refl _ _).alloc (Nat.le_refl _) _
  refine reg_pc 6 3 15 12 41 #[strT d.name] (fun w1' => Gives (textB d.name) w1') (fun g => .slice (some ⟨g, 0, none⟩) 1 1) (.cells (ints .u8 [d.kind % 256]).toArray 5) (fun v3 g w3 => RowB wd.heap.size w3 (.slice (some ⟨g, 0, none⟩) 1 1) [d.kind % 256] ∧ Below wd.heap.size wd w3 ∧ BytesIn w3 v3 (textB d.name) ∧ NilOk v3) (by kernel_rfl) (by kernel_rfl) (by kernel_rfl) (by decide) (by decide) (by kernel_rfl) (fun _ _ => by kernel_rfl) (fun _ => by kernel_rfl) (fun _ _ => by kernel_rfl) (fun w1' hb1 => rtext_walk d.name w1' (by omega)) (D0.below al D0.lt) ?_ ?_ ?_
  ·rintro e w3 ⟨v3, rfl, r3, b3⟩
   have D3 := D0.below b3 D0.lt
   have al3 : Below w3.heap.size w3 (w3.alloc (.cells (ints .u8 [d.kind % 256]).toArray 5)) := (Below.refl _ _).alloc (Nat.le_refl _) _
   exact ⟨D3, D3.below al3 D3.lt, v3, rfl, (row_new (n := 1) (xs := [d.kind % 256]) rfl (by decide)).mono b3.size, b3.trans (al3.mono b3.size), (r3.below al3).in, r3.nilok⟩
  ·rintro e w3 ⟨v3, rfl, r3, b3⟩
   have Da := D0.below al D0.lt
   exact ⟨Da.below b3 Da.lt, v3, rfl, (row_new (w := wd) (n := 1) (xs := [d.kind % 256]) rfl (by decide)).below b3, al.trans (b3.mono al.size), r3.in, r3.nilok⟩
  rintro v3 g w3 ⟨r3, b3, bi3, ni3⟩
  have TL := textB_len d.name (by omega)
  obtain ⟨v4, w4, e4, r4, s4, -⟩ := r3.append bi3 ni3 (by simp only [List.length_cons, List.length_nil]; omega) b3.size
  have D3 := D0.below b3 D0.lt
  have D4 : Blk w4 q 38 cs := s4.blk D3 (fun hc => by have := (ownL_row r3 q hc).1; have := D0.lt; omega)
  refine reg_value 7 v4 (some 16) w4 (by kernel_rfl) (by kernel_rfl) (exec_of (Builtin.append_ #[30, 30] 30 #[.slice (some ⟨g, 0, none⟩) 1 1, v3]) _ (by kernel_rfl) e4) D4 ?_
  refine reg_now 8 (v4) (some 4) hQN D4 (by kernel_rfl) (by kernel_rfl) (fun w => by kernel_rfl) ?_
  refine reg_done (by kernel_rfl) (hN _ _ ?_)
  generalize hact : Act.put _ (some 4) _ = act
  simp only [Act.put, sA, sC, sZ] at hact
  subst hact
  have LQ : Hid (q ≤ wd.heap.size) := Nat.le_of_lt D0.lt
  have RB : Hid (RowB q w4 v4 ([d.kind % 256] ++ textB d.name)) := r4.mono LQ.out
  have s2 : Step [] wd (ownL (.slice (some ⟨g, 0, none⟩) 1 1)) w3 := ⟨b3.os, b3.tape, b3.output, b3.size, fun k hk _ => b3.block k hk, fun k hk => .inr (ownL_row r3 k hk).1⟩
  have ST : Hid (Step [] w1 (ownL v4) w4) := Step.after BWd.out (s2.trans s4)
  have BQ2 := Lib.hid D4
  have TXL := Lib.hid TL
  have M4 : Hid (q ≤ w4.heap.size) := Nat.le_trans (Nat.le_of_lt S1.out) ST.out.size
  clear r3 b3 bi3 ni3 r4 s4 e4 D0 D3 D4 BWd al TL LQ s2 NM BW2 BE2
  go_upto_region 4 with (fail)
  refine lbeg (opsOf Try.f19 4) ?_
  refine lnow 0 (v4) (some 17) ?_
  refine lnow 1 (.pointer (some ⟨q, 1, none⟩)) (some 18) ?_
  refine lcl 2 (.int .i64 d.params) (some 19) 3 18 q 1 (FM.p BQ2.out) Try.underlying3 ?_
  refine lnow 3 (.int .u8 (IntKind.u8.wrap d.params)) (some 20) ?_
  rw [wrapI8]
  refine lin_byte1 4 (some 21) (some 22) (d.params % 256) (v4) ([d.kind % 256] ++ textB d.name) (q) RB.out (by have := TXL.out; have := OK.out.name; simp only [List.length_append, List.length_cons, List.length_nil]; omega) (M4.out) (by kernel_rfl) (by kernel_rfl) (by kernel_rfl) (fun _ => by kernel_rfl) (by kernel_rfl) (fun _ => by kernel_rfl) ?_
  intro q5 v5 w5 rw5 sw5
  refine lnow 6 (v5) (some 4) ?_
  refine ldn 7 ?_
  generalize hact : Act.put _ (some 4) _ = act
  simp only [Act.put, sA, sC, sZ] at hact
  subst hact
  have RB := Lib.hid rw5
  have ST := Lib.hid (ST.out.trans sw5)
  clear rw5 sw5 BQ2 M4
  have BQ2 : Hid (Blk w5 q 38 cs) := ST.out.blk BQ.out (by simp)
  have M5 : Hid (q ≤ w5.heap.size) := Nat.le_trans (Nat.le_of_lt S1.out) ST.out.size
  obtain ⟨TYO, TYN⟩ := OK.out.ty
  have TY5 : TmAt (F ++ ownL v5) w5 d.ty tc := TmAt.step (ST.out.wide (by simp)) _ _ HTY1.out
  have TYB := termB_len d.ty TYO LV.out.ty
  go_upto_region 5 with (fail)
  refine lbeg (opsOf Try.f19 5) ?_
  refine lnow 0 (v5) (some 23) ?_
  refine lnow 1 (.pointer (some ⟨q, 3, none⟩)) (some 24) ?_
  refine lrl 2 tc (some 25) 25 24 q 3 (FM.tr BQ2.out) Try.underlying25 (t5Size TC5.out) ?_
  refine lcal 3 38 #[.agg tc.toArray] (some 26) _ (rterm_walk d.ty tc w5 (F ++ ownL v5) TY5 TYO (by omega)) ?_
  rintro e w6 ⟨v6, rfl, r6, b6⟩
  refine ⟨_, rfl, ?_⟩
  refine lin_app 4 (some 27) v5 v6 ([d.kind % 256] ++ textB d.name ++ [d.params % 256]) (termB d.ty) q (RB.out.below b6) r6.in r6.nilok (by have := TXL.out; have := OK.out.name; simp only [List.length_append, List.length_cons, List.length_nil]; omega) (Nat.le_trans M5.out b6.size) (by kernel_rfl) (by kernel_rfl) (by kernel_rfl) ?_
  intro v7 w7 r7 s7
  refine lnow 5 (v7) (some 4) ?_
  refine ldn 6 ?_
  generalize hact : Act.put _ (some 4) _ = act
  simp only [Act.put, sA, sC, sZ] at hact
  subst hact
  have RB : Hid (RowB q w7 v7 HD) := by rw [Hid, ← hHD.out]; exact r7
  have ST := Lib.hid ((ST.out.on b6).trans s7)
  clear r6 b6 r7 s7 BQ2 M5 TYO TYN TY5 TYB TXL hHD
  have BQ2 : Hid (Blk w7 q 38 cs) := ST.out.blk BQ.out (by simp)
  have k0 := FM.k BQ2.out
  have M7 : Hid (q ≤ w7.heap.size) := Nat.le_trans (Nat.le_of_lt S1.out) ST.out.size
  go_upto_region 6 with (fail)
  go_cut [35] from 6 (fun sv wc => sv = .bool (decide (valD d)) ∧ w7 = wc)
  case first =>
   by_cases ha : d.kind = 2
   ·skip
    refine lbeg (opsOf Try.f19 6) ?_
    refine lnow 0 (.pointer (some ⟨q, 0, none⟩)) (some 28) ?_
    refine lcl 1 (.int .i64 d.kind) (some 29) 3 28 q 0 (k0) Try.underlying3 ?_
    refine lnowP 2 (.bool true) (some 30) (exec_eqli_yes ha (by kernel_rfl)) ?_
    refine lnow 3 (.bool true) (some 31) ?_
    refine lpas 4 (some 32) ?_
    refine lpas 5 (some 33) ?_
    refine lpas 6 (some 34) ?_
    refine lnow 7 (.bool true) (some 35) ?_
    refine ldn 8 ?_
    generalize hact : Act.put _ (some 35) _ = act
    simp only [Act.put, sA, sC, sZ] at hact
    subst hact
    go_wp2
    go_meet
    case rel => exact ⟨by rw [decide_eq_true (show valD d from .inl ha)], rfl⟩
   refine lbeg (opsOf Try.f19 6) ?_
   refine lnow 0 (.pointer (some ⟨q, 0, none⟩)) (some 28) ?_
   refine lcl 1 (.int .i64 d.kind) (some 29) 3 28 q 0 (k0) Try.underlying3 ?_
   refine lnowP 2 (.bool false) (some 30) (exec_eqli ha (by kernel_rfl)) ?_
   refine lnow 3 (.bool false) (some 31) ?_
   refine lnow 4 (.pointer (some ⟨q, 0, none⟩)) (some 32) ?_
   refine lcl 5 (.int .i64 d.kind) (some 33) 3 32 q 0 (k0) Try.underlying3 ?_
   refine lnow 6 (.bool (decide (d.kind = 3))) (some 34) ?_
   refine lnow 7 (.bool (decide (d.kind = 3))) (some 35) ?_
   refine ldn 8 ?_
   generalize hact : Act.put _ (some 35) _ = act
   simp only [Act.put, sA, sC, sZ] at hact
   subst hact
   go_wp2
   go_meet
   case rel => exact ⟨by by_cases h3 : d.kind = 3; rw [decide_eq_true h3, decide_eq_true (show valD d from .inr h3)]; rw [decide_eq_false h3, decide_eq_false (fun e : valD d => e.elim ha h3)], rfl⟩
  obtain ⟨rfl, rfl⟩ := hcut
  clear k0
  go_upto_if 35 with (fail)
  go_cut [4] from 6 (fun s0 wc => ∃ v0, v0 = s0 ∧ HeadC q (.slice none 0 0) w1 (HD ++ TA) v0 wc)
  case first =>
   by_cases hv : valD d
   rotate_left
   ·skip
    have EA : TA = [] := by rw [← hTA.out, if_neg hv]
    rw [decide_eq_false hv]
    have RH : HeadC q (.slice none 0 0) w1 (HD ++ TA) v7 w7 := ⟨by rw [EA, List.append_nil]; exact RB.out, ST.out⟩
    go_wp2
    go_meet
    case rel => exact ⟨_, rfl, RH⟩
   have EA : TA = termB d.val := by rw [← hTA.out, if_pos hv]
   rw [decide_eq_true hv]
   obtain ⟨VO, VN⟩ := OK.out.val hv
   have V7 : TmAt (F ++ ownL v7) w7 d.val vc := TmAt.step (ST.out.wide (by simp)) _ _ HVAL1.out
   have VB := termB_len d.val VO LV.out.val
   go_upto_region 7 with (fail)
   refine lbeg (opsOf Try.f19 7) ?_
   refine lnow 0 (v7) (some 36) ?_
   refine lnow 1 (.pointer (some ⟨q, 8, none⟩)) (some 37) ?_
   refine lrl 2 vc (some 38) 25 37 q 8 (FM.vr BQ2.out) Try.underlying25 (t5Size VC5.out) ?_
   refine lcal 3 38 #[.agg vc.toArray] (some 39) _ (rterm_walk d.val vc w7 (F ++ ownL v7) V7 VO (by omega)) ?_
   rintro e w8 ⟨v8, rfl, r8, b8⟩
   refine ⟨_, rfl, ?_⟩
   refine lin_app 4 (some 40) v7 v8 HD (termB d.val) q (RB.out.below b8) r8.in r8.nilok (by have := HDL.out; omega) (Nat.le_trans M7.out b8.size) (by kernel_rfl) (by kernel_rfl) (by kernel_rfl) ?_
   intro v9 w9 r9 s9
   refine lnow 5 (v9) (some 4) ?_
   refine ldn 6 ?_
   generalize hact : Act.put _ (some 4) _ = act
   simp only [Act.put, sA, sC, sZ] at hact
   subst hact
   have RH : HeadC q (.slice none 0 0) w1 (HD ++ TA) v9 w9 := ⟨by rw [EA]; exact r9, (ST.out.on b8).trans s9⟩
   clear r8 b8 r9 s9 VO VN V7 VB RB ST BQ2 M7
   go_wp2
   go_meet
   case rel => exact ⟨_, rfl, RH⟩
  clear RB ST BQ2 M7
  obtain ⟨v10, rfl, hcut⟩ := hcut
  have RB := Lib.hid hcut.row
  have ST := Lib.hid hcut.st
  clear hcut
  obtain ⟨w10, hw10⟩ : ∃ y, y = wc := ⟨_, rfl⟩
  rw [← hw10] at RB ST ⊢
  clear hw10
  have BQ2 : Hid (Blk w10 q 38 cs) := ST.out.blk BQ.out (by simp [ownL_nil])
  have M10 : Hid (q ≤ w10.heap.size) := Nat.le_trans (Nat.le_of_lt S1.out) ST.out.size
  have HAL : Hid ((HD ++ TA).length ≤ 400000) := by
   rw [Hid, List.length_append, ← hTA.out]
   have := HDL.out
   split
   ·have h3 := OK.out.val ‹_›; have := termB_len d.val h3.1 LV.out.val; omega
   ·simp; omega
  obtain ⟨HA, hHA⟩ : ∃ y, Hid (HD ++ TA = y) := ⟨_, rfl⟩
  rw [hHA.out] at RB HAL
  have EV : Hid (V = HA ++ TB) := by rw [Hid, EV0.out, ETL.out, ← hHA.out, List.append_assoc]
  clear EV0 ETL hHA hTA
  go_upto_region 8 with (fail)
  refine lbeg (opsOf Try.f19 8) ?_
  refine lnow 0 (.pointer (some ⟨q, 0, none⟩)) (some 41) ?_
  refine lcl 1 (.int .i64 d.kind) (some 42) 3 41 q 0 (FM.k BQ2.out) Try.underlying3 ?_
  refine lnow 2 (.bool (decide (d.kind = 4))) (some 43) ?_
  refine ldn 3 ?_
  generalize hact : Act.put _ (some 43) _ = act
  simp only [Act.put, sA, sC, sZ] at hact
  subst hact
  go_upto_if 43 with (fail)
  go_cut [4, 5] from 6 (fun s0 s5 wc => ∃ v0, v0 = s0 ∧ HeadC q (.slice none 0 0) w1 (HA ++ TB) v0 wc)
  case first =>
   by_cases h4 : d.kind = 4
   rotate_left
   ·skip
    have EA : TB = [] := by rw [← hTB.out, if_neg h4]
    rw [decide_eq_false h4]
    have RH : HeadC q (.slice none 0 0) w1 (HA ++ TB) v10 w10 := ⟨by rw [EA, List.append_nil]; exact RB.out, ST.out⟩
    go_wp2
    go_meet
    case rel => exact ⟨_, rfl, RH⟩
   rw [decide_eq_true h4]
   have M8 : Hid (M ≤ 8) := by have := OK.out.len h4; rw [hM.out] at this; exact this
   obtain ⟨FL, hFL⟩ : ∃ y, Hid ([d.fixed % 256, ((M % 256 : Nat) : Int)] = y) := ⟨_, rfl⟩
   have FLL : Hid (FL.length = 2) := by rw [Hid, ← hFL.out]; rfl
   have ET : Hid (TB = FL ++ ctsB d.ctors) := by rw [Hid, ← hTB.out, ← hFL.out, if_pos h4]
   have CO := Lib.hid (OK.out.ctors h4)
   clear h4
   go_upto_region 9 with (fail)
   refine lbeg (opsOf Try.f19 9) ?_
   refine lnow 0 (v10) (some 44) ?_
   refine lnow 1 (.pointer (some ⟨q, 13, none⟩)) (some 45) ?_
   refine lcl 2 (.int .i64 d.fixed) (some 46) 3 45 q 13 (FM.f BQ2.out) Try.underlying3 ?_
   refine lnow 3 (.int .u8 (IntKind.u8.wrap d.fixed)) (some 47) ?_
   rw [wrapI8]
   refine lnow 4 (.pointer (some ⟨q, 14, none⟩)) (some 48) ?_
   refine lcl 5 (.slice ca M cc) (some 49) 36 48 q 14 (FM.c BQ2.out) Try.underlying36 ?_
   refine lnow 6 (.int .i64 (M : Int)) (some 50) ?_
   refine lnow 7 (.int .u8 (IntKind.u8.wrap (M : Int))) (some 51) ?_
   rw [wrapU8]
   refine lin_new 8 (some 52) [d.fixed % 256, ((M % 256 : Nat) : Int)] 2 rfl (by decide) (by kernel_rfl) (by kernel_rfl) (by kernel_rfl) ?_
   intro vn wn rn bn _ _
   rw [hFL.out] at rn
   refine lin_app 9 (some 53) v10 vn HA FL q (RB.out.below bn) rn.in rn.nilok (by have := HAL.out; have := FLL.out; omega) (Nat.le_trans M10.out bn.size) (by kernel_rfl) (by kernel_rfl) (by kernel_rfl) ?_
   intro v11 w11 r11 s11
   refine lnow 10 (v11) (some 4) ?_
   refine ldn 11 ?_
   generalize hact : Act.put _ (some 4) _ = act
   simp only [Act.put, sA, sC, sZ] at hact
   subst hact
   have RB := Lib.hid r11
   have ST := Lib.hid ((ST.out.on bn).trans s11)
   clear r11 s11 rn bn BQ2 M10 hFL hTB
   go_upto_region 10 with (fail)
   refine lbeg (opsOf Try.f19 10) ?_
   refine lnow 0 (.int .i64 0) (some 5) ?_
   refine ldn 1 ?_
   generalize hact : Act.put _ (some 5) _ = act
   simp only [Act.put, sA, sC, sZ] at hact
   subst hact
   go_wp2
   go_loopw [4, 5] (fun vv iv wr => ∃ (i : Nat) (v' : Value), i ≤ M ∧ iv = .int .i64 (i : Int) ∧ v' = vv ∧ Hid (RowB q wr v' (HA ++ FL ++ ctsB (d.ctors.take i))) ∧ Hid (Step [] w1 (ownL v') wr)) (fun _ iv _ => M - (intOf iv).toNat)
   case atStart => exact ⟨0, _, Nat.zero_le _, rfl, rfl, by rw [List.take_zero, ctsB, List.map_nil, List.flatten_nil, List.append_nil]; exact RB, ST⟩
   case round =>
    clear RB ST
    obtain ⟨i, v', hi, rfl, rfl, RB, ST⟩ := hrel
    have MR : Hid (q ≤ wr.heap.size) := Nat.le_trans (Nat.le_of_lt S1.out) ST.out.size
    have BQ2 : Hid (Blk wr q 38 cs) := ST.out.blk BQ.out (by simp)
    by_cases hlt : i < M
    ·skip
     have c1 : (i : Int) < (M : Int) := by omega
     obtain ⟨x, pb, po, xs, hx, hxm, haa, hpF, hpb, hrx, htx⟩ := CT1.out.get hM.out hlt
     subst haa
     have RX : Hid (wr.rangeAt pb (po + 6 * i) (strT x.1 :: xs)) := ST.out.range hpb (by simp) hrx
     have TX1 := Lib.hid htx
     have PB := Lib.hid hpb
     have RX1 := Lib.hid hrx
     have X5 := Lib.hid htx.len
     have TK : Hid (d.ctors.take (i + 1) = d.ctors.take i ++ [x]) := by rw [Hid, List.take_add_one, hx]; rfl
     have XO := Lib.hid (CO.out x hxm)
     have XL := Lib.hid (ctorB_len XO.out (LV.out.ctors x hxm))
     have XLV := Lib.hid (LV.out.ctors x hxm)
     have SUM : Hid ((ctsB (d.ctors.take i)).length ≤ 1440328) := by
      have e1 := ctsB_len (cs := d.ctors.take i) (fun c hc => ctorB_len (CO.out c (List.mem_of_mem_take hc)) (LV.out.ctors c (List.mem_of_mem_take hc)))
      rw [List.length_take] at e1
      have := M8.out
      have e3 : min i d.ctors.length ≤ 8 := by omega
      rw [Hid]
      exact Nat.le_trans e1 (Nat.le_trans (Nat.mul_le_mul_left _ e3) (by decide))
     clear hx hrx hpF hpb htx hxm
     obtain ⟨XN, XK, XL3⟩ := XO.out
     have XT := textB_len x.1 (by omega)
     go_upto_region 11 with (fail)
     refine lbeg (opsOf Try.f19 11) ?_
     refine lnow 0 (.int .i64 (i : Int)) (some 54) ?_
     refine lnow 1 (.pointer (some ⟨q, 14, none⟩)) (some 55) ?_
     refine lcl 2 (.slice (some ⟨pb, po, none⟩) M cc) (some 56) 36 55 q 14 (FM.c BQ2.out) Try.underlying36 ?_
     refine lnow 3 (.int .i64 (M : Int)) (some 57) ?_
     refine lnow 4 (.bool (decide ((i : Int) < (M : Int)))) (some 58) ?_
     rw [decide_eq_true c1]
     refine ldn 5 ?_
     generalize hact : Act.put _ (some 58) _ = act
     simp only [Act.put, sA, sC, sZ] at hact
     subst hact
     go_upto_region 13 with (fail)
     refine lbeg (opsOf Try.f19 13) ?_
     refine lnow 0 (v') (some 61) ?_
     refine lnow 1 (.pointer (some ⟨q, 14, none⟩)) (some 62) ?_
     refine lcl 2 (.slice (some ⟨pb, po, none⟩) M cc) (some 63) 36 62 q 14 (FM.c BQ2.out) Try.underlying36 ?_
     refine lnow 3 (.int .i64 (i : Int)) (some 64) ?_
     refine lix 4 (.pointer (some ⟨pb, po + 6 * i, none⟩)) (some 65) 36 63 64 (run_at_ct pb po M cc i hlt _) ?_
     refine lnow 5 (.pointer (some ⟨pb, po + 6 * i, none⟩)) (some 66) ?_
     refine lcl 6 (strT x.1) (some 67) 9 66 pb (po + 6 * i) (ct_name RX.out) Try.underlying9 ?_
     refine lcal 7 41 #[strT x.1] (some 68) _ (rtext_walk x.1 wr (by omega)) ?_
     rintro e w12 ⟨v12, rfl, r12, b12⟩
     refine ⟨_, rfl, ?_⟩
     refine lin_app 8 (some 69) v' v12 (HA ++ FL ++ ctsB (d.ctors.take i)) (textB x.1) q (RB.out.below b12) r12.in r12.nilok (by have := HAL.out; have := FLL.out; have := SUM.out; simp only [List.length_append]; omega) (Nat.le_trans MR.out b12.size) (by kernel_rfl) (by kernel_rfl) (by kernel_rfl) ?_
     intro v13 w13 r13 s13
     refine lnow 9 (v13) (some 4) ?_
     refine ldn 10 ?_
     generalize hact : Act.put _ (some 4) _ = act
     simp only [Act.put, sA, sC, sZ] at hact
     subst hact
     have RB3 := Lib.hid r13
     have ST3 := Lib.hid ((ST.out.on b12).trans s13)
     clear r12 b12 r13 s13 BQ2 RX RB ST
     have BQ3 : Hid (Blk w13 q 38 cs) := ST3.out.blk BQ.out (by simp)
     have MR3 : Hid (q ≤ w13.heap.size) := Nat.le_trans (Nat.le_of_lt S1.out) ST3.out.size
     have RX3 : Hid (w13.rangeAt pb (po + 6 * i) (strT x.1 :: xs)) := ST3.out.range PB.out (by simp) RX1.out
     have TX3 : Hid (TmAt (F ++ ownL v13) w13 x.2 xs) := TmAt.step (ST3.out.wide (by simp)) _ _ TX1.out
     go_upto_region 14 with (fail)
     refine lbeg (opsOf Try.f19 14) ?_
     refine lnow 0 (v13) (some 70) ?_
     refine lnow 1 (.pointer (some ⟨q, 14, none⟩)) (some 71) ?_
     refine lcl 2 (.slice (some ⟨pb, po, none⟩) M cc) (some 72) 36 71 q 14 (FM.c BQ3.out) Try.underlying36 ?_
     refine lnow 3 (.int .i64 (i : Int)) (some 73) ?_
     refine lix 4 (.pointer (some ⟨pb, po + 6 * i, none⟩)) (some 74) 36 72 73 (run_at_ct pb po M cc i hlt _) ?_
     refine lnow 5 (.pointer (some ⟨pb, po + 6 * i + 1, none⟩)) (some 75) ?_
     refine lrl 6 xs (some 76) 25 75 pb (po + 6 * i + 1) (ct_type RX3.out) Try.underlying25 (t5Size X5.out) ?_
     have XTB := termB_len x.2 XK XLV.out
     refine lcal 7 38 #[.agg xs.toArray] (some 77) _ (rterm_walk x.2 xs w13 (F ++ ownL v13) TX3.out XK (by omega)) ?_
     rintro e w14 ⟨v14, rfl, r14, b14⟩
     refine ⟨_, rfl, ?_⟩
     refine lin_app 8 (some 78) v13 v14 (HA ++ FL ++ ctsB (d.ctors.take i) ++ textB x.1) (termB x.2) q (RB3.out.below b14) r14.in r14.nilok (by have := HAL.out; have := FLL.out; have := SUM.out; simp only [List.length_append]; omega) (Nat.le_trans MR3.out b14.size) (by kernel_rfl) (by kernel_rfl) (by kernel_rfl) ?_
     intro v15 w15 r15 s15
     refine lnow 9 (v15) (some 4) ?_
     refine ldn 10 ?_
     generalize hact : Act.put _ (some 4) _ = act
     simp only [Act.put, sA, sC, sZ] at hact
     subst hact
     have RB : Hid (RowB q w15 v15 (HA ++ FL ++ ctsB (d.ctors.take (i + 1)))) := by rw [Hid, TK.out, ctsB_snoc, ctorB, ← List.append_assoc, ← List.append_assoc]; exact r15
     have ST := Lib.hid ((ST3.out.on b14).trans s15)
     clear r14 b14 r15 s15 RB3 ST3 BQ3 MR3 RX3 TX3 TK XN XK XL3 XT XTB SUM RX1 TX1
     have m8 := M8.out
     go_wp2
     go_roundw
     case rel => exact ⟨i + 1, v15, by omega, by go_num, rfl, RB, ST⟩
     case measure => simp [intOf]; omega
    obtain rfl : i = M := by omega
    have c1 : ¬ ((i : Int) < (i : Int)) := by omega
    have RH : HeadC q (.slice none 0 0) w1 (HA ++ TB) v' wr := ⟨by have := RB.out; rw [List.take_of_length_le (by have := hM.out; omega), List.append_assoc] at this; rw [ET.out]; exact this, ST.out⟩
    go_upto_region 11 with (fail)
    refine lbeg (opsOf Try.f19 11) ?_
    refine lnow 0 (.int .i64 (i : Int)) (some 54) ?_
    refine lnow 1 (.pointer (some ⟨q, 14, none⟩)) (some 55) ?_
    refine lcl 2 (.slice ca i cc) (some 56) 36 55 q 14 (FM.c BQ2.out) Try.underlying36 ?_
    refine lnow 3 (.int .i64 (i : Int)) (some 57) ?_
    refine lnow 4 (.bool (decide ((i : Int) < (i : Int)))) (some 58) ?_
    rw [decide_eq_false c1]
    refine ldn 5 ?_
    generalize hact : Act.put _ (some 58) _ = act
    simp only [Act.put, sA, sC, sZ] at hact
    subst hact
    clear RB ST BQ2
    go_wp2
    go_meet
    case rel => exact ⟨_, rfl, RH⟩
  clear RB ST BQ2 M10
  obtain ⟨v16, rfl, hcut⟩ := hcut
  have RB := Lib.hid hcut.row
  have ST : Hid (Below w.heap.size w wc) := BE.out.trans ((hcut.st.below_of (B := w1.heap.size) (by simp [ownL_nil]) (Nat.le_refl _)).mono BE.out.size)
  clear hcut
  go_upto_region 15 with (fail)
  refine lbeg (opsOf Try.f19 15) ?_
  refine lnow 0 (v16) (some 79) ?_
  refine lnow 1 (v16) (some 2) ?_
  refine lnow 2 (.bool true) (some 3) ?_
  refine ldn 3 ?_
  generalize hact : Act.put _ (some 3) _ = act
  simp only [Act.put, sA, sC, sZ] at hact
  subst hact
  go_wp2
  go_ret2
  exact ⟨v16, rfl, by rw [EV.out]; exact RB.out.mono (Nat.le_of_eq hq.out), ST.out⟩
set_option maxHeartbeats 8000000 in
theorem rLibrary_walk {F : List Nat} (ds : List Dc) (v : Value) (w : World) (hd : DcsAt F w ds v) (hs : ∀ d ∈ ds, SmD d) (hn : ds.length ≤ 140737488351232) : Calls Try.prog 15 #[v] w (GivesIf (libOk ds) (libV ds) w) := by
 obtain ⟨da, dc, rfl⟩ := hd.slice
 obtain ⟨L, hL⟩ : ∃ L, Hid (ds.length = L) := ⟨_, rfl⟩
 rw [hL.out] at hd hn ⊢
 obtain ⟨q, hq⟩ : ∃ q, Hid (w.heap.size = q) := ⟨_, rfl⟩
 have DD := Lib.hid hd
 have SD := Lib.hid hs
 have HN := Lib.hid hn
 clear hd hs hn
 obtain ⟨B, hB⟩ : ∃ b, Hid (libOk ds = b) := ⟨_, rfl⟩
 obtain ⟨V, hV⟩ : ∃ b, Hid (libV ds = b) := ⟨_, rfl⟩
 rw [hB.out, hV.out]
 go_enter Try.func15, Try.ntmps15
 go_upto_region 0 with (fail)
 refine lbeg (opsOf Try.f15 0) ?_
 refine lnow 0 (.slice none 0 0) (some 2) ?_
 refine lnow 1 (.bool false) (some 3) ?_
 refine ldn 2 ?_
 generalize hact : Act.put _ (some 3) _ = act
 simp only [Act.put, sA, sC, sZ] at hact
 subst hact
 go_upto_region 1 with (fail)
 refine lbeg (opsOf Try.f15 1) ?_
 refine lnow 0 (.slice da L dc) (some 8) ?_
 refine lnow 1 (.int .i64 (L : Int)) (some 9) ?_
 refine lnow 2 (.bool (decide ((L : Int) > 64))) (some 10) ?_
 by_cases h64 : (L : Int) > 64
 ·skip
  rw [decide_eq_true h64]
  refine ldn 3 ?_
  generalize hact : Act.put _ (some 10) _ = act
  simp only [Act.put, sA, sC, sZ] at hact
  subst hact
  obtain rfl : B = false := by rw [← hB.out, libOk, hL.out, decide_eq_false (by omega)]; rfl
  obtain rfl : V = [] := by rw [← hV.out, libV, hB.out]; rfl
  go_wp2
  go_ret2
  exact ⟨_, rfl, RowB.nil _ _, Below.refl _ _⟩
 rw [decide_eq_false h64]
 refine ldn 3 ?_
 generalize hact : Act.put _ (some 10) _ = act
 simp only [Act.put, sA, sC, sZ] at hact
 subst hact
 have L64 : Hid (L ≤ 64) := by rw [Hid]; omega
 have EB : Hid (ds.all formB = B) := by rw [Hid, ← hB.out, libOk, hL.out, decide_eq_true L64.out, Bool.true_and]
 clear h64
 go_upto_region 3 with (fail)
 refine lbeg (opsOf Try.f15 3) ?_
 refine lnow 0 (.slice da L dc) (some 11) ?_
 refine lnow 1 (.int .i64 (L : Int)) (some 12) ?_
 refine lcal 2 32 #[.int .i64 (L : Int)] (some 13) _ (rnum_walk L w (by have := L64.out; omega)) ?_
 rintro e w1 ⟨v1, rfl, r1, b1⟩
 refine ⟨_, rfl, ?_⟩
 refine lnow 3 (v1) (some 4) ?_
 refine ldn 4 ?_
 generalize hact : Act.put _ (some 4) _ = act
 simp only [Act.put, sA, sC, sZ] at hact
 subst hact
 have RB : Hid (RowB q w1 v1 (numB L)) := by rw [← hq.out]; exact r1
 have ST : Hid (Step [] w (ownL v1) w1) := step_new r1 b1
 clear r1 b1
 obtain ⟨NB, hNB⟩ : ∃ y, Hid (numB L = y) := ⟨_, rfl⟩
 have NL : Hid (NB.length ≤ 9) := by rw [Hid, ← hNB.out]; exact numB_len L (by have := L64.out; omega)
 rw [hNB.out] at RB
 go_upto_region 4 with (fail)
 refine lbeg (opsOf Try.f15 4) ?_
 refine lnow 0 (.int .i64 0) (some 5) ?_
 refine ldn 1 ?_
 generalize hact : Act.put _ (some 5) _ = act
 simp only [Act.put, sA, sC, sZ] at hact
 subst hact
 go_wp2
 go_loopw [4, 5] (fun vv iv wr => ∃ (i : Nat) (v' : Value), i ≤ L ∧ iv = .int .i64 (i : Int) ∧ v' = vv ∧ Hid (RowB q wr v' (NB ++ dsB (ds.take i))) ∧ Hid (Step [] w (ownL v') wr) ∧ Hid ((ds.take i).all formB = true)) (fun _ iv _ => L - (intOf iv).toNat)
 case atStart => exact ⟨0, _, Nat.zero_le _, rfl, rfl, by rw [List.take_zero, dsB, List.map_nil, List.flatten_nil, List.append_nil]; exact RB, ST, rfl⟩
 case round =>
  clear RB ST
  obtain ⟨i, v', hi, rfl, rfl, RB, ST, AL⟩ := hrel
  have MR : Hid (q ≤ wr.heap.size) := by have := ST.out.size; have := hq.out; rw [Hid]; omega
  by_cases hlt : i < L
  ·skip
   have c1 : (i : Int) < (L : Int) := by omega
   obtain ⟨x, pb, po, cx, hx, hxm, haa, hpF, hpb, hrx, htx⟩ := DD.out.get hL.out hlt
   subst haa
   have RX : Hid (wr.rangeAt pb (po + 15 * i) cx) := ST.out.range hpb (by simp) hrx
   have TX : Hid (DcAt (F ++ ownL v') wr x cx) := htx.step (ST.out.wide (by simp))
   have X15 := Lib.hid htx.len
   have TK : Hid (ds.take (i + 1) = ds.take i ++ [x]) := by rw [Hid, List.take_add_one, hx]; rfl
   have XS := Lib.hid (SD.out x hxm)
   have XM := Lib.hid hxm
   have XLV := Lib.hid htx.lv
   clear hx hrx hpF hpb htx hxm
   go_upto_region 5 with (fail)
   refine lbeg (opsOf Try.f15 5) ?_
   refine lnow 0 (.int .i64 (i : Int)) (some 14) ?_
   refine lnow 1 (.slice (some ⟨pb, po, none⟩) L dc) (some 15) ?_
   refine lnow 2 (.int .i64 (L : Int)) (some 16) ?_
   refine lnow 3 (.bool (decide ((i : Int) < (L : Int)))) (some 17) ?_
   rw [decide_eq_true c1]
   refine ldn 4 ?_
   generalize hact : Act.put _ (some 17) _ = act
   simp only [Act.put, sA, sC, sZ] at hact
   subst hact
   go_upto_region 7 with (fail)
   refine lbeg (opsOf Try.f15 7) ?_
   refine lnow 0 (.slice (some ⟨pb, po, none⟩) L dc) (some 21) ?_
   refine lnow 1 (.int .i64 (i : Int)) (some 22) ?_
   refine lix 2 (.pointer (some ⟨pb, po + 15 * i, none⟩)) (some 23) 26 21 22 (run_at_dc pb po L dc i hlt _) ?_
   refine lrl 3 cx (some 24) 38 23 pb (po + 15 * i) RX.out Try.underlying38 (dcSize X15.out) ?_
   refine lcal 4 19 #[.agg cx.toArray] (some 25) _ (rDecl_walk x cx wr TX.out XS.out) ?_
   rintro e w5 ⟨v5, rfl, r5, b5⟩
   obtain ⟨bf, hbf⟩ : ∃ b, Hid (formB x = b) := ⟨_, rfl⟩
   rw [hbf.out]
   refine ⟨_, rfl, ?_⟩
   have RB5 := Lib.hid (RB.out.below b5)
   have ST5 := Lib.hid (ST.out.on b5)
   have MR5 : Hid (q ≤ w5.heap.size) := Nat.le_trans MR.out b5.size
   have R5 := Lib.hid r5
   clear b5 r5 RB ST MR TX RX
   refine lnow 5 (.tuple #[v5, .bool bf]) (some 20) ?_
   refine lnow 6 (v5) (some 26) ?_
   refine lnow 7 (.bool bf) (some 27) ?_
   refine lnow 8 (v5) (some 6) ?_
   refine lnow 9 (.bool bf) (some 7) ?_
   refine ldn 10 ?_
   generalize hact : Act.put _ (some 7) _ = act
   simp only [Act.put, sA, sC, sZ] at hact
   subst hact
   go_upto_region 8 with (fail)
   refine lbeg (opsOf Try.f15 8) ?_
   refine lnow 0 (.bool bf) (some 28) ?_
   refine lnow 1 (.bool (!bf)) (some 29) ?_
   refine ldn 2 ?_
   generalize hact : Act.put _ (some 29) _ = act
   simp only [Act.put, sA, sC, sZ] at hact
   subst hact
   cases bf with
   | false =>
    obtain rfl : B = false := by rw [← EB.out]; exact List.all_eq_false.2 ⟨x, XM.out, by rw [hbf.out]; simp⟩
    obtain rfl : V = [] := by rw [← hV.out, libV, hB.out]; rfl
    have FB : Hid (Below w.heap.size w w5) := ST5.out.below
    clear TK AL hbf RB5 ST5 R5
    go_wp2
    go_ret2
    exact ⟨_, rfl, RowB.nil _ _, FB.out⟩
   | true =>
    have EX : declV x = declB x := by rw [declV, hbf.out]; rfl
    rw [EX] at R5
    have AL5 : Hid ((ds.take (i + 1)).all formB = true) := by rw [Hid, TK.out, List.all_append, AL.out]; simp [hbf.out]
    have XB := declB_len (form_ok (form_iff.1 hbf.out)) XLV.out
    have SUM : Hid ((dsB (ds.take i)).length ≤ 128000000) := by
     have e1 := dsB_len (ds := ds.take i) (fun y hy => declB_len (form_ok (form_iff.1 (List.all_eq_true.1 AL.out y hy))) (DcsAt_lv DD.out y (List.mem_of_mem_take hy)))
     rw [List.length_take] at e1
     have := L64.out
     have e3 : min i ds.length ≤ 64 := by omega
     rw [Hid]
     exact Nat.le_trans e1 (Nat.le_trans (Nat.mul_le_mul_left _ e3) (by decide))
    go_upto_region 10 with (fail)
    refine lbeg (opsOf Try.f15 10) ?_
    refine lnow 0 (v') (some 30) ?_
    refine lnow 1 (v5) (some 31) ?_
    refine lin_app 2 (some 32) v' v5 (NB ++ dsB (ds.take i)) (declB x) q RB5.out R5.out.in R5.out.nilok (by have := NL.out; have := SUM.out; simp only [List.length_append]; omega) MR5.out (by kernel_rfl) (by kernel_rfl) (by kernel_rfl) ?_
    intro v6 w6 r6 s6
    refine lnow 3 (v6) (some 4) ?_
    refine ldn 4 ?_
    generalize hact : Act.put _ (some 4) _ = act
    simp only [Act.put, sA, sC, sZ] at hact
    subst hact
    have RB6 : Hid (RowB q w6 v6 (NB ++ dsB (ds.take (i + 1)))) := by rw [Hid, TK.out, dsB_snoc, ← List.append_assoc]; exact r6
    have ST6 := Lib.hid (ST5.out.trans s6)
    clear r6 s6 TK AL hbf RB5 ST5 R5 SUM XB EX MR5
    have l64 := L64.out
    go_wp2
    go_roundw
    case rel => exact ⟨i + 1, v6, by omega, by go_num, rfl, RB6, ST6, AL5⟩
    case measure => simp [intOf]; omega
  obtain rfl : i = L := by omega
  have c1 : ¬ ((i : Int) < (i : Int)) := by omega
  have TA : ds.take i = ds := List.take_of_length_le (by have := hL.out; omega)
  rw [TA] at RB AL
  obtain rfl : B = true := by rw [← EB.out]; exact AL.out
  obtain rfl : V = NB ++ dsB ds := by rw [← hV.out, libV, hB.out, if_pos rfl, hL.out, hNB.out]
  have FB : Hid (Below w.heap.size w wr) := ST.out.below
  go_upto_region 5 with (fail)
  refine lbeg (opsOf Try.f15 5) ?_
  refine lnow 0 (.int .i64 (i : Int)) (some 14) ?_
  refine lnow 1 (.slice da i dc) (some 15) ?_
  refine lnow 2 (.int .i64 (i : Int)) (some 16) ?_
  refine lnow 3 (.bool (decide ((i : Int) < (i : Int)))) (some 17) ?_
  rw [decide_eq_false c1]
  refine ldn 4 ?_
  generalize hact : Act.put _ (some 17) _ = act
  simp only [Act.put, sA, sC, sZ] at hact
  subst hact
  go_upto_region 11 with (fail)
  refine lbeg (opsOf Try.f15 11) ?_
  refine lnow 0 (v') (some 33) ?_
  refine lnow 1 (v') (some 2) ?_
  refine lnow 2 (.bool true) (some 3) ?_
  refine ldn 3 ?_
  generalize hact : Act.put _ (some 3) _ = act
  simp only [Act.put, sA, sC, sZ] at hact
  subst hact
  clear TA AL ST
  go_wp2
  go_ret2
  exact ⟨v', rfl, by rw [hq.out]; exact RB.out, FB.out⟩
end Go.Proofs.Yteohjbggicchgaa
