/- Law 10's CodeOne: the walk. -/
import Derived.Test.YteohjbggicchgaaKGenT
import Derived.Test.YteohjbggicchgaaKCodOn
import Derived.Deep.CutBlock
namespace Go.Proofs.Yteohjbggicchgaa
open Go Go.RowKit
set_option maxRecDepth 100000
theorem TkP.num {zs : List Int} {z : Int} {w w' : World} {e : Ending} (h : TkP (numP zs) RInt (.int .i64 z) w e w') : ∃ (n : Int) (v : Value) (ok : Bool), e = .returned (.tuple #[.int .i64 n, v, .bool ok]) ∧ Below w.heap.size w w' ∧ (ok = true → ∃ r, numP zs = some (n, r) ∧ RowB w.heap.size w' v r) := by
 obtain ⟨h1, h2⟩ := h
 cases hn : numP zs with
 | none =>
  rw [hn] at h2
  exact ⟨z, _, false, h2, h1, fun e => by cases e⟩
 | some y =>
  obtain ⟨n, r⟩ := y
  rw [hn] at h2
  obtain ⟨v, v', e1, hv, hr⟩ := h2
  obtain rfl : v = .int .i64 n := hv
  exact ⟨n, v', true, e1, h1, fun _ => ⟨r, rfl, hr⟩⟩
theorem TkP.term {zs : List Int} {w w' : World} {e : Ending} (h : TkP (takeT zs) RTm (.agg z5T.toArray) w e w') : ∃ (cs : List Value) (v : Value) (ok : Bool), e = .returned (.tuple #[.agg cs.toArray, v, .bool ok]) ∧ Below w.heap.size w w' ∧ cs.length = 5 ∧ (∀ u ∈ cs, u.oneCell' = true) ∧ (ok = true → ∃ t r, takeT zs = some (t, r) ∧ TmAt (List.range w.heap.size) w' t cs ∧ RowB w.heap.size w' v r) := by
 obtain ⟨h1, h2⟩ := h
 cases hn : takeT zs with
 | none =>
  rw [hn] at h2
  exact ⟨z5T, _, false, h2, h1, rfl, z5T_one, fun e => by cases e⟩
 | some y =>
  obtain ⟨t, r⟩ := y
  rw [hn] at h2
  obtain ⟨v, v', e1, ⟨cs, rfl, ht⟩, hr⟩ := h2
  exact ⟨cs, v', true, e1, h1, ht.len, ht.one, fun _ => ⟨t, r, rfl, ht, hr⟩⟩
theorem TkP.decl {zs : List Int} {w w' : World} {e : Ending} (h : TkP (declP zs) RDc (.agg zD.toArray) w e w') : ∃ (cs : List Value) (v : Value) (ok : Bool), e = .returned (.tuple #[.agg cs.toArray, v, .bool ok]) ∧ Below w.heap.size w w' ∧ cs.length = 15 ∧ (∀ u ∈ cs, u.oneCell' = true) ∧ (ok = true → ∃ d r, declP zs = some (d, r) ∧ DcAt (List.range w.heap.size) w' d cs ∧ RowB w.heap.size w' v r) := by
 obtain ⟨h1, h2⟩ := h
 cases hn : declP zs with
 | none =>
  rw [hn] at h2
  exact ⟨zD, _, false, h2, h1, rfl, zD_one, fun e => by cases e⟩
 | some y =>
  obtain ⟨d, r⟩ := y
  rw [hn] at h2
  obtain ⟨v, v', e1, ⟨cs, rfl, ht⟩, hr⟩ := h2
  exact ⟨cs, v', true, e1, h1, ht.len, ht.one, fun _ => ⟨d, r, rfl, ht, hr⟩⟩
theorem declV_yes {d : Dc} (hf : formB d = true) : declV d = declB d := by unfold declV; rw [if_pos hf]
set_option maxHeartbeats 8000000 in
theorem one10_main (b : Value) (zs : List Int) (w : World) (hb : ByteArg w b zs) : Calls Try.prog 5 #[b] w fun e w' => e = .returned (.bool true) ∧ Below w.heap.size w w' := by
 obtain ⟨hbi, hnil, hby⟩ := hb
 have IB : Hid (isB zs) := fun z hz => by have := hby z hz; omega
 obtain ⟨ba, bc, rfl, -⟩ := id hbi
 have BI := Lib.hid hbi
 have NI := Lib.hid hnil
 obtain ⟨N, hN⟩ : ∃ N, Hid (zs.length = N) := ⟨_, rfl⟩
 rw [hN.out] at BI NI ⊢
 clear hbi hnil hby
 have BE : Hid (Below w.heap.size w w) := Below.refl _ _
 go_enter Try.func5, Try.ntmps5
 go_upto_region 0 with (fail)
 refine lbeg (opsOf Try.f5 0) ?_
 refine lnow 0 (.bool false) (some 2) ?_
 refine ldn 1 ?_
 generalize hact : Act.put _ (some 2) _ = act
 simp only [Act.put, sA, sC, sZ] at hact
 subst hact
 go_upto_region 1 with (fail)
 refine lbeg (opsOf Try.f5 1) ?_
 refine lcal 0 7 #[] (some 18) _ (alive10_walk w) ?_
 rintro e w1 ⟨rfl, hb⟩
 refine ⟨_, rfl, ?_⟩
 have BI := Lib.hid (BI.out.below hb (Nat.le_refl _))
 have BE := Lib.hid (BE.out.trans (hb.mono BE.out.size))
 clear hb
 refine lnow 1 (.bool false) (some 19) ?_
 refine ldn 2 ?_
 generalize hact : Act.put _ (some 19) _ = act
 simp only [Act.put, sA, sC, sZ] at hact
 subst hact
 go_upto_region 3 with (fail)
 refine lbeg (opsOf Try.f5 3) ?_
 refine lnow 0 (.slice ba N bc) (some 20) ?_
 refine lnow 1 (.int .i64 (N : Int)) (some 21) ?_
 refine lnow 2 (.bool (decide (6000 < (N : Int)))) (some 22) ?_
 by_cases h6 : N ≤ 6000
 rotate_left
 ·skip
  rw [decide_eq_true (show (6000 : Int) < (N : Int) by omega)]
  refine ldn 3 ?_
  generalize hact : Act.put _ (some 22) _ = act
  simp only [Act.put, sA, sC, sZ] at hact
  subst hact
  go_upto_region 4 with (fail)
  refine lbeg (opsOf Try.f5 4) ?_
  refine lnow 0 (.bool true) (some 2) ?_
  refine ldn 1 ?_
  generalize hact : Act.put _ (some 2) _ = act
  simp only [Act.put, sA, sC, sZ] at hact
  subst hact
  go_wp2
  go_ret
  exact ⟨rfl, BE.out⟩
 rw [decide_eq_false (show ¬ (6000 : Int) < (N : Int) by omega)]
 have N6 : Hid (zs.length ≤ 6000) := by rw [Hid, hN.out]; exact h6
 clear h6
 refine ldn 3 ?_
 generalize hact : Act.put _ (some 22) _ = act
 simp only [Act.put, sA, sC, sZ] at hact
 subst hact
 go_upto_region 5 with (fail)
 refine lbeg (opsOf Try.f5 5) ?_
 refine lnow 0 (.slice ba N bc) (some 23) ?_
 refine lcal 1 24 #[.slice ba N bc] (some 24) _ (copyb_walk _ zs w1 BI.out NI.out (by have := N6.out; omega)) ?_
 rintro e w2 ⟨own, rfl, ho, hb⟩
 refine ⟨_, rfl, ?_⟩
 have BI := Lib.hid (BI.out.below hb (Nat.le_refl _))
 have BE := Lib.hid (BE.out.trans (hb.mono BE.out.size))
 clear hb
 have OW : Hid (RowB w1.heap.size w2 own zs) := ho
 clear ho
 refine lnow 2 (own) (some 3) ?_
 refine ldn 3 ?_
 generalize hact : Act.put _ (some 3) _ = act
 simp only [Act.put, sA, sC, sZ] at hact
 subst hact
 go_upto_region 6 with (fail)
 refine lbeg (opsOf Try.f5 6) ?_
 refine lnow 0 (own) (some 26) ?_
 refine lcal 1 23 #[own] (some 27) _ (TakeNum_walk own zs w2 OW.out.in IB.out (by have := N6.out; omega)) ?_
 intro e w3 hk
 obtain ⟨n, v5, ok, rfl, hb, hyes⟩ := hk.num
 refine ⟨_, rfl, ?_⟩
 have NY := Lib.hid hyes
 clear hk hyes
 have BI := Lib.hid (BI.out.below hb (Nat.le_refl _))
 have OW := Lib.hid (OW.out.below hb)
 have BE := Lib.hid (BE.out.trans (hb.mono BE.out.size))
 clear hb
 refine lnow 2 (.tuple #[.int .i64 n, v5, .bool ok]) (some 25) ?_
 refine lnow 3 (.int .i64 n) (some 28) ?_
 refine lnow 4 (v5) (some 29) ?_
 refine lnow 5 (.bool ok) (some 30) ?_
 refine lnow 6 (.int .i64 n) (some 4) ?_
 refine lnow 7 (v5) (some 5) ?_
 refine lnow 8 (.bool ok) (some 6) ?_
 refine ldn 9 ?_
 generalize hact : Act.put _ (some 6) _ = act
 simp only [Act.put, sA, sC, sZ] at hact
 subst hact
 go_upto_region 7 with (fail)
 refine lbeg (opsOf Try.f5 7) ?_
 refine lnow 0 (.bool ok) (some 31) ?_
 refine ldn 1 ?_
 generalize hact : Act.put _ (some 31) _ = act
 simp only [Act.put, sA, sC, sZ] at hact
 subst hact
 go_upto_if 31 with (fail)
 go_cut [7, 8] from 18 (fun s7 s8 wc => Hid (Below w3.heap.size w3 wc))
 case first =>
  cases ok
  ·skip
   have RF : Hid (Below w3.heap.size w3 w3) := Below.refl _ _
   go_wp2
   go_meet
   case rel => exact RF
  obtain ⟨r, hP, hr⟩ := NY.out rfl
  have RR0 := Lib.hid hr
  obtain ⟨⟨hn0, hn1⟩, hE⟩ := numP_sound IB.out hP
  have OKN : numOk n = true := numOk_yes (by omega) (by omega)
  have EQ : Hid (zs = numV n ++ r) := by rw [Hid, numV, if_pos OKN]; exact hE
  clear hr hP hn0 hn1 hE NY
  go_upto_region 8 with (fail)
  refine lbeg (opsOf Try.f5 8) ?_
  refine lnow 0 (.int .i64 n) (some 33) ?_
  have CALL := rNum_walk n w3
  rw [OKN] at CALL
  refine lcal 1 11 #[.int .i64 n] (some 34) _ (CALL) ?_
  rintro e u1 ⟨va, rfl, hr, hb1⟩
  refine ⟨_, rfl, ?_⟩
  have R7 := Lib.hid hr
  have RR := Lib.hid (RR0.out.below hb1)
  have HZ : Hid (w3.heap.size ≤ u1.heap.size) := hb1.size
  have BB := Lib.hid hb1
  clear hr CALL hb1 OKN
  refine lnow 2 (.tuple #[va, .bool true]) (some 32) ?_
  refine lnow 3 (va) (some 35) ?_
  refine lnow 4 (.bool true) (some 36) ?_
  refine lnow 5 (va) (some 7) ?_
  refine lnow 6 (.bool true) (some 8) ?_
  refine ldn 7 ?_
  generalize hact : Act.put _ (some 8) _ = act
  simp only [Act.put, sA, sC, sZ] at hact
  subst hact
  go_upto_region 9 with (fail)
  refine lbeg (opsOf Try.f5 9) ?_
  refine lnow 0 (.bool true) (some 37) ?_
  refine lnow 1 (.bool false) (some 38) ?_
  refine lnow 2 (.bool false) (some 39) ?_
  refine lnow 3 (va) (some 40) ?_
  refine lnow 4 (v5) (some 41) ?_
  refine lin_app 5 (some 42) va v5 (numV n) r w3.heap.size R7.out RR.out.in RR.out.nilok (by have := congrArg List.length EQ.out; rw [List.length_append] at this; have := N6.out; omega) (by have := HZ.out; omega) (by kernel_rfl) (by kernel_rfl) (by kernel_rfl) ?_
  intro v7 u2 r7 s7
  rw [← EQ.out] at r7
  have hb2 : Below w3.heap.size w3 u2 := (BB.out.trans (s7.below_of (fun k hk => (ownL_row R7.out k hk).1) HZ.out))
  have BI2 := BI.out.below hb2 (Nat.le_refl _)
  refine lnow 6 (.slice ba N bc) (some 43) ?_
  refine lcal 7 16 #[v7, .slice ba N bc] (some 44) _ (rows_same r7 BI2 (by have := N6.out; omega)) ?_
  rintro e u3 ⟨rfl, hb3⟩
  refine ⟨_, rfl, ?_⟩
  have RF : Hid (Below w3.heap.size w3 u3) := hb2.trans (hb3.mono hb2.size)
  refine lnow 8 (.bool false) (some 45) ?_
  refine lnow 9 (.bool false) (some 46) ?_
  refine ldn 10 ?_
  generalize hact : Act.put _ (some 46) _ = act
  simp only [Act.put, sA, sC, sZ] at hact
  subst hact
  clear r7 s7 hb2 BI2 hb3
  go_wp2
  go_meet
  case rel => exact RF
 have hb := hcut.out
 clear NY hcut
 have BI := Lib.hid (BI.out.below hb (Nat.le_refl _))
 have OW := Lib.hid (OW.out.below hb)
 have BE := Lib.hid (BE.out.trans (hb.mono BE.out.size))
 clear hb
 obtain ⟨wn, hwn⟩ : ∃ y, y = wc := ⟨_, rfl⟩
 rw [← hwn] at BI OW BE ⊢
 clear hwn
 go_upto_region 11 with (fail)
 refine lbeg (opsOf Try.f5 11) ?_
 refine lnow 0 (own) (some 48) ?_
 refine lcal 1 25 #[own] (some 49) _ (TakeTerm_walk own zs wn OW.out.in IB.out (by have := N6.out; omega)) ?_
 intro e w4 hk
 obtain ⟨ts, v5b, ok, rfl, hb, T5, TONE, hyes⟩ := hk.term
 refine ⟨_, rfl, ?_⟩
 have TY := Lib.hid hyes
 have T5h := Lib.hid T5
 clear hk hyes
 have BI := Lib.hid (BI.out.below hb (Nat.le_refl _))
 have OW := Lib.hid (OW.out.below hb)
 have BE := Lib.hid (BE.out.trans (hb.mono BE.out.size))
 clear hb
 refine lnow 2 (.tuple #[.agg ts.toArray, v5b, .bool ok]) (some 47) ?_
 refine lnow 3 (.agg ts.toArray) (some 50) ?_
 refine lnow 4 (v5b) (some 51) ?_
 refine lnow 5 (.bool ok) (some 52) ?_
 obtain ⟨z, hz⟩ : ∃ z, Hid (w4.heap.size = z) := ⟨_, rfl⟩
 refine lall 6 25 z5T (z) (some 9) hz ?_
 intro w5 bw5 bew5 hsw5
 refine lput 7 25 (.tmp 9) (.tmp 50) (z) _ (z5T) (ts) bw5 (T5.trans (rfl : z5T.length = 5).symm) (t5Size T5) (by simpa using TONE) ?_
 intro w6 bw6 uw6
 refine lnow 8 (v5b) (some 5) ?_
 refine lnow 9 (.bool ok) (some 6) ?_
 refine ldn 10 ?_
 generalize hact : Act.put _ (some 6) _ = act
 simp only [Act.put, sA, sC, sZ] at hact
 subst hact
 have hb : Below w4.heap.size w4 w6 := by rw [hz.out]; exact uw6.below bew5 (Nat.le_refl _) (by have := hsw5.out; omega)
 have BZ := Lib.hid bw6
 have TY : Hid (ok = true → ∃ t r, takeT zs = some (t, r) ∧ TmAt [] w6 t ts ∧ RowB wn.heap.size w6 v5b r) := fun e => by obtain ⟨t, r, h1, h2, h3⟩ := TY.out e; exact ⟨t, r, h1, TmAt.subx (h2.below hb) (fun k hk => by cases hk), h3.below hb⟩
 clear bw5 bew5 hsw5 bw6 uw6 T5 TONE hz
 have BI := Lib.hid (BI.out.below hb (Nat.le_refl _))
 have OW := Lib.hid (OW.out.below hb)
 have BE := Lib.hid (BE.out.trans (hb.mono BE.out.size))
 clear hb
 go_upto_region 12 with (fail)
 refine lbeg (opsOf Try.f5 12) ?_
 refine lnow 0 (.bool ok) (some 53) ?_
 refine ldn 1 ?_
 generalize hact : Act.put _ (some 53) _ = act
 simp only [Act.put, sA, sC, sZ] at hact
 subst hact
 go_upto_if 53 with (fail)
 go_cut [10, 11] from 18 (fun s7 s8 wc => Hid (Below w6.heap.size w6 wc))
 case first =>
  cases ok
  ·skip
   have RF : Hid (Below w6.heap.size w6 w6) := Below.refl _ _
   go_wp2
   go_meet
   case rel => exact RF
  obtain ⟨x, r, hP, hx, hr⟩ := TY.out rfl
  have RR0 := Lib.hid hr
  have TX := Lib.hid hx
  obtain ⟨hE, OKN, GD⟩ := takeT_sound IB.out (by have := N6.out; omega) hP
  have EQ : Hid (zs = termV x ++ r) := by rw [Hid, termV, if_pos OKN]; exact hE
  clear hr hP hE TY hx
  go_upto_region 13 with (fail)
  refine lbeg (opsOf Try.f5 13) ?_
  refine lrl 0 (ts) (some 55) 25 9 (z) 0 (BZ.out).whole Try.underlying25 (t5Size T5h.out) ?_
  have CALL := rTerm_walk x ts w6 TX.out GD.1
  rw [OKN] at CALL
  refine lcal 1 13 #[.agg ts.toArray] (some 56) _ (CALL) ?_
  rintro e u1 ⟨va, rfl, hr, hb1⟩
  refine ⟨_, rfl, ?_⟩
  have R7 := Lib.hid hr
  have RR := Lib.hid (RR0.out.below hb1)
  have HZ : Hid (w6.heap.size ≤ u1.heap.size) := hb1.size
  have BB := Lib.hid hb1
  clear hr CALL hb1 OKN
  refine lnow 2 (.tuple #[va, .bool true]) (some 54) ?_
  refine lnow 3 (va) (some 57) ?_
  refine lnow 4 (.bool true) (some 58) ?_
  refine lnow 5 (va) (some 10) ?_
  refine lnow 6 (.bool true) (some 11) ?_
  refine ldn 7 ?_
  generalize hact : Act.put _ (some 11) _ = act
  simp only [Act.put, sA, sC, sZ] at hact
  subst hact
  go_upto_region 14 with (fail)
  refine lbeg (opsOf Try.f5 14) ?_
  refine lnow 0 (.bool true) (some 59) ?_
  refine lnow 1 (.bool false) (some 60) ?_
  refine lnow 2 (.bool false) (some 61) ?_
  refine lnow 3 (va) (some 62) ?_
  refine lnow 4 (v5b) (some 63) ?_
  refine lin_app 5 (some 64) va v5b (termV x) r w6.heap.size R7.out RR.out.in RR.out.nilok (by have := congrArg List.length EQ.out; rw [List.length_append] at this; have := N6.out; omega) (by have := HZ.out; omega) (by kernel_rfl) (by kernel_rfl) (by kernel_rfl) ?_
  intro v7 u2 r7 s7
  rw [← EQ.out] at r7
  have hb2 : Below w6.heap.size w6 u2 := (BB.out.trans (s7.below_of (fun k hk => (ownL_row R7.out k hk).1) HZ.out))
  have BI2 := BI.out.below hb2 (Nat.le_refl _)
  refine lnow 6 (.slice ba N bc) (some 65) ?_
  refine lcal 7 16 #[v7, .slice ba N bc] (some 66) _ (rows_same r7 BI2 (by have := N6.out; omega)) ?_
  rintro e u3 ⟨rfl, hb3⟩
  refine ⟨_, rfl, ?_⟩
  have RF : Hid (Below w6.heap.size w6 u3) := hb2.trans (hb3.mono hb2.size)
  refine lnow 8 (.bool false) (some 67) ?_
  refine lnow 9 (.bool false) (some 68) ?_
  refine ldn 10 ?_
  generalize hact : Act.put _ (some 68) _ = act
  simp only [Act.put, sA, sC, sZ] at hact
  subst hact
  clear r7 s7 hb2 BI2 hb3
  go_wp2
  go_meet
  case rel => exact RF
 have hb := hcut.out
 clear TY hcut BZ T5h
 have BI := Lib.hid (BI.out.below hb (Nat.le_refl _))
 have OW := Lib.hid (OW.out.below hb)
 have BE := Lib.hid (BE.out.trans (hb.mono BE.out.size))
 clear hb
 obtain ⟨wm, hwm⟩ : ∃ y, y = wc := ⟨_, rfl⟩
 rw [← hwm] at BI OW BE ⊢
 clear hwm
 go_upto_region 16 with (fail)
 refine lbeg (opsOf Try.f5 16) ?_
 refine lnow 0 (own) (some 70) ?_
 refine lcal 1 27 #[own] (some 71) _ (TakeDecl_walk own zs wm OW.out.in IB.out (by have := N6.out; omega)) ?_
 intro e w7 hk
 obtain ⟨ds, v5c, ok, rfl, hb, T5, TONE, hyes⟩ := hk.decl
 refine ⟨_, rfl, ?_⟩
 have TY := Lib.hid hyes
 have T5h := Lib.hid T5
 clear hk hyes
 have BI := Lib.hid (BI.out.below hb (Nat.le_refl _))
 have OW := Lib.hid (OW.out.below hb)
 have BE := Lib.hid (BE.out.trans (hb.mono BE.out.size))
 clear hb
 refine lnow 2 (.tuple #[.agg ds.toArray, v5c, .bool ok]) (some 69) ?_
 refine lnow 3 (.agg ds.toArray) (some 72) ?_
 refine lnow 4 (v5c) (some 73) ?_
 refine lnow 5 (.bool ok) (some 74) ?_
 obtain ⟨y, hy⟩ : ∃ z, Hid (w7.heap.size = z) := ⟨_, rfl⟩
 refine lin_alloc 6 38 zD y (some 12) (by kernel_rfl) (by kernel_rfl) (by kernel_rfl) zeroDc hy ?_
 intro w8 b8 be8 hs8
 refine lput 7 38 (.tmp 12) (.tmp 72) y _ zD ds b8 (T5.trans (rfl : 15 = zD.length)) (dcSize T5) (by simpa using TONE) ?_
 intro w9 b9 u9
 refine lnow 8 (v5c) (some 5) ?_
 refine lnow 9 (.bool ok) (some 6) ?_
 refine ldn 10 ?_
 generalize hact : Act.put _ (some 6) _ = act
 simp only [Act.put, sA, sC, sZ] at hact
 subst hact
 have hb : Below w7.heap.size w7 w9 := by rw [hy.out]; exact u9.below be8 (Nat.le_refl _) (by have := hs8.out; omega)
 have BZ := Lib.hid b9
 have TY : Hid (ok = true → ∃ d r, declP zs = some (d, r) ∧ DcAt [] w9 d ds ∧ RowB wm.heap.size w9 v5c r) := fun e => by obtain ⟨t, r, h1, h2, h3⟩ := TY.out e; exact ⟨t, r, h1, (h2.below hb).sub (fun k hk => by cases hk), h3.below hb⟩
 clear b8 be8 hs8 b9 u9 T5 TONE hy
 have BI := Lib.hid (BI.out.below hb (Nat.le_refl _))
 have OW := Lib.hid (OW.out.below hb)
 have BE := Lib.hid (BE.out.trans (hb.mono BE.out.size))
 clear hb
 go_upto_region 17 with (fail)
 refine lbeg (opsOf Try.f5 17) ?_
 refine lnow 0 (.bool ok) (some 75) ?_
 refine ldn 1 ?_
 generalize hact : Act.put _ (some 75) _ = act
 simp only [Act.put, sA, sC, sZ] at hact
 subst hact
 go_upto_if 75 with (fail)
 go_cut [13, 14] from 18 (fun s7 s8 wc => Hid (Below w9.heap.size w9 wc))
 case first =>
  cases ok
  ·skip
   have RF : Hid (Below w9.heap.size w9 w9) := Below.refl _ _
   go_wp2
   go_meet
   case rel => exact RF
  obtain ⟨x, r, hP, hx, hr⟩ := TY.out rfl
  have RR0 := Lib.hid hr
  have TX := Lib.hid hx
  obtain ⟨hE, OKN, RD⟩ := declP_sound IB.out hP
  have GD := decl_good RD OKN
  have EQ : Hid (zs = declV x ++ r) := by rw [Hid, declV_yes OKN]; exact hE
  clear hr hP hE TY hx RD
  go_upto_region 18 with (fail)
  refine lbeg (opsOf Try.f5 18) ?_
  refine lrl 0 ds (some 77) 38 12 y 0 BZ.out.whole Try.underlying38 (dcSize T5h.out) ?_
  have CALL := rDecl_walk x ds w9 TX.out GD.sm
  rw [OKN] at CALL
  refine lcal 1 19 #[.agg ds.toArray] (some 78) _ (CALL) ?_
  rintro e u1 ⟨va, rfl, hr, hb1⟩
  refine ⟨_, rfl, ?_⟩
  have R7 := Lib.hid hr
  have RR := Lib.hid (RR0.out.below hb1)
  have HZ : Hid (w9.heap.size ≤ u1.heap.size) := hb1.size
  have BB := Lib.hid hb1
  clear hr CALL hb1 OKN
  refine lnow 2 (.tuple #[va, .bool true]) (some 76) ?_
  refine lnow 3 (va) (some 79) ?_
  refine lnow 4 (.bool true) (some 80) ?_
  refine lnow 5 (va) (some 13) ?_
  refine lnow 6 (.bool true) (some 14) ?_
  refine ldn 7 ?_
  generalize hact : Act.put _ (some 14) _ = act
  simp only [Act.put, sA, sC, sZ] at hact
  subst hact
  go_upto_region 19 with (fail)
  refine lbeg (opsOf Try.f5 19) ?_
  refine lnow 0 (.bool true) (some 81) ?_
  refine lnow 1 (.bool false) (some 82) ?_
  refine lnow 2 (.bool false) (some 83) ?_
  refine lnow 3 (va) (some 84) ?_
  refine lnow 4 (v5c) (some 85) ?_
  refine lin_app 5 (some 86) va v5c (declV x) r w9.heap.size R7.out RR.out.in RR.out.nilok (by have := congrArg List.length EQ.out; rw [List.length_append] at this; have := N6.out; omega) (by have := HZ.out; omega) (by kernel_rfl) (by kernel_rfl) (by kernel_rfl) ?_
  intro v7 u2 r7 s7
  rw [← EQ.out] at r7
  have hb2 : Below w9.heap.size w9 u2 := (BB.out.trans (s7.below_of (fun k hk => (ownL_row R7.out k hk).1) HZ.out))
  have BI2 := BI.out.below hb2 (Nat.le_refl _)
  refine lnow 6 (.slice ba N bc) (some 87) ?_
  refine lcal 7 16 #[v7, .slice ba N bc] (some 88) _ (rows_same r7 BI2 (by have := N6.out; omega)) ?_
  rintro e u3 ⟨rfl, hb3⟩
  refine ⟨_, rfl, ?_⟩
  have RF : Hid (Below w9.heap.size w9 u3) := hb2.trans (hb3.mono hb2.size)
  refine lnow 8 (.bool false) (some 89) ?_
  refine lnow 9 (.bool false) (some 90) ?_
  refine ldn 10 ?_
  generalize hact : Act.put _ (some 90) _ = act
  simp only [Act.put, sA, sC, sZ] at hact
  subst hact
  clear r7 s7 hb2 BI2 hb3
  go_wp2
  go_meet
  case rel => exact RF
 have hb := hcut.out
 clear TY hcut BZ T5h
 have BI := Lib.hid (BI.out.below hb (Nat.le_refl _))
 have OW := Lib.hid (OW.out.below hb)
 have BE := Lib.hid (BE.out.trans (hb.mono BE.out.size))
 clear hb
 obtain ⟨wl, hwl⟩ : ∃ y, y = wc := ⟨_, rfl⟩
 rw [← hwl] at BI OW BE ⊢
 clear hwl
 go_upto_region 21 with (fail)
 refine lbeg (opsOf Try.f5 21) ?_
 refine lnow 0 (own) (some 92) ?_
 have CALL := TakeLib_walk own zs wl OW.out.in IB.out (by have := N6.out; omega)
 obtain ⟨oo, hoo⟩ : ∃ oo, libP zs = oo := ⟨_, rfl⟩
 rw [hoo] at CALL
 cases oo with
 | none =>
  refine lcal 1 28 #[own] (some 93) _ (CALL) ?_
  rintro e w10 ⟨hb, rfl⟩
  refine ⟨_, rfl, ?_⟩
  have BI := Lib.hid (BI.out.below hb (Nat.le_refl _))
  have OW := Lib.hid (OW.out.below hb)
  have BE := Lib.hid (BE.out.trans (hb.mono BE.out.size))
  clear hb
  refine lnow 2 (.tuple #[.slice none 0 0, .bool false]) (some 91) ?_
  refine lnow 3 (.slice none 0 0) (some 94) ?_
  refine lnow 4 (.bool false) (some 95) ?_
  refine lnow 5 (.slice none 0 0) (some 15) ?_
  refine lnow 6 (.bool false) (some 6) ?_
  refine ldn 7 ?_
  generalize hact : Act.put _ (some 6) _ = act
  simp only [Act.put, sA, sC, sZ] at hact
  subst hact
  go_upto_region 22 with (fail)
  refine lbeg (opsOf Try.f5 22) ?_
  refine lnow 0 (own) (some 96) ?_
  refine lnow 1 (.slice ba N bc) (some 97) ?_
  refine lcal 2 16 #[own, .slice ba N bc] (some 98) _ (rows_same OW.out BI.out (by have := N6.out; omega)) ?_
  rintro e w11 ⟨rfl, hb⟩
  refine ⟨_, rfl, ?_⟩
  have BI := Lib.hid (BI.out.below hb (Nat.le_refl _))
  have OW := Lib.hid (OW.out.below hb)
  have BE := Lib.hid (BE.out.trans (hb.mono BE.out.size))
  clear hb
  refine lnow 3 (.bool false) (some 99) ?_
  refine ldn 4 ?_
  generalize hact : Act.put _ (some 99) _ = act
  simp only [Act.put, sA, sC, sZ] at hact
  subst hact
  go_upto_region 24 with (fail)
  refine lbeg (opsOf Try.f5 24) ?_
  refine lnow 0 (.bool false) (some 100) ?_
  refine lnow 1 (.bool true) (some 101) ?_
  refine ldn 2 ?_
  generalize hact : Act.put _ (some 101) _ = act
  simp only [Act.put, sA, sC, sZ] at hact
  subst hact
  go_upto_region 25 with (fail)
  refine lbeg (opsOf Try.f5 25) ?_
  refine lnow 0 (.slice none 0 0) (some 102) ?_
  refine lnow 1 (.int .i64 0) (some 103) ?_
  refine lnow 2 (.bool true) (some 104) ?_
  refine lnow 3 (.bool true) (some 2) ?_
  refine ldn 4 ?_
  generalize hact : Act.put _ (some 2) _ = act
  simp only [Act.put, sA, sC, sZ] at hact
  subst hact
  go_wp2
  go_ret
  exact ⟨rfl, BE.out⟩
 | some es =>
  refine lcal 1 28 #[own] (some 93) _ (CALL) ?_
  rintro e w10 ⟨hb, v15, rfl, hds⟩
  refine ⟨_, rfl, ?_⟩
  have DL := Lib.hid hds
  clear hds CALL
  have BI := Lib.hid (BI.out.below hb (Nat.le_refl _))
  have OW := Lib.hid (OW.out.below hb)
  have BE := Lib.hid (BE.out.trans (hb.mono BE.out.size))
  clear hb
  refine lnow 2 (.tuple #[v15, .bool true]) (some 91) ?_
  refine lnow 3 (v15) (some 94) ?_
  refine lnow 4 (.bool true) (some 95) ?_
  refine lnow 5 (v15) (some 15) ?_
  refine lnow 6 (.bool true) (some 6) ?_
  refine ldn 7 ?_
  generalize hact : Act.put _ (some 6) _ = act
  simp only [Act.put, sA, sC, sZ] at hact
  subst hact
  go_upto_region 22 with (fail)
  refine lbeg (opsOf Try.f5 22) ?_
  refine lnow 0 (own) (some 96) ?_
  refine lnow 1 (.slice ba N bc) (some 97) ?_
  refine lcal 2 16 #[own, .slice ba N bc] (some 98) _ (rows_same OW.out BI.out (by have := N6.out; omega)) ?_
  rintro e w11 ⟨rfl, hb⟩
  refine ⟨_, rfl, ?_⟩
  have BI := Lib.hid (BI.out.below hb (Nat.le_refl _))
  have OW := Lib.hid (OW.out.below hb)
  have DL := Lib.hid (DL.out.below hb)
  have BE := Lib.hid (BE.out.trans (hb.mono BE.out.size))
  clear hb
  refine lnow 3 (.bool false) (some 99) ?_
  refine ldn 4 ?_
  generalize hact : Act.put _ (some 99) _ = act
  simp only [Act.put, sA, sC, sZ] at hact
  subst hact
  go_upto_region 24 with (fail)
  refine lbeg (opsOf Try.f5 24) ?_
  refine lnow 0 (.bool true) (some 100) ?_
  refine lnow 1 (.bool false) (some 101) ?_
  refine ldn 2 ?_
  generalize hact : Act.put _ (some 101) _ = act
  simp only [Act.put, sA, sC, sZ] at hact
  subst hact
  obtain ⟨hE, OKL, RDL⟩ := libP_sound IB.out hoo
  have EQ : Hid (libV es = zs) := by rw [Hid, libV, if_pos OKL]; exact hE.symm
  have LE : es.length ≤ 64 ∧ ∀ d ∈ es, formB d = true := by have h := OKL; unfold libOk at h; simp only [Bool.and_eq_true, decide_eq_true_eq, List.all_eq_true] at h; exact h
  have CALL := rLibrary_walk es v15 w11 DL.out (fun d hd => (decl_good (RDL d hd) (LE.2 d hd)).sm) (by omega)
  rw [OKL, EQ.out] at CALL
  clear hE OKL RDL LE hoo
  go_upto_region 26 with (fail)
  refine lbeg (opsOf Try.f5 26) ?_
  refine lnow 0 (v15) (some 106) ?_
  refine lcal 1 15 #[v15] (some 107) _ (CALL) ?_
  rintro e w12 ⟨v16, rfl, hr, hb⟩
  refine ⟨_, rfl, ?_⟩
  have R16 := Lib.hid hr
  clear hr CALL
  have BI := Lib.hid (BI.out.below hb (Nat.le_refl _))
  have OW := Lib.hid (OW.out.below hb)
  have DL := Lib.hid (DL.out.below hb)
  have BE := Lib.hid (BE.out.trans (hb.mono BE.out.size))
  clear hb
  refine lnow 2 (.tuple #[v16, .bool true]) (some 105) ?_
  refine lnow 3 (v16) (some 108) ?_
  refine lnow 4 (.bool true) (some 109) ?_
  refine lnow 5 (v16) (some 16) ?_
  refine lnow 6 (.bool true) (some 17) ?_
  refine ldn 7 ?_
  generalize hact : Act.put _ (some 17) _ = act
  simp only [Act.put, sA, sC, sZ] at hact
  subst hact
  go_upto_region 27 with (fail)
  refine lbeg (opsOf Try.f5 27) ?_
  refine lnow 0 (.bool true) (some 110) ?_
  refine lnow 1 (.bool true) (some 111) ?_
  refine lnow 2 (v16) (some 112) ?_
  refine lnow 3 (.slice ba N bc) (some 113) ?_
  refine lcal 4 16 #[v16, .slice ba N bc] (some 114) _ (rows_same R16.out BI.out (by have := N6.out; omega)) ?_
  rintro e w13 ⟨rfl, hb⟩
  refine ⟨_, rfl, ?_⟩
  have BI := Lib.hid (BI.out.below hb (Nat.le_refl _))
  have OW := Lib.hid (OW.out.below hb)
  have DL := Lib.hid (DL.out.below hb)
  have R16 := Lib.hid (R16.out.below hb)
  have BE := Lib.hid (BE.out.trans (hb.mono BE.out.size))
  clear hb
  refine lnow 5 (.bool true) (some 115) ?_
  refine lnow 6 (.bool true) (some 2) ?_
  refine ldn 7 ?_
  generalize hact : Act.put _ (some 2) _ = act
  simp only [Act.put, sA, sC, sZ] at hact
  subst hact
  go_wp2
  go_ret
  exact ⟨rfl, BE.out⟩
end Go.Proofs.Yteohjbggicchgaa
