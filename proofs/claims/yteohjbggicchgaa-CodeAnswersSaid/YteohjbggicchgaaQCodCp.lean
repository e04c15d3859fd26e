/- CopyDecl. -/
import Derived.Test.YteohjbggicchgaaQGenT
import Derived.Test.YteohjbggicchgaaQCodSa
namespace Go.Proofs.Yteohjbggicchgaa
open Go Go.RowKit
set_option maxRecDepth 100000
section
variable {P : Program} {ops : Array Oper} {Q : Exit → Act → World → Prop}
theorem reg_castC {S : World → Prop} {fuel : Nat} {l l' : Array Bool} {a a' : Act} {w : World} (hl : l' = l) (ha : a' = a) (h : wpAnyH P .any ops Q S fuel l' a' w) : wpAnyH P .any ops Q S fuel l a w := by
 subst hl ha
 exact h
/-- A load beside a call and what is made of its result, twice. -/
theorem reg_lcvv {S : World → Prop} {fuel : Nat} {listed : Array Bool} {a : Act} {w : World} (K : World → Prop) (i j1 k1 k2 : Nat) (vi : Value) (di d1 e1 e2 : Tmp) (f1 : FuncId) (args1 : Array Value) (R1 : Ending → World → Prop) (hS : S w) (hSn : ∀ w1, K w1 → S w1)
    (hg : (ops[i]?.isSome && (opAt ops i).guard.isNone && ops[j1]?.isSome && (opAt ops j1).guard.isNone && ops[k1]?.isSome && (opAt ops k1).guard.isNone && ops[k2]?.isSome && (opAt ops k2).guard.isNone) = true) (hr : ((Region.ready .any ops (listed) == [i, j1]) && (Region.ready .any ops ((listed).setIfInBounds j1 true) == [i, k1]) && (Region.ready .any ops (((listed).setIfInBounds j1 true).setIfInBounds k1 true) == [i, k2]) && (Region.ready .any ops ((((listed).setIfInBounds j1 true).setIfInBounds k1 true).setIfInBounds k2 true) == [i]) && (Region.ready .any ops ((listed).setIfInBounds i true) == [j1]) && (Region.ready .any ops (((listed).setIfInBounds i true).setIfInBounds j1 true) == [k1]) && (Region.ready .any ops ((((listed).setIfInBounds i true).setIfInBounds j1 true).setIfInBounds k1 true) == [k2])) = true)
    (hdi : (opAt ops i).dst = some di) (hd1 : (opAt ops j1).dst = some d1) (he1 : (opAt ops k1).dst = some e1) (he2 : (opAt ops k2).dst = some e2)
    (nd : di ≠ d1 ∧ di ≠ e1 ∧ di ≠ e2) (ni : i ≠ j1 ∧ i ≠ k1 ∧ i ≠ k2)
    (h0 : (execOp (a).eval (opAt ops i)).run P w = .ok (.value vi) w) (h1 : ∀ v1 w1, K w1 → (execOp ((a).put (some d1) v1).eval (opAt ops i)).run P w1 = .ok (.value vi) w1) (h3 : ∀ v1 u1 w1, K w1 → (execOp (((a).put (some d1) v1).put (some e1) u1).eval (opAt ops i)).run P w1 = .ok (.value vi) w1) (h4 : ∀ v1 u1 u2 w1, K w1 → (execOp ((((a).put (some d1) v1).put (some e1) u1).put (some e2) u2).eval (opAt ops i)).run P w1 = .ok (.value vi) w1)
    (c10 : (execOp (a).eval (opAt ops j1)).run P w = .ok (.enter f1 args1) w) (c11 : (execOp ((a).put (some di) vi).eval (opAt ops j1)).run P w = .ok (.enter f1 args1) w)
    (hc1 : Calls P f1 args1 w R1)
    (h : ∀ e w1, R1 e w1 → K w1 ∧ ∃ v1, e = .returned v1 ∧ ∃ u1 u2 w3, K w3 ∧
      (execOp ((a).put (some d1) v1).eval (opAt ops k1)).run P w1 = .ok (.value u1) w1 ∧ (execOp (((a).put (some di) vi).put (some d1) v1).eval (opAt ops k1)).run P w1 = .ok (.value u1) w1 ∧ (execOp (((a).put (some d1) v1).put (some e1) u1).eval (opAt ops k2)).run P w1 = .ok (.value u2) w3 ∧ (execOp ((((a).put (some di) vi).put (some d1) v1).put (some e1) u1).eval (opAt ops k2)).run P w1 = .ok (.value u2) w3 ∧
      wpAnyH P .any ops Q S fuel (((((listed).setIfInBounds i true).setIfInBounds j1 true).setIfInBounds k1 true).setIfInBounds k2 true) (((((a).put (some di) vi).put (some d1) v1).put (some e1) u1).put (some e2) u2) w3) : wpAnyH P .any ops Q S (fuel + 4) listed a w := by
  simp only [Bool.and_eq_true, beq_iff_eq] at hg hr
  obtain ⟨⟨⟨⟨⟨⟨⟨gi, ni'⟩, g1⟩, n1⟩, g3⟩, n3⟩, g4⟩, n4⟩ := hg
  obtain ⟨⟨⟨⟨⟨⟨r0, r1⟩, r2⟩, r3⟩, s0⟩, s1⟩, s2⟩ := hr
  obtain ⟨q1, q3, q4⟩ := nd
  obtain ⟨m1, m3, m4⟩ := ni
  have Wi : ∀ y, Region.wanted (opAt ops i) y = true := fun y => by simp [Region.wanted, Option.isNone_iff_eq_none.1 ni']
  have W1 : ∀ y, Region.wanted (opAt ops j1) y = true := fun y => by simp [Region.wanted, Option.isNone_iff_eq_none.1 n1]
  have W3 : ∀ y, Region.wanted (opAt ops k1) y = true := fun y => by simp [Region.wanted, Option.isNone_iff_eq_none.1 n3]
  have W4 : ∀ y, Region.wanted (opAt ops k2) y = true := fun y => by simp [Region.wanted, Option.isNone_iff_eq_none.1 n4]
  have C1 : ∀ (b : Act) (v u : Value), (b.put (some d1) u).put (some di) v = (b.put (some di) v).put (some d1) u := fun b v u => Act.put_comm b u v (fun d h1 h2 => q1 (by cases h1; cases h2; rfl))
  have C2 : ∀ (b : Act) (v u : Value), (b.put (some e1) u).put (some di) v = (b.put (some di) v).put (some e1) u := fun b v u => Act.put_comm b u v (fun d h1 h2 => q3 (by cases h1; cases h2; rfl))
  have C3 : ∀ (b : Act) (v u : Value), (b.put (some e2) u).put (some di) v = (b.put (some di) v).put (some e2) u := fun b v u => Act.put_comm b u v (fun d h1 h2 => q4 (by cases h1; cases h2; rfl))
  have L1 : ∀ l : Array Bool, (l.setIfInBounds j1 true).setIfInBounds i true = (l.setIfInBounds i true).setIfInBounds j1 true := fun l => Array.setIfInBounds_comm _ _ (Ne.symm m1)
  have L2 : ∀ l : Array Bool, (l.setIfInBounds k1 true).setIfInBounds i true = (l.setIfInBounds i true).setIfInBounds k1 true := fun l => Array.setIfInBounds_comm _ _ (Ne.symm m3)
  have L3 : ∀ l : Array Bool, (l.setIfInBounds k2 true).setIfInBounds i true = (l.setIfInBounds i true).setIfInBounds k2 true := fun l => Array.setIfInBounds_comm _ _ (Ne.symm m4)
  refine wpAnyH_two r0 ?_ ?_
  · skip
    refine wpOp_value vi (get_opAt gi) (Wi _) (h0) ⟨hS, ?_⟩
    rw [hdi]
    refine wpAnyH_one s0 ?_
    refine wpOp_callE f1 args1 R1 (get_opAt g1) (W1 _) c11 hc1 (fun e w1 hR => ?_)
    obtain ⟨hk1, v1, rfl, u1, u2, w3, hk3, x10, x11, x20, x21, hf⟩ := h e w1 hR
    refine ⟨v1, rfl, hSn _ hk1, ?_⟩
    rw [hd1]
    refine wpAnyH_one s1 ?_
    refine wpOp_value u1 (get_opAt g3) (W3 _) x11 ⟨hSn _ hk1, ?_⟩
    rw [he1]
    refine wpAnyH_one s2 ?_
    refine wpOp_value u2 (get_opAt g4) (W4 _) x21 ⟨hSn _ hk3, ?_⟩
    rw [he2]
    exact hf
  · skip
    refine wpOp_callE f1 args1 R1 (get_opAt g1) (W1 _) c10 hc1 (fun e w1 hR => ?_)
    obtain ⟨hk1, v1, rfl, u1, u2, w3, hk3, x10, x11, x20, x21, hf⟩ := h e w1 hR
    refine ⟨v1, rfl, hSn _ hk1, ?_⟩
    rw [hd1]
    refine wpAnyH_two r1 ?_ ?_
    · skip
      refine wpOp_value vi (get_opAt gi) (Wi _) (h1 _ _ hk1) ⟨hSn _ hk1, ?_⟩
      rw [hdi, C1, L1]
      refine wpAnyH_one s1 ?_
      refine wpOp_value u1 (get_opAt g3) (W3 _) x11 ⟨hSn _ hk1, ?_⟩
      rw [he1]
      refine wpAnyH_one s2 ?_
      refine wpOp_value u2 (get_opAt g4) (W4 _) x21 ⟨hSn _ hk3, ?_⟩
      rw [he2]
      exact hf
    · skip
      refine wpOp_value u1 (get_opAt g3) (W3 _) x10 ⟨hSn _ hk1, ?_⟩
      rw [he1]
      refine wpAnyH_two r2 ?_ ?_
      · skip
        refine wpOp_value vi (get_opAt gi) (Wi _) (h3 _ _ _ hk1) ⟨hSn _ hk1, ?_⟩
        rw [hdi, C2, C1, L2, L1]
        refine wpAnyH_one s2 ?_
        refine wpOp_value u2 (get_opAt g4) (W4 _) x21 ⟨hSn _ hk3, ?_⟩
        rw [he2]
        exact hf
      · skip
        refine wpOp_value u2 (get_opAt g4) (W4 _) x20 ⟨hSn _ hk3, ?_⟩
        rw [he2]
        refine wpAnyH_one r3 ?_
        refine wpOp_value vi (get_opAt gi) (Wi _) (h4 _ _ _ _ hk3) ⟨hSn _ hk3, ?_⟩
        rw [hdi, C3, C2, C1, L3, L2, L1]
        exact hf
end
section
variable {ops : Array Oper} {Q : Exit → Act → World → Prop} {K : Act → World → Prop} {a : Act} {w : World}
theorem opD_alloc (i : Nat) (d : Option Tmp) (hi : (ops[i]?.isSome && Region.wanted (opAt ops i) (yielded ops a.tmps)) = true) (hd : (opAt ops i).dst = d) (ho : (opAt ops i).op = .alloc 38)
    (h : ∀ w' z, w.heap.size = z → Blk w' z 38 zD → Below w.heap.size w w' → K (a.put d (.pointer (some ⟨z, 0, none⟩))) w') : wpOp Try.prog ops Q i K a w := by
  simp only [Bool.and_eq_true] at hi
  subst hd
  exact wpOp_value _ (get_opAt hi.1) hi.2 (exec_alloc 38 ho (.agg zD.toArray) zeroDc) (h _ _ rfl (Blk.new w 38 zD) ((Below.refl _ _).alloc (Nat.le_refl _) _))
theorem opD_call (i : Nat) (f : FuncId) (args : Array Value) (d : Option Tmp) (R : Ending → World → Prop) (hi : (ops[i]?.isSome && Region.wanted (opAt ops i) (yielded ops a.tmps)) = true) (hd : (opAt ops i).dst = d)
    (hrun : (execOp a.eval (opAt ops i)).run Try.prog w = .ok (.enter f args) w) (hc : Calls Try.prog f args w R) (h : ∀ e w', R e w' → ∃ v, e = .returned v ∧ K (a.put d v) w') : wpOp Try.prog ops Q i K a w := by
  simp only [Bool.and_eq_true] at hi
  subst hd
  exact wpOp_callE f args R (get_opAt hi.1) hi.2 hrun hc h
end
/-- Where CopyDecl stands: what it copies, its result's block, its own. -/
structure CpS (q z : Nat) (F : List Nat) (w0 : World) (d : Dc) (cs : List Value) (zc tc vc : List Value) (cv : Value) (wr : World) : Prop where
 bq : Blk wr q 38 cs
 br : Blk wr (q + 1) 38 zD
 bz : Blk wr z 38 zc
 fm : DcForm { d with ctors := [] } zc tc vc cv
 ty : TmAt (F ++ ownL cv) wr d.ty tc
 va : TmAt (F ++ ownL cv) wr d.val vc
 be : Below q w0 wr
 qz : q + 1 < z
theorem CpS.below {q z : Nat} {F : List Nat} {w0 wr w' : World} {d : Dc} {cs zc tc vc : List Value} {cv : Value} (h : CpS q z F w0 d cs zc tc vc cv wr) (hb : Below wr.heap.size wr w') : CpS q z F w0 d cs zc tc vc cv w' :=
 ⟨h.bq.below hb h.bq.lt, h.br.below hb h.br.lt, h.bz.below hb h.bz.lt, h.fm, h.ty.below hb, h.va.below hb, h.be.trans (hb.mono (Nat.le_of_lt h.bq.lt)), h.qz⟩
def dCF (k p : Int) (s : List UInt8) (tc vc : List Value) (f : Int) : List Value := [.int .i64 k, .int .i64 p, strT s] ++ (tc ++ (vc ++ [.int .i64 f, .slice none 0 0]))
theorem run_build_dcg (k p : Int) (s0 : ByteArray) (k1 n1 : Int) (s1 : ByteArray) (a1 : Option Addr) (l1 c1 : Nat) (a2 : Option Addr) (l2 c2 : Nat) (k2 n2 : Int) (s2 : ByteArray) (a3 : Option Addr) (l3 c3 : Nat) (a4 : Option Addr) (l4 c4 : Nat) (f : Int) (w : World) : (Instr.build 38 #[(0, .int .i64 k), (1, .int .i64 p), (2, Value.string s0), (3, .agg [Value.int .i64 k1, .int .i64 n1, .string s1, .slice a1 l1 c1, .slice a2 l2 c2].toArray), (4, .agg [Value.int .i64 k2, .int .i64 n2, .string s2, .slice a3 l3 c3, .slice a4 l4 c4].toArray), (5, .int .i64 f)]).run Try.prog w = .ok (.agg (([.int .i64 k, .int .i64 p, .string s0] : List Value) ++ (([.int .i64 k1, .int .i64 n1, .string s1, .slice a1 l1 c1, .slice a2 l2 c2] : List Value) ++ (([.int .i64 k2, .int .i64 n2, .string s2, .slice a3 l3 c3, .slice a4 l4 c4] : List Value) ++ ([.int .i64 f, .slice none 0 0] : List Value)))).toArray) w := by kernel_rfl
theorem run_build_dcf {F G : List Nat} {w w2 : World} {t u : Tm} {xs ys : List Value} (h : TmAt F w t xs) (h2 : TmAt G w2 u ys) (k p : Int) (s : List UInt8) (f : Int) (w' : World) : (Instr.build 38 #[(0, .int .i64 k), (1, .int .i64 p), (2, strT s), (3, .agg xs.toArray), (4, .agg ys.toArray), (5, .int .i64 f)]).run Try.prog w' = .ok (.agg (dCF k p s xs ys f).toArray) w' := by
 obtain ⟨lv, av, rfl, g1, g2⟩ := h.open
 obtain ⟨lv2, av2, rfl, g3, g4⟩ := h2.open
 obtain ⟨a1, c1, rfl⟩ := g1.slice
 obtain ⟨a2, c2, rfl⟩ := g2.slice
 obtain ⟨a3, c3, rfl⟩ := g3.slice
 obtain ⟨a4, c4, rfl⟩ := g4.slice
 exact run_build_dcg _ _ _ _ _ _ _ _ _ _ _ _ _ _ _ _ _ _ _ _ _ _ _
def NewDc (d : Dc) (w : World) (e : Ending) (w' : World) : Prop := ∃ cs, e = .returned (.agg cs.toArray) ∧ DcAt (List.range w.heap.size) w' d cs ∧ Below w.heap.size w w'
set_option maxHeartbeats 8000000 in
theorem copydecl_walk {F : List Nat} (d : Dc) (cs : List Value) (w : World) (hd : DcAt F w d cs) (hs : SmD d) : Calls Try.prog 17 #[.agg cs.toArray] w (NewDc d w) := by
 obtain ⟨tc, vc, cv0, hform, hty, hval, hcts⟩ := id hd
 obtain ⟨ca, cc, rfl⟩ := hcts.slice
 have C15 := Lib.hid hd.len
 have ONE := Lib.hid hd.one
 have FM := Lib.hid hform
 have TY := Lib.hid hty
 have VA := Lib.hid hval
 have CT := Lib.hid hcts
 have SM := Lib.hid hs
 obtain ⟨q, hq⟩ : ∃ q, Hid (w.heap.size = q) := ⟨_, rfl⟩
 obtain ⟨N, hN⟩ : ∃ N, Hid (d.ctors.length = N) := ⟨_, rfl⟩
 rw [hN.out] at FM CT
 have NB : Hid (N * 96 ≤ 140737488351232) := by have := SM.out.num; have hr : reachBytes = 140737488351232 := rfl; rw [hN.out, hr] at this; exact this
 clear hd hform hty hval hcts hs
 go_enter Try.func17, Try.ntmps17
 go_upto_region 0 with (fail)
 refine lbeg (opsOf Try.f17 0) ?_
 refine lbox 0 38 (.tmp 0) cs q (some 1) hq ?_
 intro w1 b1 be1 hs1
 refine lin_alloc 1 38 zD (q + 1) (some 2) (by kernel_rfl) (by kernel_rfl) (by kernel_rfl) zeroDc hs1 ?_
 intro w2 b2 be2 hs2
 refine ldn 2 ?_
 generalize hact : Act.put _ (some 2) _ = act
 simp only [Act.put, sA, sC, sZ] at hact
 subst hact
 have BQ : Hid (Blk w2 q 38 cs) := b1.below be2 (Nat.lt_succ_self q)
 have BR := Lib.hid b2
 have BE : Hid (Below q w w2) := be1.trans (be2.mono (Nat.le_succ q))
 have TY := Lib.hid (TY.out.below (by rw [hq.out]; exact BE.out))
 have VA := Lib.hid (VA.out.below (by rw [hq.out]; exact BE.out))
 have S2 : Hid (w2.heap.size = q + 2) := hs2
 clear b1 be1 hs1 b2 be2 hs2
 go_upto_region 1 with (fail)
 refine region_begin (opsOf Try.f17 1) (fun W' => Below w2.heap.size w2 W') (by kernel_rfl) (by kernel_rfl) 17 (by kernel_rfl) ?_
 intro Q' hQN hN
 have FIN : ∀ (W : World) (z : Nat) (tc' vc' : List Value), Below w2.heap.size w2 W → Blk W z 38 zD → w2.heap.size ≤ z → TmAt (List.range (q + 2) ++ [z]) W d.ty tc' → TmAt (List.range (q + 2) ++ [z]) W d.val vc' → wpAnyH Try.prog .any (opsOf Try.f17 1) Q' (fun W' => Below w2.heap.size w2 W') 1 #[true, true, true, true, true, true, true, true, true, true, true, true, true, true, true, true, false] { tmps := #[.agg cs.toArray, .pointer (some ⟨q, 0, none⟩), .pointer (some ⟨q + 1, 0, none⟩), .pointer (some ⟨z, 0, none⟩), undef, .pointer (some ⟨q, 0, none⟩), .int .i64 d.kind, .pointer (some ⟨q, 1, none⟩), .int .i64 d.params, .pointer (some ⟨q, 2, none⟩), strT d.name, .pointer (some ⟨q, 3, none⟩), .agg tc.toArray, .agg tc'.toArray, .pointer (some ⟨q, 8, none⟩), .agg vc.toArray, .agg vc'.toArray, .pointer (some ⟨q, 13, none⟩), .int .i64 d.fixed, .agg (dCF d.kind d.params d.name tc' vc' d.fixed).toArray, undef, undef, undef, undef, undef, undef, undef, undef, undef, undef, undef, undef, undef, undef, undef, undef, undef, undef, undef, undef, undef, undef, undef, undef, undef, undef, undef], defers := [] } W := by
  intro W z tc' vc' HS hz hzs ht hv
  have T5 := Lib.hid ht.len
  obtain ⟨ZC, hZC⟩ : ∃ x, Hid (dCF d.kind d.params d.name tc' vc' d.fixed = x) := ⟨_, rfl⟩
  have FZ : Hid (DcForm { d with ctors := [] } ZC tc' vc' (.slice none 0 0)) := by rw [← hZC.out]; exact ⟨rfl, ht.len, hv.len⟩
  have ZONE : Hid (∀ u ∈ ZC, u.oneCell' = true) := (show DcAt (List.range (q + 2) ++ [z]) W { d with ctors := [] } ZC from ⟨tc', vc', _, FZ.out, ht, hv, CtsAt.nil _ _ _ _⟩).one
  rw [hZC.out]
  refine reg_putT 16 38 (.tmp 3) (.tmp 19) z 38 zD ZC (by kernel_rfl) (by kernel_rfl) (by kernel_rfl) (by kernel_rfl) (by kernel_rfl) hz (FZ.out.len.trans (rfl : 15 = zD.length)) (dcSize FZ.out.len) (by simpa using ZONE.out) ?_
  intro w5 b5 u5
  refine ⟨u5.below HS hzs HS.size, ?_⟩
  have s2 := S2.out
  have SU : Step (List.range (q + 2) ++ [z]) W (List.range (q + 2) ++ [z]) w5 := Step.of_upd u5 (by simp)
  have HB5 : Below w2.heap.size w2 w5 := u5.below HS hzs HS.size
  have CP : Hid (CpS q z (List.range (q + 2) ++ [z]) w d cs ZC tc' vc' (.slice none 0 0) w5) := ⟨BQ.out.below HB5 BQ.out.lt, BR.out.below HB5 BR.out.lt, b5, FZ.out, TmAt.sub (fun k hk => .inl (by simpa [ownL, Value.ownBlock] using hk)) _ _ (TmAt.step SU _ _ ht), TmAt.sub (fun k hk => .inl (by simpa [ownL, Value.ownBlock] using hk)) _ _ (TmAt.step SU _ _ hv), BE.out.trans (HB5.mono (by omega)), by omega⟩
  clear BQ BR BE TY VA HS b5 u5 SU HB5 hz hzs ht hv hZC FZ ZONE T5 S2 s2
  refine reg_done (by kernel_rfl) (hN _ _ ?_)
  generalize hact : Act.put _ none _ = act
  simp only [Act.put, sA, sC, sZ] at hact
  subst hact
  clear hQN hN
  go_upto_region 2 with (fail)
  refine lbeg (opsOf Try.f17 2) ?_
  refine lnow 0 (.int .i64 0) (some 4) ?_
  refine ldn 1 ?_
  generalize hact : Act.put _ (some 4) _ = act
  simp only [Act.put, sA, sC, sZ] at hact
  subst hact
  go_wp2
  go_loopw [4] (fun iv wr => ∃ (i : Nat) (cv : Value) (zc : List Value), i ≤ N ∧ iv = .int .i64 (i : Int) ∧ Hid (RowK (z + 1) wr cv (d.ctors.take i)) ∧ Hid (CpS q z (List.range (q + 2) ++ [z]) w d cs zc tc' vc' cv wr)) (fun iv _ => N - (intOf iv).toNat)
  case atStart => exact ⟨0, _, ZC, Nat.zero_le _, rfl, RowK.nil _ _, CP⟩
  case round =>
   clear CP
   obtain ⟨i, cv, zc, hi, rfl, RK, CP⟩ := hrel
   by_cases hlt : i < N
   rotate_left
   ·skip
    go_upto_region 3 with (fail)
    refine lbeg (opsOf Try.f17 3) ?_
    refine lnow 0 (.int .i64 (i : Int)) (some 20) ?_
    refine lnow 1 (.pointer (some ⟨q, 14, none⟩)) (some 21) ?_
    refine lcl 2 (.slice ca N cc) (some 22) 36 21 (q) 14 (FM.out.c CP.out.bq) Try.underlying36 ?_
    refine lnow 3 (.int .i64 (N : Int)) (some 23) ?_
    refine lnow 4 (.bool (decide ((i : Int) < (N : Int)))) (some 24) ?_
    rw [decide_eq_false (show ¬ (i : Int) < (N : Int) by omega)]
    refine ldn 5 ?_
    generalize hact : Act.put _ (some 24) _ = act
    simp only [Act.put, sA, sC, sZ] at hact
    subst hact
    have TA : d.ctors.take i = d.ctors := List.take_of_length_le (by have := hN.out; omega)
    rw [TA] at RK
    have qz := CP.out.qz
    have DA : Hid (DcAt (List.range (q + 2)) wr d zc) := ⟨tc', vc', cv, CP.out.fm.re rfl rfl rfl rfl, TmAt.sub (fun k hk => .inl (by simp at hk ⊢; omega)) _ _ CP.out.ty, TmAt.sub (fun k hk => .inl (by simp at hk ⊢; omega)) _ _ CP.out.va, RK.out.in.sub (fun k hk => .inl (List.mem_range.2 (by have := List.mem_range.1 hk; omega)))⟩
    have Z15 := Lib.hid DA.out.len
    have ZONE := Lib.hid DA.out.one
    clear TA RK
    go_upto_region 6 with (fail)
    refine lbeg (opsOf Try.f17 6) ?_
    refine lrl 0 zc (some 46) 38 3 z 0 CP.out.bz.whole Try.underlying38 (dcSize Z15.out) ?_
    refine lput 1 38 (.tmp 2) (.tmp 46) (q + 1) _ zD zc CP.out.br (Z15.out.trans (rfl : 15 = zD.length)) (dcSize Z15.out) (by simpa using ZONE.out) ?_
    intro w9 b9 u9
    refine ldn 2 ?_
    generalize hact : Act.put _ none _ = act
    simp only [Act.put, sA, sC, sZ] at hact
    subst hact
    have POST : Hid (NewDc d w (.returned (.agg zc.toArray)) w9) := ⟨zc, rfl, by rw [hq.out]; exact (DA.out.step (Step.of_upd u9 (List.mem_range.2 (by omega)))).sub (fun k hk => .inl (List.mem_range.2 (by have := List.mem_range.1 hk; omega))), by rw [hq.out]; exact u9.below CP.out.be (by omega) (Nat.le_of_lt CP.out.bq.lt)⟩
    have HB9 := Lib.hid b9
    clear b9 u9 CP DA
    go_wp2
    refine bodyPost_ret (v := .agg zc.toArray) ?_ rfl POST.out
    exact results_cell_row (g := q + 1) (t := 38) (cs := zc.toArray) (fr := (0, 0)) Try.results17 _ _ _ rfl HB9.out Try.underlying38 rfl (by rw [List.size_toArray]; exact dcSize Z15.out)
   go_upto_region 3 with (fail)
   refine lbeg (opsOf Try.f17 3) ?_
   refine lnow 0 (.int .i64 (i : Int)) (some 20) ?_
   refine lnow 1 (.pointer (some ⟨q, 14, none⟩)) (some 21) ?_
   refine lcl 2 (.slice ca N cc) (some 22) 36 21 (q) 14 (FM.out.c CP.out.bq) Try.underlying36 ?_
   refine lnow 3 (.int .i64 (N : Int)) (some 23) ?_
   refine lnow 4 (.bool (decide ((i : Int) < (N : Int)))) (some 24) ?_
   rw [decide_eq_true (show (i : Int) < (N : Int) by omega)]
   refine ldn 5 ?_
   generalize hact : Act.put _ (some 24) _ = act
   simp only [Act.put, sA, sC, sZ] at hact
   subst hact
   obtain ⟨x, pb, po, xs, hx, hxm, hca, -, hpb, hrx, htx⟩ := CT.out.get hN.out hlt
   have PQ : Hid (pb < z) := by have := hq.out; have := CP.out.qz; rw [Hid]; omega
   have X5 := Lib.hid htx.len
   have SX := Lib.hid (SM.out.ctors x hxm)
   have TK : Hid (d.ctors.take (i + 1) = d.ctors.take i ++ [x]) := by rw [Hid, List.take_add_one, hx]; rfl
   have TLN : Hid ((d.ctors.take i).length ≤ N) := by rw [Hid, List.length_take]; omega
   have RX : Hid (wr.rangeAt pb (po + 6 * i) (strT x.1 :: xs)) := rng_low hrx CP.out.be (by have := hq.out; omega)
   have TX : Hid (TmAt F wr x.2 xs) := htx.below (by rw [hq.out]; exact CP.out.be)
   have BQW := Lib.hid CP.out.bq
   have QZ : Hid (q < z) := by have := CP.out.qz; rw [Hid]; omega
   subst hca
   clear hx hxm hrx htx hpb
   go_upto_region 5 with (fail)
   refine region_begin (opsOf Try.f17 5) (fun W' => Below z wr W') (by kernel_rfl) (by kernel_rfl) 20 (by kernel_rfl) ?_
   intro Q' hQN hN
   have HD : Below wr.heap.size wr wr.drew := (Below.refl _ _).drew
   have HS : Below z wr wr.drew := (Below.refl _ _).drew
   have CP := Lib.hid (CP.out.below HD)
   have RK := Lib.hid (RK.out.below HD)
   have TX := Lib.hid (TX.out.below HD)
   clear HD
   generalize wr.drew = wd at CP RK TX HS ⊢
   refine reg_now 0 (.pointer (some ⟨z, 14, none⟩)) (some 27) hQN HS (by kernel_rfl) (by kernel_rfl) (fun w => by kernel_rfl) ?_
   refine reg_now 2 (.pointer (some ⟨q, 14, none⟩)) (some 29) hQN HS (by kernel_rfl) (by kernel_rfl) (fun w => by kernel_rfl) ?_
   refine reg_nowIf 3 (.slice (some ⟨pb, po, none⟩) N cc) (some 30) hQN HS (by kernel_rfl) (by kernel_rfl) (fun w' hw => exec_load_cell 36 (.tmp 29) (by kernel_rfl) q 14 (by kernel_rfl) _ (FM.out.c (BQW.out.below hw QZ.out)) _ Try.underlying36 rfl) ?_
   refine reg_now 4 (.int .i64 (i : Int)) (some 31) hQN HS (by kernel_rfl) (by kernel_rfl) (fun w => by kernel_rfl) ?_
   refine reg_now 5 (.pointer (some ⟨pb, po + 6 * i, none⟩)) (some 32) hQN HS (by kernel_rfl) (by kernel_rfl) (fun w' => exec_indexAt 36 (.tmp 30) (.tmp 31) (by kernel_rfl) _ _ _ (by kernel_rfl) (by kernel_rfl) (run_at_ct pb po N cc i hlt w')) ?_
   refine reg_now 6 (.pointer (some ⟨pb, po + 6 * i, none⟩)) (some 33) hQN HS (by kernel_rfl) (by kernel_rfl) (fun w => by kernel_rfl) ?_
   refine reg_nowIf 7 (strT x.1) (some 34) hQN HS (by kernel_rfl) (by kernel_rfl) (fun w' hw => exec_load_cell 9 (.tmp 33) (by kernel_rfl) pb (po + 6 * i) (by kernel_rfl) _ (ct_name (rng_low RX.out hw PQ.out)) _ Try.underlying9 rfl) ?_
   refine reg_now 8 (.pointer (some ⟨q, 14, none⟩)) (some 35) hQN HS (by kernel_rfl) (by kernel_rfl) (fun w => by kernel_rfl) ?_
   refine reg_nowIf 9 (.slice (some ⟨pb, po, none⟩) N cc) (some 36) hQN HS (by kernel_rfl) (by kernel_rfl) (fun w' hw => exec_load_cell 36 (.tmp 35) (by kernel_rfl) q 14 (by kernel_rfl) _ (FM.out.c (BQW.out.below hw QZ.out)) _ Try.underlying36 rfl) ?_
   refine reg_now 10 (.int .i64 (i : Int)) (some 37) hQN HS (by kernel_rfl) (by kernel_rfl) (fun w => by kernel_rfl) ?_
   refine reg_now 11 (.pointer (some ⟨pb, po + 6 * i, none⟩)) (some 38) hQN HS (by kernel_rfl) (by kernel_rfl) (fun w' => exec_indexAt 36 (.tmp 36) (.tmp 37) (by kernel_rfl) _ _ _ (by kernel_rfl) (by kernel_rfl) (run_at_ct pb po N cc i hlt w')) ?_
   refine reg_now 12 (.pointer (some ⟨pb, po + 6 * i + 1, none⟩)) (some 39) hQN HS (by kernel_rfl) (by kernel_rfl) (fun w => by kernel_rfl) ?_
   refine reg_nowIf 13 (.agg xs.toArray) (some 40) hQN HS (by kernel_rfl) (by kernel_rfl) (fun w' hw => exec_load_mid 25 (.tmp 39) (by kernel_rfl) pb (po + 6 * i + 1) (by kernel_rfl) xs _ (ct_type (rng_low RX.out hw PQ.out)) Try.underlying25 rfl (t5Size X5.out)) ?_
   refine reg_lcvv (fun w1 => Below wd.heap.size wd w1) 1 14 15 16 cv 28 41 42 43 40 #[.agg xs.toArray] _ HS (fun w1 hb1 => HS.trans (hb1.mono (Nat.le_of_lt CP.out.bz.lt))) (by kernel_rfl) (by kernel_rfl) (by kernel_rfl) (by kernel_rfl) (by kernel_rfl) (by kernel_rfl) (by decide) (by decide) (exec_load_cell 36 (.tmp 27) (by kernel_rfl) z 14 (by kernel_rfl) _ (CP.out.fm.c (CP.out.bz)) _ Try.underlying36 rfl) (fun v1 w1 hb1 => exec_load_cell 36 (.tmp 27) (by kernel_rfl) z 14 (by kernel_rfl) _ (CP.out.fm.c (CP.out.bz.below hb1 CP.out.bz.lt)) _ Try.underlying36 rfl) (fun v1 u1 w1 hb1 => exec_load_cell 36 (.tmp 27) (by kernel_rfl) z 14 (by kernel_rfl) _ (CP.out.fm.c (CP.out.bz.below hb1 CP.out.bz.lt)) _ Try.underlying36 rfl) (fun v1 u1 u2 w1 hb1 => exec_load_cell 36 (.tmp 27) (by kernel_rfl) z 14 (by kernel_rfl) _ (CP.out.fm.c (CP.out.bz.below hb1 CP.out.bz.lt)) _ Try.underlying36 rfl) (by kernel_rfl) (by kernel_rfl) (copy_walk x.2 xs wd F TX.out SX.out.2) ?_
   rintro e w6 ⟨c', rfl, hct6, hb6⟩
   have SZD := CP.out.bz.lt
   have HS6 : Below z wr w6 := HS.trans (hb6.mono (Nat.le_of_lt SZD))
   have GC : Hid (TmAt (List.range (z + 1) ++ ownL cv) w6 x.2 c') := TmAt.off hct6 (fun k hk => by
    rcases List.mem_append.1 hk with hk | hk
    ·have := List.mem_range.1 hk; exact .inl (by omega)
    ·exact .inl (RK.out.own k (ownL_mem.1 hk)).2)
   have RV := run_build_ctw hct6 x.1 w6
   have RB := run_build_ct1 hct6 x.1 w6
   have bw7 := Blk.new w6 67 (strT x.1 :: c')
   have bew7 : Below w6.heap.size w6 (w6.alloc (.cells (strT x.1 :: c').toArray 67)) := (Below.refl _ _).alloc (Nat.le_refl _) _
   refine ⟨hb6, _, rfl, _, _, _, hb6.trans (bew7.mono hb6.size), exec_of _ _ (by kernel_rfl) RV, exec_of _ _ (by kernel_rfl) RV, exec_of _ _ (by kernel_rfl) RB, exec_of _ _ (by kernel_rfl) RB, ?_⟩
   have CP6 := Lib.hid (CP.out.below hb6)
   have RK6 := Lib.hid (RK.out.below hb6)
   clear CP RK TX HS RV RB hct6
   generalize w6.alloc (.cells (strT x.1 :: c').toArray 67) = w7 at bw7 bew7 ⊢
   have CP7 := Lib.hid (CP6.out.below bew7)
   have RK7 := Lib.hid (RK6.out.below bew7)
   have IC := Lib.hid (GC.out.below bew7)
   have S7 : z + 1 ≤ w7.heap.size := CP7.out.bz.lt
   have HS7 : Below z wr w7 := HS6.trans (bew7.mono (Nat.le_of_lt CP6.out.bz.lt))
   obtain ⟨cv', w8, hrun, r8, hg8, hat8⟩ := RK7.out.append bw7 IC.out (by have := TLN.out; have := NB.out; omega) S7
   have B78 : Below (z + 1) w7 w8 := (Below.refl _ _).grown hg8 S7 (fun g hg => (RK7.out.own g hg).1)
   have HS8 : Below z wr w8 := HS7.trans (B78.mono (Nat.le_succ z))
   refine reg_value 17 cv' (some 44) w8 (by kernel_rfl) (by kernel_rfl) (exec_of _ _ (by kernel_rfl) hrun) HS8 ?_
   have qz := CP7.out.qz
   have BQ8 : Hid (Blk w8 q 38 cs) := CP7.out.bq.below B78 (by omega)
   have BR8 : Hid (Blk w8 (q + 1) 38 zD) := CP7.out.br.below B78 (by omega)
   have BZ8 : Hid (Blk w8 z 38 zc) := CP7.out.bz.below B78 (Nat.lt_succ_self z)
   have TY8 : Hid (TmAt (List.range (q + 2) ++ [z] ++ ownL cv') w8 d.ty tc') := TmAt.step (grown_stepD hg8 hat8) _ _ CP7.out.ty
   have VA8 : Hid (TmAt (List.range (q + 2) ++ [z] ++ ownL cv') w8 d.val vc') := TmAt.step (grown_stepD hg8 hat8) _ _ CP7.out.va
   have FM8 := Lib.hid CP7.out.fm
   have BE8 : Hid (Below q w w8) := CP7.out.be.trans (B78.mono (by omega))
   have RK8 := Lib.hid r8
   have CV1 := slice_one r8.slice
   clear CP6 RK6 CP7 RK7 IC GC bw7 bew7 hrun r8 hg8 hat8 B78 S7 hb6 HS6 HS7 SZD
   refine reg_now 18 (.pointer (some ⟨z, 14, none⟩)) (some 45) hQN HS8 (by kernel_rfl) (by kernel_rfl) (fun w => by kernel_rfl) ?_
   refine reg_putF 19 14 36 (.tmp 45) (.tmp 44) z 38 zc cv' (by kernel_rfl) (by kernel_rfl) (by kernel_rfl) (by kernel_rfl) (by kernel_rfl) BZ8.out (by rw [FM8.out.len]; decide) sizeCts CV1.1 CV1.2 ?_
   intro w9 bw9 uw9
   have SU : Step (List.range (q + 2) ++ [z] ++ ownL cv') w8 (List.range (q + 2) ++ [z] ++ ownL cv') w9 := Step.of_upd uw9 (by simp)
   refine ⟨uw9.below HS8 (Nat.le_refl _) (Nat.le_of_lt BZ8.out.lt), ?_⟩
   have CP9 : Hid (CpS q z (List.range (q + 2) ++ [z]) w d cs (zc.set 14 cv') tc' vc' cv' w9) := ⟨uw9.blk BQ8.out (by omega), uw9.blk BR8.out (by omega), bw9, FM8.out.putCts cv', TmAt.step SU _ _ TY8.out, TmAt.step SU _ _ VA8.out, uw9.below BE8.out (by omega) (by have := BQ8.out.lt; omega), qz⟩
   have RK9 : Hid (RowK (z + 1) w9 cv' (d.ctors.take (i + 1))) := by rw [Hid, TK.out]; exact RK8.out.upd uw9 (Nat.lt_succ_self z)
   clear bw9 uw9 SU BQ8 BR8 BZ8 TY8 VA8 FM8 BE8 RK8 CV1 HS8 RX BQW TK TLN
   refine reg_done (by kernel_rfl) (hN _ _ ?_)
   generalize hact : Act.put _ none _ = act
   simp only [Act.put, sA, sC, sZ] at hact
   subst hact
   have nb := NB.out
   clear hQN hN
   go_wp2
   go_roundw
   case rel => exact ⟨i + 1, cv', _, by omega, by go_num, RK9, CP9⟩
   case measure => simp [intOf]; omega
 have HS : Below w2.heap.size w2 w2.drew := (Below.refl _ _).drew
 have TY := Lib.hid (TY.out.below HS)
 have VA := Lib.hid (VA.out.below HS)
 generalize w2.drew = W0 at HS TY VA ⊢
 refine reg_now 0 (.pointer (some ⟨q, 0, none⟩)) (some 5) hQN HS (by kernel_rfl) (by kernel_rfl) (fun w => by kernel_rfl) ?_
 refine reg_nowIf 1 (.int .i64 d.kind) (some 6) hQN HS (by kernel_rfl) (by kernel_rfl) (fun w' hw => exec_load_cell 3 (.tmp 5) (by kernel_rfl) q 0 (by kernel_rfl) _ (FM.out.k (BQ.out.below hw (by have := S2.out; omega))) _ Try.underlying3 rfl) ?_
 refine reg_now 2 (.pointer (some ⟨q, 1, none⟩)) (some 7) hQN HS (by kernel_rfl) (by kernel_rfl) (fun w => by kernel_rfl) ?_
 refine reg_nowIf 3 (.int .i64 d.params) (some 8) hQN HS (by kernel_rfl) (by kernel_rfl) (fun w' hw => exec_load_cell 3 (.tmp 7) (by kernel_rfl) q 1 (by kernel_rfl) _ (FM.out.p (BQ.out.below hw (by have := S2.out; omega))) _ Try.underlying3 rfl) ?_
 refine reg_now 4 (.pointer (some ⟨q, 2, none⟩)) (some 9) hQN HS (by kernel_rfl) (by kernel_rfl) (fun w => by kernel_rfl) ?_
 refine reg_nowIf 5 (strT d.name) (some 10) hQN HS (by kernel_rfl) (by kernel_rfl) (fun w' hw => exec_load_cell 9 (.tmp 9) (by kernel_rfl) q 2 (by kernel_rfl) _ (FM.out.n (BQ.out.below hw (by have := S2.out; omega))) _ Try.underlying9 rfl) ?_
 refine reg_now 6 (.pointer (some ⟨q, 3, none⟩)) (some 11) hQN HS (by kernel_rfl) (by kernel_rfl) (fun w => by kernel_rfl) ?_
 refine reg_nowIf 7 (.agg tc.toArray) (some 12) hQN HS (by kernel_rfl) (by kernel_rfl) (fun w' hw => exec_load_mid 25 (.tmp 11) (by kernel_rfl) q 3 (by kernel_rfl) tc _ (FM.out.tr (BQ.out.below hw (by have := S2.out; omega))) Try.underlying25 rfl (t5Size FM.out.t5)) ?_
 refine reg_now 9 (.pointer (some ⟨q, 8, none⟩)) (some 14) hQN HS (by kernel_rfl) (by kernel_rfl) (fun w => by kernel_rfl) ?_
 refine reg_nowIf 10 (.agg vc.toArray) (some 15) hQN HS (by kernel_rfl) (by kernel_rfl) (fun w' hw => exec_load_mid 25 (.tmp 14) (by kernel_rfl) q 8 (by kernel_rfl) vc _ (FM.out.vr (BQ.out.below hw (by have := S2.out; omega))) Try.underlying25 rfl (t5Size FM.out.v5)) ?_
 refine reg_now 12 (.pointer (some ⟨q, 13, none⟩)) (some 17) hQN HS (by kernel_rfl) (by kernel_rfl) (fun w => by kernel_rfl) ?_
 refine reg_nowIf 13 (.int .i64 d.fixed) (some 18) hQN HS (by kernel_rfl) (by kernel_rfl) (fun w' hw => exec_load_cell 3 (.tmp 17) (by kernel_rfl) q 13 (by kernel_rfl) _ (FM.out.f (BQ.out.below hw (by have := S2.out; omega))) _ Try.underlying3 rfl) ?_
 have s2 := S2.out
 have S0 : q + 2 ≤ W0.heap.size := by have := HS.size; omega
 refine wpAnyH_two (i := 8) (j := 15) (beq_iff_eq.1 (by kernel_rfl)) ?_ ?_
 ·skip
  refine opD_call 8 40 #[.agg tc.toArray] (some 13) _ (by kernel_rfl) (by kernel_rfl) (by kernel_rfl) (copy_walk d.ty tc W0 _ TY.out SM.out.ty) ?_
  rintro e W1 ⟨tc', rfl, h1, hb⟩
  have HS := HS.trans (hb.mono HS.size)
  refine ⟨_, rfl, HS, ?_⟩
  have VA1 := VA.out.below hb
  have T1 : TmAt (List.range (q + 2)) W1 d.ty tc' := h1.range S0
  have S1' : q + 2 ≤ W1.heap.size := Nat.le_trans S0 hb.size
  clear hb h1
  refine wpAnyH_two (i := 11) (j := 15) (beq_iff_eq.1 (by kernel_rfl)) ?_ ?_
  ·skip
   refine opD_call 11 40 #[.agg vc.toArray] (some 16) _ (by kernel_rfl) (by kernel_rfl) (by kernel_rfl) (copy_walk d.val vc W1 _ VA1 SM.out.val) ?_
   rintro e W2 ⟨vc', rfl, h2, hb⟩
   have HS := HS.trans (hb.mono HS.size)
   refine ⟨_, rfl, HS, ?_⟩
   have V2 : TmAt (List.range (q + 2)) W2 d.val vc' := h2.range S1'
   have T2 := T1.below hb
   clear hb h2
   have BLD := Lib.hid (run_build_dcf T2 V2 d.kind d.params d.name d.fixed)
   refine reg_now 14 (.agg (dCF d.kind d.params d.name tc' vc' d.fixed).toArray) (some 19) hQN HS (by kernel_rfl) (by kernel_rfl) (fun w' => exec_of (Instr.build 38 #[(0, .int .i64 d.kind), (1, .int .i64 d.params), (2, strT d.name), (3, .agg tc'.toArray), (4, .agg vc'.toArray), (5, .int .i64 d.fixed)]) _ (by kernel_rfl) (BLD.out w')) ?_
   refine wpAnyH_one (i := 15) (beq_iff_eq.1 (by kernel_rfl)) ?_
   refine opD_alloc 15 (some 3) (by kernel_rfl) (by kernel_rfl) (by kernel_rfl) ?_
   intro W3 z hz bz hb
   have HZ : w2.heap.size ≤ z := by have := HS.size; omega
   have HS := HS.trans (hb.mono HS.size)
   refine ⟨HS, ?_⟩
   exact reg_castC (by kernel_rfl) (by kernel_rfl) (FIN W3 z tc' vc' HS bz HZ (TmAt.below (TmAt.sub (fun k hk => (List.mem_append.1 hk).imp id (fun h => by simp at h; omega)) _ _ T2) hb) (TmAt.below (TmAt.sub (fun k hk => (List.mem_append.1 hk).imp id (fun h => by simp at h; omega)) _ _ V2) hb))
  refine opD_alloc 15 (some 3) (by kernel_rfl) (by kernel_rfl) (by kernel_rfl) ?_
  intro W2 z hz bz hb
  have HZ : w2.heap.size ≤ z := by have := HS.size; omega
  have HS := HS.trans (hb.mono HS.size)
  refine ⟨HS, ?_⟩
  have T2 : TmAt (List.range (q + 2) ++ [z]) W2 d.ty tc' := TmAt.below (TmAt.sub (fun k hk => (List.mem_append.1 hk).imp id (fun h => by simp at h; omega)) _ _ T1) hb
  have VA2 := VA1.below hb
  have ZL := bz.lt
  have S2' : q + 2 ≤ W2.heap.size := Nat.le_trans S1' hb.size
  clear hb
  refine wpAnyH_one (i := 11) (beq_iff_eq.1 (by kernel_rfl)) ?_
  refine opD_call 11 40 #[.agg vc.toArray] (some 16) _ (by kernel_rfl) (by kernel_rfl) (by kernel_rfl) (copy_walk d.val vc W2 _ VA2 SM.out.val) ?_
  rintro e W3 ⟨vc', rfl, h3, hb⟩
  have HS := HS.trans (hb.mono HS.size)
  refine ⟨_, rfl, HS, ?_⟩
  have bz := bz.below hb bz.lt
  have BLD := Lib.hid (run_build_dcf T2 h3 d.kind d.params d.name d.fixed)
  refine reg_now 14 (.agg (dCF d.kind d.params d.name tc' vc' d.fixed).toArray) (some 19) hQN HS (by kernel_rfl) (by kernel_rfl) (fun w' => exec_of (Instr.build 38 #[(0, .int .i64 d.kind), (1, .int .i64 d.params), (2, strT d.name), (3, .agg tc'.toArray), (4, .agg vc'.toArray), (5, .int .i64 d.fixed)]) _ (by kernel_rfl) (BLD.out w')) ?_
  exact reg_castC (by kernel_rfl) (by kernel_rfl) (FIN W3 z tc' vc' HS bz HZ (T2.below hb) (TmAt.sub (fun k hk => .inl (List.mem_range.2 (by have h0 := ZL; rcases List.mem_append.1 hk with h | h; have := List.mem_range.1 h; omega; simp at h; omega))) _ _ h3))
 refine opD_alloc 15 (some 3) (by kernel_rfl) (by kernel_rfl) (by kernel_rfl) ?_
 intro W1 z hz bz hb
 have HZ : w2.heap.size ≤ z := by have := HS.size; omega
 have HS := HS.trans (hb.mono HS.size)
 refine ⟨HS, ?_⟩
 have TY1 := TY.out.below hb
 have VA1 := VA.out.below hb
 have ZL := bz.lt
 have S1' : q + 2 ≤ W1.heap.size := Nat.le_trans S0 hb.size
 clear hb
 refine wpAnyH_one (i := 8) (beq_iff_eq.1 (by kernel_rfl)) ?_
 refine opD_call 8 40 #[.agg tc.toArray] (some 13) _ (by kernel_rfl) (by kernel_rfl) (by kernel_rfl) (copy_walk d.ty tc W1 _ TY1 SM.out.ty) ?_
 rintro e W2 ⟨tc', rfl, h2, hb⟩
 have HS := HS.trans (hb.mono HS.size)
 refine ⟨_, rfl, HS, ?_⟩
 have VA2 := VA1.below hb
 have bz2 := bz.below hb bz.lt
 have T2 : TmAt (List.range (q + 2) ++ [z]) W2 d.ty tc' := (TmAt.sub (fun k hk => .inl (List.mem_range.2 (by have h0 := ZL; rcases List.mem_append.1 hk with h | h; have := List.mem_range.1 h; omega; simp at h; omega))) _ _ h2)
 have ZL2 := bz2.lt
 have S2' : q + 2 ≤ W2.heap.size := Nat.le_trans S1' hb.size
 clear hb bz
 refine wpAnyH_one (i := 11) (beq_iff_eq.1 (by kernel_rfl)) ?_
 refine opD_call 11 40 #[.agg vc.toArray] (some 16) _ (by kernel_rfl) (by kernel_rfl) (by kernel_rfl) (copy_walk d.val vc W2 _ VA2 SM.out.val) ?_
 rintro e W3 ⟨vc', rfl, h3, hb⟩
 have HS := HS.trans (hb.mono HS.size)
 refine ⟨_, rfl, HS, ?_⟩
 have bz := bz2.below hb bz2.lt
 have BLD := Lib.hid (run_build_dcf T2 h3 d.kind d.params d.name d.fixed)
 refine reg_now 14 (.agg (dCF d.kind d.params d.name tc' vc' d.fixed).toArray) (some 19) hQN HS (by kernel_rfl) (by kernel_rfl) (fun w' => exec_of (Instr.build 38 #[(0, .int .i64 d.kind), (1, .int .i64 d.params), (2, strT d.name), (3, .agg tc'.toArray), (4, .agg vc'.toArray), (5, .int .i64 d.fixed)]) _ (by kernel_rfl) (BLD.out w')) ?_
 exact reg_castC (by kernel_rfl) (by kernel_rfl) (FIN W3 z tc' vc' HS bz HZ (T2.below hb) (TmAt.sub (fun k hk => .inl (List.mem_range.2 (by have h0 := ZL2; rcases List.mem_append.1 hk with h | h; have := List.mem_range.1 h; omega; simp at h; omega))) _ _ h3))
end Go.Proofs.Yteohjbggicchgaa
