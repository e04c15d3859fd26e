/- Declarations as bytes: the program's appendDecl, Decl and Library. -/
import Derived.Test.YteohjbggicchgaaBGenT
import Derived.Test.YteohjbggicchgaaBCodL
namespace Go.Proofs.Yteohjbggicchgaa
open Go Go.RowKit
set_option maxRecDepth 100000
section
variable {ops : Array Oper} {Q : Exit → Act → World → Prop} {S : World → Prop} {fuel : Nat} {listed : Array Bool} {a : Act} {w : World}
theorem reg_byte1 (i : Nat) (d1 d2 : Option Tmp) (x : Int) (v : Value) (zs : List Int) (m : Nat) (h : RowB m w v zs) (hn : zs.length + 1 ≤ 70368744177664) (hm : m ≤ w.heap.size)
    (hi : (ops[i]?.isSome && (Region.ready .any ops listed == [i]) && Region.wanted (opAt ops i) (yielded ops a.tmps)) = true) (hd : (opAt ops i).dst = d1) (hr1 : execOp a.eval (opAt ops i) = (Instr.buildSlice 30 1 #[(0, .int .u8 x)] >>= fun x => pure (.value x)))
    (hk : ∀ q : Nat, (ops[i + 1]?.isSome && (Region.ready .any ops (listed.setIfInBounds i true) == [i + 1]) && Region.wanted (opAt ops (i + 1)) (yielded ops (a.put d1 (.slice (some ⟨q, 0, none⟩) 1 1)).tmps)) = true) (hd2 : (opAt ops (i + 1)).dst = d2)
    (hr2 : ∀ q : Nat, execOp (a.put d1 (.slice (some ⟨q, 0, none⟩) 1 1)).eval (opAt ops (i + 1)) = (Builtin.append_ #[30, 30] 30 #[v, .slice (some ⟨q, 0, none⟩) 1 1] >>= fun x => pure (.value x)))
    (hS : S (w.alloc (.cells (ints .u8 [x]).toArray 5)))
    (hq : ∀ (q : Nat) v' w', RowB m w' v' (zs ++ [x]) → Step (ownL v) w (ownL v') w' → S w' ∧ wpAnyH Try.prog .any ops Q S fuel ((listed.setIfInBounds i true).setIfInBounds (i + 1) true) ((a.put d1 (.slice (some ⟨q, 0, none⟩) 1 1)).put d2 v') w') : wpAnyH Try.prog .any ops Q S (fuel + 2) listed a w := by
  have hb : Below w.heap.size w (w.alloc (.cells (ints .u8 [x]).toArray 5)) := (Below.refl _ _).alloc (Nat.le_refl _) _
  refine reg_value i (.slice (some ⟨w.heap.size, 0, none⟩) 1 1) d1 (w.alloc (.cells (ints .u8 [x]).toArray 5)) hi hd (exec_of _ _ hr1 (by kernel_rfl)) hS ?_
  obtain ⟨v', w', e1, e2, e3, -⟩ := (h.below hb).append (bytes_blk (Blk.new w 5 (ints .u8 [x])) rfl) trivial (by simpa using hn) (Nat.le_trans hm hb.size)
  obtain ⟨g1, g2⟩ := hq _ v' w' e2 (Step.after hb e3)
  exact reg_value (i + 1) v' d2 w' (hk _) hd2 (exec_of _ _ (hr2 _) e1) g1 g2
end
/-- What a well-formed declaration's terms are. -/
structure OkD (d : Dc) : Prop where
 name : d.name.length ≤ 32
 ty : Ok10 d.ty ∧ nodesT d.ty ≤ 3000
 val : valD d → Ok10 d.val ∧ nodesT d.val ≤ 3000
 len : d.kind = 4 → d.ctors.length ≤ 8
 ctors : d.kind = 4 → ∀ c ∈ d.ctors, c.1.length ≤ 32 ∧ Ok10 c.2 ∧ nodesT c.2 ≤ 3000
theorem right_10 {p : Int} {t : Tm} (h : rightP p 0 t = true) : Ok10 t ∧ nodesT t ≤ 3000 := by
 obtain ⟨h1, h2⟩ := rightP_T h
 exact ⟨⟨⟨_, _, _, h2⟩, near_right t _ _ (Int.le_refl _) h2⟩, h1⟩
theorem form_ok {d : Dc} (h : FormD d) : OkD d := by
 refine ⟨word_len h.name, right_10 h.ty, fun hv => ?_, fun hk => ?_, fun hk c hc => ?_⟩
 ·have := h.val
  rw [if_pos hv] at this
  exact right_10 this
 ·have := h.rest
  rw [if_pos hk] at this
  exact this.2.1
 ·have := h.rest
  rw [if_pos hk] at this
  have := this.2.2 c hc
  exact ⟨word_len this.1, right_10 this.2⟩
def headD (d : Dc) : List Int := [d.kind % 256] ++ textB d.name ++ [d.params % 256] ++ termB d.ty
def ctsB (cs : List (List UInt8 × Tm)) : List Int := (cs.map ctorB).flatten
def tailD (d : Dc) : List Int := (if valD d then termB d.val else []) ++ (if d.kind = 4 then [d.fixed % 256, ((d.ctors.length % 256 : Nat) : Int)] ++ ctsB d.ctors else [])
theorem declB_head (d : Dc) : declB d = headD d ++ tailD d := by
 unfold declB headD tailD ctsB
 by_cases h : d.kind = 4
 ·rw [if_pos h, if_pos h]
  simp only [List.append_assoc, List.cons_append, List.nil_append]
 ·rw [if_neg h, if_neg h]
  simp only [List.append_assoc, List.cons_append, List.nil_append]
theorem ctsB_snoc (cs : List (List UInt8 × Tm)) (x : List UInt8 × Tm) : ctsB (cs ++ [x]) = ctsB cs ++ ctorB x := by simp [ctsB]
theorem ctorB_len {c : List UInt8 × Tm} (h : c.1.length ≤ 32 ∧ Ok10 c.2 ∧ nodesT c.2 ≤ 3000) (hl : LvT c.2) : (ctorB c).length ≤ 180041 := by
 have h1 := textB_len c.1 (by omega)
 have h2 := termB_len c.2 h.2.1 hl
 rw [ctorB, List.length_append]
 omega
theorem ctsB_len : ∀ {cs : List (List UInt8 × Tm)}, (∀ c ∈ cs, (ctorB c).length ≤ 180041) → (ctsB cs).length ≤ 180041 * cs.length
 | [], _ => by simp [ctsB]
 | c :: cs, h => by
  have h1 := h c (by simp)
  have h2 := ctsB_len (cs := cs) (fun x hx => h x (by simp [hx]))
  unfold ctsB at h2 ⊢
  rw [List.map_cons, List.flatten_cons, List.length_append, List.length_cons]
  omega
theorem headD_len {d : Dc} (h : OkD d) (hl : LvT d.ty) : (headD d).length ≤ 180043 := by
 have h1 := textB_len d.name (by have := h.name; omega)
 have h2 := termB_len d.ty h.ty.1 hl
 have h3 := h.ty.2
 have h4 := h.name
 unfold headD
 simp only [List.length_append, List.length_cons, List.length_nil]
 omega
theorem CtsAt.lv {F : List Nat} {w : World} {cs : List (List UInt8 × Tm)} {v : Value} (h : CtsAt F w cs v) : ∀ c ∈ cs, LvT c.2 := fun c hc => by
 obtain ⟨i, hi, rfl⟩ := List.getElem_of_mem hc
 obtain ⟨a, cap, h1, h2, h3⟩ := h
 obtain ⟨pb, po, e, hF, hb, hr⟩ := h3 (by omega)
 obtain ⟨xs, g1, g2⟩ := hr i _ (List.getElem?_eq_getElem hi)
 exact TmAt.lv _ _ g2
theorem DcAt.lv {F : List Nat} {w : World} {d : Dc} {cs : List Value} (h : DcAt F w d cs) : LvD d := by
 obtain ⟨tc, vc, cv, -, h1, h2, h3⟩ := h
 exact ⟨TmAt.lv _ _ h1, TmAt.lv _ _ h2, h3.lv⟩
set_option maxHeartbeats 8000000 in
theorem appDecl_walk {F : List Nat} (d : Dc) (cs : List Value) (v : Value) (zs : List Int) (m : Nat) (w : World) (hd : DcAt F w d cs) (hok : OkD d) (hr : RowB m w v zs) (hm : m ≤ w.heap.size) (hF : ∀ k ∈ ownL v, k ∈ F) (hb : zs.length ≤ 1000000000) : Calls Try.prog 39 #[v, .agg cs.toArray] w (Puts m v zs (declB d) w) := by
 obtain ⟨tc, vc, cv, hform, hty, hval, hcts⟩ := id hd
 obtain ⟨ca, cc, rfl⟩ := hcts.slice
 have C15 := Lib.hid hd.len
 have TC5 := Lib.hid hform.t5
 have VC5 := Lib.hid hform.v5
 have FM := Lib.hid hform
 have LV := Lib.hid hd.lv
 have HDL := Lib.hid (headD_len hok hd.lv.ty)
 have CT := Lib.hid hcts
 have HTY := Lib.hid hty
 have HVAL := Lib.hid hval
 obtain ⟨M, hM⟩ : ∃ M, Hid (d.ctors.length = M) := ⟨_, rfl⟩
 rw [hM.out] at CT FM
 obtain ⟨q, hq⟩ : ∃ q, Hid (w.heap.size = q) := ⟨_, rfl⟩
 have RB0 := Lib.hid hr
 have HM := Lib.hid hm
 have HB := Lib.hid hb
 have HF := Lib.hid hF
 have OK := Lib.hid hok
 have NQ : Hid (q ∉ ownL v) := fun hc => by have := (ownL_row RB0.out q hc).2; have := hq.out; omega
 obtain ⟨HD, hHD⟩ : ∃ y, Hid (headD d = y) := ⟨_, rfl⟩
 obtain ⟨TL, hTL⟩ : ∃ y, Hid (tailD d = y) := ⟨_, rfl⟩
 rw [declB_head, hHD.out, hTL.out]
 rw [hHD.out] at HDL
 clear hform hty hval hcts hd hr hm hb hF hok
 go_enter Try.func39, Try.ntmps39
 go_upto_region 0 with (fail)
 refine lbeg (opsOf Try.f39 0) ?_
 refine lbox 0 38 (.tmp 1) (cs) (q) (some 3) hq ?_
 intro w1 bw1 bew1 hsw1
 refine lnow 1 (.slice none 0 0) (some 4) ?_
 refine ldn 2 ?_
 generalize hact : Act.put _ (some 4) _ = act
 simp only [Act.put, sA, sC, sZ] at hact
 subst hact
 have BQ := Lib.hid bw1
 have BE : Hid (Below w.heap.size w w1) := by rw [Hid, hq.out]; exact bew1
 have S1 : Hid (q < w1.heap.size) := by have := hsw1.out; rw [Hid]; omega
 have FM := FM.out
 have RB1 : Hid (RowB m w1 v zs) := RB0.out.below BE.out
 have M1 : Hid (m ≤ w1.heap.size) := Nat.le_trans HM.out BE.out.size
 have HTY1 := Lib.hid (HTY.out.below BE.out)
 have HVAL1 := Lib.hid (HVAL.out.below BE.out)
 have CT1 := Lib.hid (CT.out.below BE.out)
 clear bw1 bew1 hsw1 HTY HVAL CT RB0
 have D0 : Blk w1.drew q 38 cs := BQ.out
 have RBd : Hid (RowB m w1.drew v zs) := RB1.out.below (Below.refl _ _).drew
 have Md : Hid (m ≤ w1.drew.heap.size) := M1.out
 have STd : Hid (Step (ownL v) w1 (ownL v) w1.drew) := Step.of_below (Below.refl _ _).drew (Nat.le_refl _)
 go_upto_region 1 with (fail)
 refine region_begin (opsOf Try.f39 1) (fun W' => Blk W' q 38 cs) (by kernel_rfl) (by kernel_rfl) 10 (by kernel_rfl) ?_
 intro Q' hQN hN
 generalize w1.drew = wd at D0 RBd Md STd ⊢
 refine reg_now 0 (v) (some 7) hQN D0 (by kernel_rfl) (by kernel_rfl) (fun w => by kernel_rfl) ?_
 refine reg_now 1 (.pointer (some ⟨q, 0, none⟩)) (some 8) hQN D0 (by kernel_rfl) (by kernel_rfl) (fun w => by kernel_rfl) ?_
 refine reg_now 6 (.pointer (some ⟨q, 2, none⟩)) (some 13) hQN D0 (by kernel_rfl) (by kernel_rfl) (fun w => by kernel_rfl) ?_
 refine reg_nowIf 2 (.int .i64 d.kind) (some 9) hQN D0 (by kernel_rfl) (by kernel_rfl) (fun w' hw => exec_load_cell 3 (.tmp 8) (by kernel_rfl) q 0 (by kernel_rfl) _ (FM.k hw) _ Try.underlying3 rfl) ?_
 refine reg_nowIf 7 (strT d.name) (some 14) hQN D0 (by kernel_rfl) (by kernel_rfl) (fun w' hw => exec_load_cell 9 (.tmp 13) (by kernel_rfl) q 2 (by kernel_rfl) _ (FM.n hw) _ Try.underlying9 rfl) ?_
 refine reg_now 3 (.int .u8 (IntKind.u8.wrap d.kind)) (some 10) hQN D0 (by kernel_rfl) (by kernel_rfl) (fun w => by kernel_rfl) ?_
 rw [wrapI8]
 refine reg_byte1 4 (some 11) (some 12) (d.kind % 256) (v) (zs) m RBd.out (by have := HB.out; omega) (Md.out) (by kernel_rfl) (by kernel_rfl) (by kernel_rfl) (fun _ => by kernel_rfl) (by kernel_rfl) (fun _ => by kernel_rfl) (D0.below ((Below.refl _ _).alloc (Nat.le_refl _) _) D0.lt) ?_
 intro q2 v2 w2 rw2 sw2
 have D2 : Blk w2 q 38 cs := sw2.blk D0 NQ.out
 refine ⟨D2, ?_⟩
 have NQ2 : q ∉ ownL v2 := sw2.off D0.lt NQ.out
 have M2 : m ≤ w2.heap.size := Nat.le_trans Md.out sw2.size
 have NM := OK.out.name
 refine reg_call 8 64 #[v2, strT d.name] (some 15) _ (by kernel_rfl) (by kernel_rfl) (by kernel_rfl) (appText_walk d.name v2 (zs ++ [d.kind % 256]) m w2 rw2 M2 (by have := HB.out; simp only [List.length_append, List.length_cons, List.length_nil]; omega)) ?_
 rintro e w3 ⟨v3, rfl, r3, s3⟩
 have D3 : Blk w3 q 38 cs := s3.blk D2 NQ2
 refine ⟨_, rfl, D3, ?_⟩
 refine reg_now 9 (v3) (some 0) hQN D3 (by kernel_rfl) (by kernel_rfl) (fun w => by kernel_rfl) ?_
 refine reg_done (by kernel_rfl) (hN _ _ ?_)
 generalize hact : Act.put _ (some 0) _ = act
 simp only [Act.put, sA, sC, sZ] at hact
 subst hact
 have RB := Lib.hid r3
 have ST := Lib.hid ((STd.out.trans sw2).trans s3)
 have BQ2 := Lib.hid D3
 have TXL := Lib.hid (textB_len d.name (by omega))
 clear rw2 sw2 r3 s3 D0 D2 D3 RBd Md STd NQ2 M2 NM
 have D0 : Blk w3.drew q 38 cs := BQ2.out
 have RBd : Hid (RowB m w3.drew v3 (zs ++ [d.kind % 256] ++ textB d.name)) := RB.out.below (Below.refl _ _).drew
 have STd : Hid (Step (ownL v) w1 (ownL v3) w3.drew) := ST.out.on (Below.refl _ _).drew
 clear RB ST BQ2
 go_upto_region 2 with (fail)
 refine region_begin (opsOf Try.f39 2) (fun W' => Blk W' q 38 cs) (by kernel_rfl) (by kernel_rfl) 10 (by kernel_rfl) ?_
 intro Q' hQN hN
 generalize w3.drew = wd at D0 RBd STd ⊢
 have Md : Hid (m ≤ wd.heap.size) := Nat.le_trans M1.out STd.out.size
 have NQ3 : q ∉ ownL v3 := STd.out.off S1.out NQ.out
 refine reg_now 0 (v3) (some 16) hQN D0 (by kernel_rfl) (by kernel_rfl) (fun w => by kernel_rfl) ?_
 refine reg_now 1 (.pointer (some ⟨q, 1, none⟩)) (some 17) hQN D0 (by kernel_rfl) (by kernel_rfl) (fun w => by kernel_rfl) ?_
 refine reg_now 6 (.pointer (some ⟨q, 3, none⟩)) (some 22) hQN D0 (by kernel_rfl) (by kernel_rfl) (fun w => by kernel_rfl) ?_
 refine reg_nowIf 2 (.int .i64 d.params) (some 18) hQN D0 (by kernel_rfl) (by kernel_rfl) (fun w' hw => exec_load_cell 3 (.tmp 17) (by kernel_rfl) q 1 (by kernel_rfl) _ (FM.p hw) _ Try.underlying3 rfl) ?_
 refine reg_nowIf 7 (.agg tc.toArray) (some 23) hQN D0 (by kernel_rfl) (by kernel_rfl) (fun w' hw => exec_load_mid 25 (.tmp 22) (by kernel_rfl) q 3 (by kernel_rfl) tc _ (FM.tr hw) Try.underlying25 rfl (t5Size TC5.out)) ?_
 refine reg_now 3 (.int .u8 (IntKind.u8.wrap d.params)) (some 19) hQN D0 (by kernel_rfl) (by kernel_rfl) (fun w => by kernel_rfl) ?_
 rw [wrapI8]
 refine reg_byte1 4 (some 20) (some 21) (d.params % 256) (v3) (zs ++ [d.kind % 256] ++ textB d.name) m RBd.out (by have := HB.out; have := TXL.out; have := OK.out.name; simp only [List.length_append, List.length_cons, List.length_nil]; omega) (Md.out) (by kernel_rfl) (by kernel_rfl) (by kernel_rfl) (fun _ => by kernel_rfl) (by kernel_rfl) (fun _ => by kernel_rfl) (D0.below ((Below.refl _ _).alloc (Nat.le_refl _) _) D0.lt) ?_
 intro q4 v4 w4 rw4 sw4
 have D4 : Blk w4 q 38 cs := sw4.blk D0 NQ3
 refine ⟨D4, ?_⟩
 have NQ4 : q ∉ ownL v4 := sw4.off D0.lt NQ3
 have M4 : m ≤ w4.heap.size := Nat.le_trans Md.out sw4.size
 have TY4 : TmAt (F ++ ownL v4) w4 d.ty tc := TmAt.step ((STd.out.trans sw4).wide HF.out) _ _ HTY1.out
 obtain ⟨TYO, TYN⟩ := OK.out.ty
 refine reg_call 8 35 #[v4, .agg tc.toArray] (some 24) _ (by kernel_rfl) (by kernel_rfl) (by kernel_rfl) (appTerm_walk d.ty tc v4 (zs ++ [d.kind % 256] ++ textB d.name ++ [d.params % 256]) m w4 (F ++ ownL v4) TY4 TYO rw4 M4 (fun k hk => List.mem_append_right _ hk) (by have := HB.out; have := TXL.out; have := OK.out.name; simp only [List.length_append, List.length_cons, List.length_nil]; omega)) ?_
 rintro e w5 ⟨v5, rfl, r5, s5⟩
 have D5 : Blk w5 q 38 cs := s5.blk D4 NQ4
 refine ⟨_, rfl, D5, ?_⟩
 refine reg_now 9 (v5) (some 0) hQN D5 (by kernel_rfl) (by kernel_rfl) (fun w => by kernel_rfl) ?_
 refine reg_done (by kernel_rfl) (hN _ _ ?_)
 generalize hact : Act.put _ (some 0) _ = act
 simp only [Act.put, sA, sC, sZ] at hact
 subst hact
 have RB : Hid (RowB m w5 v5 (zs ++ HD)) := by rw [Hid, ← hHD.out]; unfold headD; simp only [List.append_assoc] at r5 ⊢; exact r5
 have ST := Lib.hid ((STd.out.trans sw4).trans s5)
 have BQ2 := Lib.hid D5
 clear rw4 sw4 r5 s5 D0 D4 D5 RBd Md STd NQ3 NQ4 M4 TY4 TYO TYN TXL
 have k0 := FM.k BQ2.out
 go_upto_region 3 with (fail)
 refine lbeg (opsOf Try.f39 3) ?_
 refine lnow 0 (.pointer (some ⟨q, 0, none⟩)) (some 25) ?_
 refine lcl 1 (.int .i64 d.kind) (some 26) 3 25 q 0 (k0) Try.underlying3 ?_
 refine ldn 2 ?_
 generalize hact : Act.put _ (some 26) _ = act
 simp only [Act.put, sA, sC, sZ] at hact
 subst hact
 clear k0
 go_upto_block 0 with (fail)
 go_cut [0, 6] from 27 (fun s0 s6 wc => ∃ v0, v0 = s0 ∧ HeadC m v w1 (zs ++ (HD ++ TL)) v0 wc)
 case first =>
  go_upto_region 4 with (fail)
  refine lbeg (opsOf Try.f39 4) ?_
  refine lnow 0 (.bool (decide (d.kind = 2))) (some 28) ?_
  refine lnow 1 (.bool (decide (d.kind = 2))) (some 27) ?_
  refine ldn 2 ?_
  generalize hact : Act.put _ (some 27) _ = act
  simp only [Act.put, sA, sC, sZ] at hact
  subst hact
  by_cases h2 : d.kind = 2
  ·skip
   rw [decide_eq_true h2]
   have HV : valD d := .inl h2
   obtain ⟨VO, VN⟩ := OK.out.val HV
   have ET : TL = termB d.val := by rw [← hTL.out, tailD, if_pos HV, if_neg (by omega), List.append_nil]
   have VV : TmAt (F ++ ownL v5) w5 d.val vc := TmAt.step (ST.out.wide HF.out) _ _ HVAL1.out
   have kv := FM.vr BQ2.out
   have M5 : m ≤ w5.heap.size := Nat.le_trans M1.out ST.out.size
   go_upto_region 6 with (fail)
   refine lbeg (opsOf Try.f39 6) ?_
   refine lnow 0 (v5) (some 30) ?_
   refine lnow 1 (.pointer (some ⟨q, 8, none⟩)) (some 31) ?_
   refine lrl 2 vc (some 32) 25 31 q 8 (kv) Try.underlying25 (t5Size VC5.out) ?_
   refine lcal 3 35 #[v5, .agg vc.toArray] (some 33) _ (appTerm_walk d.val vc v5 (zs ++ HD) m w5 (F ++ ownL v5) VV VO RB.out M5 (fun k hk => List.mem_append_right _ hk) (by have := HB.out; have := HDL.out; simp only [List.length_append]; omega)) ?_
   rintro e w6 ⟨v6, rfl, r6, s6⟩
   refine ⟨_, rfl, ?_⟩
   refine lnow 4 (v6) (some 0) ?_
   refine ldn 5 ?_
   generalize hact : Act.put _ (some 0) _ = act
   simp only [Act.put, sA, sC, sZ] at hact
   subst hact
   have RBF : Hid (RowB m w6 v6 (zs ++ (HD ++ TL))) := by rw [Hid, ET, ← List.append_assoc]; exact r6
   have ST := Lib.hid (ST.out.trans s6)
   clear r6 s6 kv M5 VV VO VN BQ2
   have RH : HeadC m v w1 (zs ++ (HD ++ TL)) v6 w6 := ⟨RBF.out, ST.out⟩
   clear RB
   go_wp2
   go_meet
   case rel => exact ⟨_, rfl, RH⟩
  rw [decide_eq_false h2]
  go_upto_region 5 with (fail)
  refine lbeg (opsOf Try.f39 5) ?_
  refine lnow 0 (.bool (decide (d.kind = 3))) (some 29) ?_
  refine lnow 1 (.bool (decide (d.kind = 3))) (some 27) ?_
  refine ldn 2 ?_
  generalize hact : Act.put _ (some 27) _ = act
  simp only [Act.put, sA, sC, sZ] at hact
  subst hact
  by_cases h3 : d.kind = 3
  ·skip
   rw [decide_eq_true h3]
   have HV : valD d := .inr h3
   obtain ⟨VO, VN⟩ := OK.out.val HV
   have ET : TL = termB d.val := by rw [← hTL.out, tailD, if_pos HV, if_neg (by omega), List.append_nil]
   have VV : TmAt (F ++ ownL v5) w5 d.val vc := TmAt.step (ST.out.wide HF.out) _ _ HVAL1.out
   have kv := FM.vr BQ2.out
   have M5 : m ≤ w5.heap.size := Nat.le_trans M1.out ST.out.size
   go_upto_region 6 with (fail)
   refine lbeg (opsOf Try.f39 6) ?_
   refine lnow 0 (v5) (some 30) ?_
   refine lnow 1 (.pointer (some ⟨q, 8, none⟩)) (some 31) ?_
   refine lrl 2 vc (some 32) 25 31 q 8 (kv) Try.underlying25 (t5Size VC5.out) ?_
   refine lcal 3 35 #[v5, .agg vc.toArray] (some 33) _ (appTerm_walk d.val vc v5 (zs ++ HD) m w5 (F ++ ownL v5) VV VO RB.out M5 (fun k hk => List.mem_append_right _ hk) (by have := HB.out; have := HDL.out; simp only [List.length_append]; omega)) ?_
   rintro e w6 ⟨v6, rfl, r6, s6⟩
   refine ⟨_, rfl, ?_⟩
   refine lnow 4 (v6) (some 0) ?_
   refine ldn 5 ?_
   generalize hact : Act.put _ (some 0) _ = act
   simp only [Act.put, sA, sC, sZ] at hact
   subst hact
   have RBF : Hid (RowB m w6 v6 (zs ++ (HD ++ TL))) := by rw [Hid, ET, ← List.append_assoc]; exact r6
   have ST := Lib.hid (ST.out.trans s6)
   clear r6 s6 kv M5 VV VO VN BQ2
   have RH : HeadC m v w1 (zs ++ (HD ++ TL)) v6 w6 := ⟨RBF.out, ST.out⟩
   clear RB
   go_wp2
   go_meet
   case rel => exact ⟨_, rfl, RH⟩
  rw [decide_eq_false h3]
  have NV : ¬ valD d := fun e => e.elim h2 h3
  go_upto_region 7 with (fail)
  refine lbeg (opsOf Try.f39 7) ?_
  refine lnow 0 (.bool (decide (d.kind = 4))) (some 35) ?_
  refine lnow 1 (.bool (decide (d.kind = 4))) (some 34) ?_
  refine ldn 2 ?_
  generalize hact : Act.put _ (some 34) _ = act
  simp only [Act.put, sA, sC, sZ] at hact
  subst hact
  by_cases h4 : d.kind = 4
  rotate_left
  ·skip
   rw [decide_eq_false h4]
   have ET : TL = [] := by rw [← hTL.out, tailD, if_neg NV, if_neg h4]; rfl
   have RBF : Hid (RowB m w5 v5 (zs ++ (HD ++ TL))) := by rw [Hid, ET, List.append_nil]; exact RB.out
   clear BQ2
   have RH : HeadC m v w1 (zs ++ (HD ++ TL)) v5 w5 := ⟨RBF.out, ST.out⟩
   clear RB
   go_wp2
   go_meet
   case rel => exact ⟨_, rfl, RH⟩
  rw [decide_eq_true h4]
  have M8 : Hid (M ≤ 8) := by have := OK.out.len h4; rw [hM.out] at this; exact this
  obtain ⟨FL, hFL⟩ : ∃ y, Hid ([d.fixed % 256, ((M % 256 : Nat) : Int)] = y) := ⟨_, rfl⟩
  have FLL : Hid (FL.length = 2) := by rw [Hid, ← hFL.out]; rfl
  have ET : Hid (TL = FL ++ ctsB d.ctors) := by rw [Hid, ← hTL.out, ← hFL.out, tailD, if_neg NV, if_pos h4, hM.out]; rfl
  have CO := Lib.hid (OK.out.ctors h4)
  clear h4
  have kf := FM.f BQ2.out
  have kc := FM.c BQ2.out
  have M5 : m ≤ w5.heap.size := Nat.le_trans M1.out ST.out.size
  go_upto_region 8 with (fail)
  refine lbeg (opsOf Try.f39 8) ?_
  refine lnow 0 (v5) (some 36) ?_
  refine lnow 1 (.pointer (some ⟨q, 13, none⟩)) (some 37) ?_
  refine lcl 2 (.int .i64 d.fixed) (some 38) 3 37 q 13 (kf) Try.underlying3 ?_
  refine lnow 3 (.int .u8 (IntKind.u8.wrap d.fixed)) (some 39) ?_
  rw [wrapI8]
  refine lnow 4 (.pointer (some ⟨q, 14, none⟩)) (some 40) ?_
  refine lcl 5 (.slice ca M cc) (some 41) 36 40 q 14 (kc) Try.underlying36 ?_
  refine lnow 6 (.int .i64 (M : Int)) (some 42) ?_
  refine lnow 7 (.int .u8 (IntKind.u8.wrap (M : Int))) (some 43) ?_
  rw [wrapU8]
  refine lin_new 8 (some 44) [d.fixed % 256, ((M % 256 : Nat) : Int)] 2 rfl (by decide) (by kernel_rfl) (by kernel_rfl) (by kernel_rfl) ?_
  intro vn wn rn bn _ _
  rw [hFL.out] at rn
  refine lin_app 9 (some 45) v5 vn (zs ++ HD) FL m (RB.out.below bn) rn.in rn.nilok (by have := HB.out; have := HDL.out; have := FLL.out; simp only [List.length_append]; omega) (Nat.le_trans M5 bn.size) (by kernel_rfl) (by kernel_rfl) (by kernel_rfl) ?_
  intro v6 w6 r6 s6
  refine lnow 10 (v6) (some 0) ?_
  refine ldn 11 ?_
  generalize hact : Act.put _ (some 0) _ = act
  simp only [Act.put, sA, sC, sZ] at hact
  subst hact
  have RB := Lib.hid r6
  have ST := Lib.hid ((ST.out.on bn).trans s6)
  clear r6 s6 rn bn kf kc M5 BQ2
  have BQ2 : Hid (Blk w6 q 38 cs) := ST.out.blk BQ.out NQ.out
  have kc := FM.c BQ2.out
  go_upto_region 9 with (fail)
  refine lbeg (opsOf Try.f39 9) ?_
  refine lnow 0 (.pointer (some ⟨q, 14, none⟩)) (some 46) ?_
  refine lcl 1 (.slice ca M cc) (some 47) 36 46 q 14 (kc) Try.underlying36 ?_
  refine lnow 2 (.int .i64 (M : Int)) (some 48) ?_
  refine lnow 3 (.int .i64 0) (some 49) ?_
  refine ldn 4 ?_
  generalize hact : Act.put _ (some 49) _ = act
  simp only [Act.put, sA, sC, sZ] at hact
  subst hact
  clear kc BQ2 hFL
  go_wp2
  go_loopw [0, 49] (fun vv iv wr => ∃ (i : Nat) (v' : Value), i ≤ M ∧ iv = .int .i64 (i : Int) ∧ v' = vv ∧ Hid (RowB m wr v' (zs ++ HD ++ FL ++ ctsB (d.ctors.take i))) ∧ Hid (Step (ownL v) w1 (ownL v') wr)) (fun _ iv _ => M - (intOf iv).toNat)
  case atStart => exact ⟨0, _, Nat.zero_le _, rfl, rfl, by rw [List.take_zero, ctsB, List.map_nil, List.flatten_nil, List.append_nil]; exact RB, ST⟩
  case round =>
   clear RB ST
   obtain ⟨i, v', hi, rfl, rfl, RB, ST⟩ := hrel
   have MR : Hid (m ≤ wr.heap.size) := Nat.le_trans M1.out ST.out.size
   by_cases hlt : i < M
   ·skip
    have c1 : (i : Int) < (M : Int) := by omega
    obtain ⟨x, pb, po, xs, hx, hxm, haa, hpF, hpb, hrx, htx⟩ := CT1.out.get hM.out hlt
    subst haa
    have RX : Hid (wr.rangeAt pb (po + 6 * i) (strT x.1 :: xs)) := ST.out.range hpb (fun hc => hpF (HF.out _ hc)) hrx
    have TX : Hid (TmAt (F ++ ownL v') wr x.2 xs) := TmAt.step (ST.out.wide HF.out) _ _ htx
    have X5 := Lib.hid htx.len
    have X1 := Lib.hid htx.one
    have TK : Hid (d.ctors.take (i + 1) = d.ctors.take i ++ [x]) := by rw [Hid, List.take_add_one, hx]; rfl
    have XO := Lib.hid (CO.out x hxm)
    have X6 : Hid ((strT x.1 :: xs).length = 6) := by have := X5.out; rw [Hid, List.length_cons]; omega
    have SUM : Hid ((ctsB (d.ctors.take i)).length ≤ 1440328) := by
     have e1 := ctsB_len (cs := d.ctors.take i) (fun c hc => ctorB_len (CO.out c (List.mem_of_mem_take hc)) (LV.out.ctors c (List.mem_of_mem_take hc)))
     have e2 := List.length_take_le i d.ctors
     rw [List.length_take] at e1
     have := M8.out
     have e3 : min i d.ctors.length ≤ 8 := by omega
     rw [Hid]
     exact Nat.le_trans e1 (Nat.le_trans (Nat.mul_le_mul_left _ e3) (by decide))
    clear hx hrx hpF hpb htx hxm
    go_upto_region 10 with (fail)
    refine lbeg (opsOf Try.f39 10) ?_
    refine lnow 0 (.bool (decide ((i : Int) < (M : Int)))) (some 50) ?_
    rw [decide_eq_true c1]
    refine ldn 1 ?_
    generalize hact : Act.put _ (some 50) _ = act
    simp only [Act.put, sA, sC, sZ] at hact
    subst hact
    obtain ⟨z, hz⟩ : ∃ z, Hid (wr.heap.size = z) := ⟨_, rfl⟩
    go_upto_region 11 with (fail)
    refine lbeg (opsOf Try.f39 11) ?_
    refine lix 0 (.pointer (some ⟨pb, po + 6 * i, none⟩)) (some 51) 36 47 49 (run_at_ct pb po M cc i hlt _) ?_
    refine lrl 1 (strT x.1 :: xs) (some 52) 67 51 pb (po + 6 * i) RX.out Try.underlying67 (ctSize X6.out) ?_
    refine lin_alloc 2 67 zC z (some 6) (by kernel_rfl) (by kernel_rfl) (by kernel_rfl) zeroCt hz ?_
    intro w7 bw7 bew7 hsw7
    refine lput 3 67 (.tmp 6) (.tmp 52) z _ zC (strT x.1 :: xs) bw7 (by rw [X6.out]; rfl) (ctSize X6.out) (by simp only [List.all_toArray, List.all_cons]; rw [show (strT x.1).oneCell' = true from rfl, Bool.true_and]; exact List.all_eq_true.2 X1.out) ?_
    intro w8 bw8 uw8
    refine ldn 4 ?_
    generalize hact : Act.put _ none _ = act
    simp only [Act.put, sA, sC, sZ] at hact
    subst hact
    have B78 : Below wr.heap.size wr w8 := by rw [hz.out]; exact uw8.below bew7 (Nat.le_refl _) (by have := hsw7.out; omega)
    have RB8 := Lib.hid (RB.out.below B78)
    have ST8 := Lib.hid (ST.out.on B78)
    have MR8 : Hid (m ≤ w8.heap.size) := Nat.le_trans MR.out B78.size
    have TX8 := Lib.hid (TX.out.below B78)
    have NZ : z ∉ ownL v' := fun hc => by have := (ownL_row RB.out z hc).2; have := hz.out; omega
    have BZ := Lib.hid bw8
    clear bw7 bew7 hsw7 bw8 uw8 B78 RX TX RB
    have D0 : Blk w8.drew z 67 (strT x.1 :: xs) := BZ.out
    have RBd : Hid (RowB m w8.drew v' (zs ++ HD ++ FL ++ ctsB (d.ctors.take i))) := RB8.out.below (Below.refl _ _).drew
    have STd : Hid (Step (ownL v) w1 (ownL v') w8.drew) := ST8.out.on (Below.refl _ _).drew
    have TXd : Hid (TmAt (F ++ ownL v') w8.drew x.2 xs) := TX8.out.below (Below.refl _ _).drew
    have Md : Hid (m ≤ w8.drew.heap.size) := MR8.out
    clear RB8 ST8 TX8 MR8 BZ ST MR hz
    go_upto_region 12 with (fail)
    refine region_begin (opsOf Try.f39 12) (fun W' => Blk W' z 67 (strT x.1 :: xs)) (by kernel_rfl) (by kernel_rfl) 8 (by kernel_rfl) ?_
    intro Q' hQN hN
    generalize w8.drew = wd at D0 RBd STd TXd Md ⊢
    obtain ⟨XN, XK, XL⟩ := XO.out
    refine reg_now 0 (v') (some 53) hQN D0 (by kernel_rfl) (by kernel_rfl) (fun w => by kernel_rfl) ?_
    refine reg_now 1 (.pointer (some ⟨z, 0, none⟩)) (some 54) hQN D0 (by kernel_rfl) (by kernel_rfl) (fun w => by kernel_rfl) ?_
    refine reg_now 4 (.pointer (some ⟨z, 1, none⟩)) (some 57) hQN D0 (by kernel_rfl) (by kernel_rfl) (fun w => by kernel_rfl) ?_
    refine reg_nowIf 2 (strT x.1) (some 55) hQN D0 (by kernel_rfl) (by kernel_rfl) (fun w' hw => exec_load_cell 9 (.tmp 54) (by kernel_rfl) z 0 (by kernel_rfl) _ (ct_name (Blk.whole hw)) _ Try.underlying9 rfl) ?_
    refine reg_nowIf 5 (.agg xs.toArray) (some 58) hQN D0 (by kernel_rfl) (by kernel_rfl) (fun w' hw => exec_load_mid 25 (.tmp 57) (by kernel_rfl) z 1 (by kernel_rfl) xs _ (by have := ct_type (Blk.whole hw); rwa [Nat.zero_add] at this) Try.underlying25 rfl (t5Size X5.out)) ?_
    refine reg_call 3 64 #[v', strT x.1] (some 56) _ (by kernel_rfl) (by kernel_rfl) (by kernel_rfl) (appText_walk x.1 v' (zs ++ HD ++ FL ++ ctsB (d.ctors.take i)) m wd RBd.out Md.out (by have := HB.out; have := HDL.out; have := FLL.out; have := SUM.out; simp only [List.length_append]; omega)) ?_
    rintro e w9 ⟨v9, rfl, r9, s9⟩
    have D9 : Blk w9 z 67 (strT x.1 :: xs) := s9.blk D0 NZ
    refine ⟨_, rfl, D9, ?_⟩
    have M9 : m ≤ w9.heap.size := Nat.le_trans Md.out s9.size
    have NZ9 : z ∉ ownL v9 := s9.off D0.lt NZ
    have T9 : TmAt (F ++ ownL v' ++ ownL v9) w9 x.2 xs := TmAt.step (s9.wide (fun k hk => List.mem_append_right _ hk)) _ _ TXd.out
    have XT := textB_len x.1 (by omega)
    refine reg_call 6 35 #[v9, .agg xs.toArray] (some 59) _ (by kernel_rfl) (by kernel_rfl) (by kernel_rfl) (appTerm_walk x.2 xs v9 (zs ++ HD ++ FL ++ ctsB (d.ctors.take i) ++ textB x.1) m w9 (F ++ ownL v' ++ ownL v9) T9 XK r9 M9 (fun k hk => List.mem_append_right _ hk) (by have := HB.out; have := HDL.out; have := FLL.out; have := SUM.out; simp only [List.length_append]; omega)) ?_
    rintro e w10 ⟨v10, rfl, r10, s10⟩
    have D10 : Blk w10 z 67 (strT x.1 :: xs) := s10.blk D9 NZ9
    refine ⟨_, rfl, D10, ?_⟩
    refine reg_now 7 (v10) (some 0) hQN D10 (by kernel_rfl) (by kernel_rfl) (fun w => by kernel_rfl) ?_
    refine reg_done (by kernel_rfl) (hN _ _ ?_)
    generalize hact : Act.put _ (some 0) _ = act
    simp only [Act.put, sA, sC, sZ] at hact
    subst hact
    have RB : Hid (RowB m w10 v10 (zs ++ HD ++ FL ++ ctsB (d.ctors.take (i + 1)))) := by rw [Hid, TK.out, ctsB_snoc, ctorB, ← List.append_assoc, ← List.append_assoc]; exact r10
    have ST := Lib.hid ((STd.out.trans s9).trans s10)
    clear r9 s9 r10 s10 D0 D9 D10 RBd STd TXd Md TK M9 NZ9 T9 XT XN XK XL SUM NZ
    have m8 := M8.out
    go_wp2
    go_roundw
    case rel => exact ⟨i + 1, v10, by omega, by go_num, rfl, RB, ST⟩
    case measure => simp [intOf]; omega
   obtain rfl : i = M := by omega
   have c1 : ¬ ((i : Int) < (i : Int)) := by omega
   have RBF : Hid (RowB m wr v' (zs ++ (HD ++ TL))) := by have := RB.out; rw [List.take_of_length_le (by have := hM.out; omega)] at this; rw [Hid, ET.out]; simp only [List.append_assoc] at this ⊢; exact this
   go_upto_region 10 with (fail)
   refine lbeg (opsOf Try.f39 10) ?_
   refine lnow 0 (.bool (decide ((i : Int) < (i : Int)))) (some 50) ?_
   rw [decide_eq_false c1]
   refine ldn 1 ?_
   generalize hact : Act.put _ (some 50) _ = act
   simp only [Act.put, sA, sC, sZ] at hact
   subst hact
   have RH : HeadC m v w1 (zs ++ (HD ++ TL)) v' wr := ⟨RBF.out, ST.out⟩
   clear RB
   go_wp2
   go_meet
   case rel => exact ⟨_, rfl, RH⟩
 clear RB ST BQ2
 obtain ⟨v11, rfl, hcut⟩ := hcut
 have RB := Lib.hid hcut.row
 have ST := Lib.hid (Step.after BE.out hcut.st)
 clear hcut
 go_upto_region 14 with (fail)
 refine lbeg (opsOf Try.f39 14) ?_
 refine lnow 0 (v11) (some 61) ?_
 refine lnow 1 (v11) (some 4) ?_
 refine ldn 2 ?_
 generalize hact : Act.put _ (some 4) _ = act
 simp only [Act.put, sA, sC, sZ] at hact
 subst hact
 go_wp2
 go_ret
 exact ⟨v11, rfl, RB.out, ST.out⟩
theorem declB_len {d : Dc} (h : OkD d) (hl : LvD d) : (declB d).length ≤ 2000000 := by
 have h1 := headD_len h hl.ty
 have h2 : (if valD d then termB d.val else []).length ≤ 180000 := by
  split
  ·have h3 := h.val ‹_›
   have := termB_len d.val h3.1 hl.val
   omega
  ·simp
 have h4 : (if d.kind = 4 then [d.fixed % 256, ((d.ctors.length % 256 : Nat) : Int)] ++ ctsB d.ctors else []).length ≤ 1440330 := by
  split
  ·have hk := ‹d.kind = 4›
   have h5 := ctsB_len (cs := d.ctors) (fun c hc => ctorB_len (h.ctors hk c hc) (hl.ctors c hc))
   have h6 := h.len hk
   have h7 : 180041 * d.ctors.length ≤ 1440328 := Nat.le_trans (Nat.mul_le_mul_left _ h6) (by decide)
   simp only [List.length_append, List.length_cons, List.length_nil]
   omega
  ·simp
 rw [declB_head, List.length_append]
 unfold tailD
 rw [List.length_append]
 omega
noncomputable def declV (d : Dc) : List Int := if formB d then declB d else []
noncomputable def libOk (ds : List Dc) : Bool := decide (ds.length ≤ 64) && ds.all formB
def dsB (ds : List Dc) : List Int := (ds.map declB).flatten
noncomputable def libV (ds : List Dc) : List Int := if libOk ds then numB ds.length ++ dsB ds else []
theorem dsB_snoc (ds : List Dc) (x : Dc) : dsB (ds ++ [x]) = dsB ds ++ declB x := by simp [dsB]
theorem dsB_len : ∀ {ds : List Dc}, (∀ d ∈ ds, (declB d).length ≤ 2000000) → (dsB ds).length ≤ 2000000 * ds.length
 | [], _ => by simp [dsB]
 | d :: ds, h => by
  have h1 := h d (by simp)
  have h2 := dsB_len (ds := ds) (fun x hx => h x (by simp [hx]))
  unfold dsB at h2 ⊢
  rw [List.map_cons, List.flatten_cons, List.length_append, List.length_cons]
  omega
set_option maxHeartbeats 8000000 in
theorem Decl_walk {F : List Nat} (d : Dc) (cs : List Value) (w : World) (hd : DcAt F w d cs) (hs : SmD d) (hb : BigD d) : Calls Try.prog 18 #[.agg cs.toArray] w (GivesIf (formB d) (declV d) w) := by
 obtain ⟨q, hq⟩ : ∃ q, Hid (w.heap.size = q) := ⟨_, rfl⟩
 have C15 := Lib.hid hd.len
 have DD := Lib.hid hd
 have SD := Lib.hid hs
 have BG := Lib.hid hb
 clear hd hs hb
 obtain ⟨B, hB⟩ : ∃ b, Hid (formB d = b) := ⟨_, rfl⟩
 obtain ⟨V, hV⟩ : ∃ b, Hid (declV d = b) := ⟨_, rfl⟩
 rw [hB.out, hV.out]
 go_enter Try.func18, Try.ntmps18
 go_upto_region 0 with (fail)
 refine lbeg (opsOf Try.f18 0) ?_
 refine lbox 0 38 (.tmp 0) (cs) (q) (some 1) hq ?_
 intro w1 bw1 bew1 hsw1
 refine lnow 1 (.slice none 0 0) (some 2) ?_
 refine lnow 2 (.bool false) (some 3) ?_
 refine ldn 3 ?_
 generalize hact : Act.put _ (some 3) _ = act
 simp only [Act.put, sA, sC, sZ] at hact
 subst hact
 have BQ := Lib.hid bw1
 have BE : Hid (Below w.heap.size w w1) := by rw [Hid, hq.out]; exact bew1
 have DD1 := Lib.hid (DD.out.below BE.out)
 clear bw1 bew1 hsw1
 go_upto_region 1 with (fail)
 refine lbeg (opsOf Try.f18 1) ?_
 refine lrl 0 cs (some 4) 38 1 q 0 BQ.out.whole Try.underlying38 (dcSize C15.out) ?_
 refine lcal 1 20 #[.agg cs.toArray] (some 5) _ (Formed_walk d cs w1 DD1.out SD.out BG.out) ?_
 rintro e w2 ⟨rfl, b2⟩
 rw [hB.out]
 refine ⟨_, rfl, ?_⟩
 have BQ2 := Lib.hid (BQ.out.below b2 BQ.out.lt)
 have DD2 := Lib.hid (DD1.out.below b2)
 have BE2 := Lib.hid (BE.out.trans (b2.mono BE.out.size))
 clear b2 BQ DD1
 refine lnow 2 (.bool (!B)) (some 6) ?_
 refine ldn 3 ?_
 generalize hact : Act.put _ (some 6) _ = act
 simp only [Act.put, sA, sC, sZ] at hact
 subst hact
 cases B with
 | false =>
  obtain rfl : V = [] := by rw [← hV.out, declV, hB.out]; rfl
  go_wp2
  go_ret2
  exact ⟨_, rfl, RowB.nil _ _, BE2.out⟩
 | true =>
  obtain rfl : V = declB d := by rw [← hV.out, declV, hB.out]; rfl
  have OK := form_ok (form_iff.1 hB.out)
  have LQ : Hid (w.heap.size ≤ w2.heap.size) := BE2.out.size
  go_upto_region 3 with (fail)
  refine lbeg (opsOf Try.f18 3) ?_
  refine lrl 0 cs (some 7) 38 1 q 0 BQ2.out.whole Try.underlying38 (dcSize C15.out) ?_
  refine lcal 1 39 #[.slice none 0 0, .agg cs.toArray] (some 8) _ (appDecl_walk d cs (.slice none 0 0) [] w.heap.size w2 DD2.out OK (RowB.nil _ _) LQ.out (by simp [ownL_nil]) (by simp)) ?_
  rintro e w4 ⟨v4, rfl, r4, s4⟩
  refine ⟨_, rfl, ?_⟩
  have b4 : Below w2.heap.size w2 w4 := s4.below_of (by simp [ownL_nil]) (Nat.le_refl _)
  rw [List.nil_append] at r4
  clear s4
  refine lnow 2 (v4) (some 2) ?_
  refine lnow 3 (.bool true) (some 3) ?_
  refine ldn 4 ?_
  generalize hact : Act.put _ (some 3) _ = act
  simp only [Act.put, sA, sC, sZ] at hact
  subst hact
  have R1 := Lib.hid r4
  have B1 := Lib.hid (BE2.out.trans (b4.mono BE2.out.size))
  clear r4 b4 OK BQ2 DD2
  go_wp2
  go_ret2
  exact ⟨v4, rfl, R1.out, B1.out⟩
theorem DcsAt_lv {F : List Nat} {w : World} {ds : List Dc} {v : Value} (h : DcsAt F w ds v) : ∀ d ∈ ds, LvD d := fun d hd => by
 obtain ⟨i, hi, rfl⟩ := List.getElem_of_mem hd
 obtain ⟨a, cap, h1, h2, h3⟩ := h
 obtain ⟨pb, po, e, hF, hb, hr⟩ := h3 (by omega)
 obtain ⟨xs, g1, g2⟩ := hr i _ (List.getElem?_eq_getElem hi)
 exact g2.lv
set_option maxHeartbeats 8000000 in
theorem Library_walk {F : List Nat} (ds : List Dc) (v : Value) (w : World) (hd : DcsAt F w ds v) (hs : ∀ d ∈ ds, SmD d ∧ BigD d) (hn : ds.length ≤ 140737488351232) : Calls Try.prog 14 #[v] w (GivesIf (libOk ds) (libV ds) w) := by
 obtain ⟨da, dc, rfl⟩ := hd.slice
 obtain ⟨L, hL⟩ : ∃ L, Hid (ds.length = L) := ⟨_, rfl⟩
 rw [hL.out] at hd hn ⊢
 obtain ⟨q, hq⟩ : ∃ q, Hid (w.heap.size = q) := ⟨_, rfl⟩
 have DD := Lib.hid hd
 have SD := Lib.hid hs
 have HN := Lib.hid hn
 clear hd hs hn
 obtain ⟨B, hB⟩ : ∃ b, Hid (libOk ds = b) := ⟨_, rfl⟩
 obtain ⟨V, hV⟩ : ∃ b, Hid (libV ds = b) := ⟨_, rfl⟩
 rw [hB.out, hV.out]
 go_enter Try.func14, Try.ntmps14
 go_upto_region 0 with (fail)
 refine lbeg (opsOf Try.f14 0) ?_
 refine lnow 0 (.slice none 0 0) (some 2) ?_
 refine lnow 1 (.bool false) (some 3) ?_
 refine ldn 2 ?_
 generalize hact : Act.put _ (some 3) _ = act
 simp only [Act.put, sA, sC, sZ] at hact
 subst hact
 go_upto_region 1 with (fail)
 refine lbeg (opsOf Try.f14 1) ?_
 refine lnow 0 (.slice da L dc) (some 7) ?_
 refine lnow 1 (.int .i64 (L : Int)) (some 8) ?_
 refine lnow 2 (.bool (decide ((L : Int) > 64))) (some 9) ?_
 by_cases h64 : (L : Int) > 64
 ·skip
  rw [decide_eq_true h64]
  refine ldn 3 ?_
  generalize hact : Act.put _ (some 9) _ = act
  simp only [Act.put, sA, sC, sZ] at hact
  subst hact
  obtain rfl : B = false := by rw [← hB.out, libOk, hL.out, decide_eq_false (by omega)]; rfl
  obtain rfl : V = [] := by rw [← hV.out, libV, hB.out]; rfl
  go_wp2
  go_ret2
  exact ⟨_, rfl, RowB.nil _ _, Below.refl _ _⟩
 rw [decide_eq_false h64]
 refine ldn 3 ?_
 generalize hact : Act.put _ (some 9) _ = act
 simp only [Act.put, sA, sC, sZ] at hact
 subst hact
 have L64 : Hid (L ≤ 64) := by rw [Hid]; omega
 have EB : Hid (ds.all formB = B) := by rw [Hid, ← hB.out, libOk, hL.out, decide_eq_true L64.out, Bool.true_and]
 clear h64
 go_upto_region 3 with (fail)
 refine lbeg (opsOf Try.f14 3) ?_
 refine lnow 0 (.slice da L dc) (some 10) ?_
 refine lnow 1 (.int .i64 (L : Int)) (some 11) ?_
 refine lcal 2 31 #[.slice none 0 0, .int .i64 (L : Int)] (some 12) _ (appNum_walk L (.slice none 0 0) [] q w (RowB.nil _ _) (Nat.le_of_eq hq.out.symm) (by simp) (by have := L64.out; omega)) ?_
 rintro e w1 ⟨v1, rfl, r1, s1⟩
 refine ⟨_, rfl, ?_⟩
 rw [List.nil_append] at r1
 refine lnow 3 (v1) (some 4) ?_
 refine ldn 4 ?_
 generalize hact : Act.put _ (some 4) _ = act
 simp only [Act.put, sA, sC, sZ] at hact
 subst hact
 have RB := Lib.hid r1
 have ST : Hid (Step [] w (ownL v1) w1) := s1
 clear r1 s1
 obtain ⟨NB, hNB⟩ : ∃ y, Hid (numB L = y) := ⟨_, rfl⟩
 have NL : Hid (NB.length ≤ 9) := by rw [Hid, ← hNB.out]; exact numB_len L (by have := L64.out; omega)
 rw [hNB.out] at RB
 go_upto_region 4 with (fail)
 refine lbeg (opsOf Try.f14 4) ?_
 refine lnow 0 (.slice da L dc) (some 13) ?_
 refine lnow 1 (.int .i64 (L : Int)) (some 14) ?_
 refine lnow 2 (.int .i64 0) (some 15) ?_
 refine ldn 3 ?_
 generalize hact : Act.put _ (some 15) _ = act
 simp only [Act.put, sA, sC, sZ] at hact
 subst hact
 go_wp2
 go_loopw [4, 15] (fun vv iv wr => ∃ (i : Nat) (v' : Value), i ≤ L ∧ iv = .int .i64 (i : Int) ∧ v' = vv ∧ Hid (RowB q wr v' (NB ++ dsB (ds.take i))) ∧ Hid (Step [] w (ownL v') wr) ∧ Hid ((ds.take i).all formB = true)) (fun _ iv _ => L - (intOf iv).toNat)
 case atStart => exact ⟨0, _, Nat.zero_le _, rfl, rfl, by rw [List.take_zero, dsB, List.map_nil, List.flatten_nil, List.append_nil]; exact RB, ST, rfl⟩
 case round =>
  clear RB ST
  obtain ⟨i, v', hi, rfl, rfl, RB, ST, AL⟩ := hrel
  have MR : Hid (q ≤ wr.heap.size) := by have := ST.out.size; have := hq.out; rw [Hid]; omega
  by_cases hlt : i < L
  ·skip
   have c1 : (i : Int) < (L : Int) := by omega
   obtain ⟨x, pb, po, cx, hx, hxm, haa, hpF, hpb, hrx, htx⟩ := DD.out.get hL.out hlt
   subst haa
   have RX : Hid (wr.rangeAt pb (po + 15 * i) cx) := ST.out.range hpb (by simp) hrx
   have TX : Hid (DcAt (F ++ ownL v') wr x cx) := htx.step (ST.out.wide (by simp))
   have X15 := Lib.hid htx.len
   have X1 := Lib.hid htx.one
   have TK : Hid (ds.take (i + 1) = ds.take i ++ [x]) := by rw [Hid, List.take_add_one, hx]; rfl
   have XS := Lib.hid (SD.out x hxm)
   have XM := Lib.hid hxm
   have XLV := Lib.hid htx.lv
   clear hx hrx hpF hpb htx hxm
   go_upto_region 5 with (fail)
   refine lbeg (opsOf Try.f14 5) ?_
   refine lnow 0 (.bool (decide ((i : Int) < (L : Int)))) (some 16) ?_
   rw [decide_eq_true c1]
   refine ldn 1 ?_
   generalize hact : Act.put _ (some 16) _ = act
   simp only [Act.put, sA, sC, sZ] at hact
   subst hact
   obtain ⟨z, hz⟩ : ∃ z, Hid (wr.heap.size = z) := ⟨_, rfl⟩
   go_upto_region 6 with (fail)
   refine lbeg (opsOf Try.f14 6) ?_
   refine lix 0 (.pointer (some ⟨pb, po + 15 * i, none⟩)) (some 17) 26 13 15 (run_at_dc pb po L dc i hlt _) ?_
   refine lrl 1 cx (some 18) 38 17 pb (po + 15 * i) RX.out Try.underlying38 (dcSize X15.out) ?_
   refine lin_alloc 2 38 zD z (some 6) (by kernel_rfl) (by kernel_rfl) (by kernel_rfl) zeroDc hz ?_
   intro w3 bw3 bew3 hsw3
   refine lput 3 38 (.tmp 6) (.tmp 18) z _ zD cx bw3 (by rw [X15.out]; rfl) (dcSize X15.out) (by simpa using X1.out) ?_
   intro w4 bw4 uw4
   refine ldn 4 ?_
   generalize hact : Act.put _ none _ = act
   simp only [Act.put, sA, sC, sZ] at hact
   subst hact
   have B34 : Below wr.heap.size wr w4 := by rw [hz.out]; exact uw4.below bew3 (Nat.le_refl _) (by have := hsw3.out; omega)
   have BZ := Lib.hid bw4
   have RB4 := Lib.hid (RB.out.below B34)
   have ST4 := Lib.hid (ST.out.on B34)
   have TX4 := Lib.hid (TX.out.below B34)
   have MR4 : Hid (q ≤ w4.heap.size) := Nat.le_trans MR.out B34.size
   clear bw3 bew3 hsw3 bw4 uw4 B34 RX TX RB ST MR
   go_upto_region 7 with (fail)
   refine lbeg (opsOf Try.f14 7) ?_
   refine lrl 0 cx (some 19) 38 6 z 0 BZ.out.whole Try.underlying38 (dcSize X15.out) ?_
   refine lcal 1 20 #[.agg cx.toArray] (some 20) _ (Formed_walk x cx w4 TX4.out XS.out.1 XS.out.2) ?_
   rintro e w5 ⟨rfl, b5⟩
   obtain ⟨bf, hbf⟩ : ∃ b, Hid (formB x = b) := ⟨_, rfl⟩
   rw [hbf.out]
   refine ⟨_, rfl, ?_⟩
   have BZ5 := Lib.hid (BZ.out.below b5 BZ.out.lt)
   have RB5 := Lib.hid (RB4.out.below b5)
   have ST5 := Lib.hid (ST4.out.on b5)
   have TX5 := Lib.hid (TX4.out.below b5)
   have MR5 : Hid (q ≤ w5.heap.size) := Nat.le_trans MR4.out b5.size
   clear b5 BZ RB4 ST4 TX4 MR4 hz
   refine lnow 2 (.bool (!bf)) (some 21) ?_
   refine ldn 3 ?_
   generalize hact : Act.put _ (some 21) _ = act
   simp only [Act.put, sA, sC, sZ] at hact
   subst hact
   cases bf with
   | false =>
    obtain rfl : B = false := by rw [← EB.out]; exact List.all_eq_false.2 ⟨x, XM.out, by rw [hbf.out]; simp⟩
    obtain rfl : V = [] := by rw [← hV.out, libV, hB.out]; rfl
    have FB : Hid (Below w.heap.size w w5) := ST5.out.below
    clear TK AL hbf RB5 ST5 TX5
    go_wp2
    go_ret2
    exact ⟨_, rfl, RowB.nil _ _, FB.out⟩
   | true =>
    have XO := form_ok (form_iff.1 hbf.out)
    have AL5 : Hid ((ds.take (i + 1)).all formB = true) := by rw [Hid, TK.out, List.all_append, AL.out]; simp [hbf.out]
    have SUM : Hid ((dsB (ds.take i)).length ≤ 128000000) := by
     have e1 := dsB_len (ds := ds.take i) (fun y hy => declB_len (form_ok (form_iff.1 (List.all_eq_true.1 AL.out y hy))) (DcsAt_lv DD.out y (List.mem_of_mem_take hy)))
     rw [List.length_take] at e1
     have := L64.out
     have e3 : min i ds.length ≤ 64 := by omega
     rw [Hid]
     exact Nat.le_trans e1 (Nat.le_trans (Nat.mul_le_mul_left _ e3) (by decide))
    go_upto_region 9 with (fail)
    refine lbeg (opsOf Try.f14 9) ?_
    refine lnow 0 (v') (some 22) ?_
    refine lrl 1 cx (some 23) 38 6 z 0 BZ5.out.whole Try.underlying38 (dcSize X15.out) ?_
    refine lcal 2 39 #[v', .agg cx.toArray] (some 24) _ (appDecl_walk x cx v' (NB ++ dsB (ds.take i)) q w5 TX5.out XO RB5.out MR5.out (fun k hk => List.mem_append_right _ hk) (by have := NL.out; have := SUM.out; simp only [List.length_append]; omega)) ?_
    rintro e w6 ⟨v6, rfl, r6, s6⟩
    refine ⟨_, rfl, ?_⟩
    refine lnow 3 (v6) (some 4) ?_
    refine ldn 4 ?_
    generalize hact : Act.put _ (some 4) _ = act
    simp only [Act.put, sA, sC, sZ] at hact
    subst hact
    have RB6 : Hid (RowB q w6 v6 (NB ++ dsB (ds.take (i + 1)))) := by rw [Hid, TK.out, dsB_snoc, ← List.append_assoc]; exact r6
    have ST6 := Lib.hid (ST5.out.trans s6)
    clear r6 s6 TK AL hbf RB5 ST5 TX5 XO SUM BZ5 MR5
    have l64 := L64.out
    go_wp2
    go_roundw
    case rel => exact ⟨i + 1, v6, by omega, by go_num, rfl, RB6, ST6, AL5⟩
    case measure => simp [intOf]; omega
  obtain rfl : i = L := by omega
  have c1 : ¬ ((i : Int) < (i : Int)) := by omega
  have TA : ds.take i = ds := List.take_of_length_le (by have := hL.out; omega)
  rw [TA] at RB AL
  obtain rfl : B = true := by rw [← EB.out]; exact AL.out
  obtain rfl : V = NB ++ dsB ds := by rw [← hV.out, libV, hB.out, if_pos rfl, hL.out, hNB.out]
  have FB : Hid (Below w.heap.size w wr) := ST.out.below
  go_upto_region 5 with (fail)
  refine lbeg (opsOf Try.f14 5) ?_
  refine lnow 0 (.bool (decide ((i : Int) < (i : Int)))) (some 16) ?_
  rw [decide_eq_false c1]
  refine ldn 1 ?_
  generalize hact : Act.put _ (some 16) _ = act
  simp only [Act.put, sA, sC, sZ] at hact
  subst hact
  go_upto_region 11 with (fail)
  refine lbeg (opsOf Try.f14 11) ?_
  refine lnow 0 (v') (some 26) ?_
  refine lnow 1 (v') (some 2) ?_
  refine lnow 2 (.bool true) (some 3) ?_
  refine ldn 3 ?_
  generalize hact : Act.put _ (some 3) _ = act
  simp only [Act.put, sA, sC, sZ] at hact
  subst hact
  clear TA AL ST
  go_wp2
  go_ret2
  exact ⟨v', rfl, by rw [hq.out]; exact RB.out, FB.out⟩
end Go.Proofs.Yteohjbggicchgaa
