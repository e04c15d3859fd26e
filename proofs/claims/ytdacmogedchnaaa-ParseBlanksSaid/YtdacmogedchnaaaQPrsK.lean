/- Declarations and sources as the parser reads them. -/
import Derived.Test.YtdacmogedchnaaaQGenT
import Derived.Test.YtdacmogedchnaaaQPrsJ
import Derived.Deep.CutBlock
namespace Go.Proofs.Ytdacmogedchnaaa
open Go Go.RowKit
set_option maxRecDepth 100000
/-- A declaration's eighteen cells. -/
def dC (K : Nat → Nat) (k ps fx p : Nat) (s : List UInt8) (tc vc : List Value) (cv : Value) : List Value := [.int .i64 (k : Int), .int .i64 (ps : Int), .int .i64 (fx : Int), .int .i64 (K p : Int), sT s] ++ (tc ++ (vc ++ [cv]))
def zD18 : List Value := [.int .i64 0, .int .i64 0, .int .i64 0, .int .i64 0, sT [], .int .i64 0, .int .i64 0, .int .i64 0, sT [], .slice none 0 0, .slice none 0 0, .int .i64 0, .int .i64 0, .int .i64 0, sT [], .slice none 0 0, .slice none 0 0, .slice none 0 0]
theorem zeroDl : (Try.prog.info? 40).map (·.zero) = some (some (.agg zD18.toArray)) := by kernel_rfl
theorem zD_len : zD18.length = 18 := rfl
theorem dlSize {cs : List Value} (h : cs.length = 18) : (Try.prog.info? 40).map (·.size) = some cs.length := by
 rw [h]
 kernel_rfl
theorem infoDlY : (Try.prog.info? 40).map (fun i => (i.zero, i.size, i.bytes)) = some (some (.agg zD18.toArray), 18, 248) := by kernel_rfl
section
variable {K : Nat → Nat} {k ps fx p : Nat} {s : List UInt8} {tc vc : List Value} {cv : Value}
theorem dC_len (h1 : tc.length = 6) (h2 : vc.length = 6) : (dC K k ps fx p s tc vc cv).length = 18 := by rw [dC]; simp [h1, h2]
theorem dC_set4 (s' : List UInt8) : (dC K k ps fx p s tc vc cv).set 4 (sT s') = dC K k ps fx p s' tc vc cv := rfl
theorem dC_set1 (n : Nat) : (dC K k ps fx p s tc vc cv).set 1 (.int .i64 (n : Int)) = dC K k n fx p s tc vc cv := rfl
theorem dC_set2 (n : Nat) : (dC K k ps fx p s tc vc cv).set 2 (.int .i64 (n : Int)) = dC K k ps n p s tc vc cv := rfl
theorem dC_ty {tc' : List Value} (h1 : tc.length = 6) (h2 : tc'.length = 6) : splice (dC K k ps fx p s tc vc cv) 5 tc' = dC K k ps fx p s tc' vc cv := by
 match tc, h1, tc', h2 with
 | [_, _, _, _, _, _], _, [_, _, _, _, _, _], _ => rfl
theorem dC_val {vc' : List Value} (h0 : tc.length = 6) (h1 : vc.length = 6) (h2 : vc'.length = 6) : splice (dC K k ps fx p s tc vc cv) 11 vc' = dC K k ps fx p s tc vc' cv := by
 match tc, h0, vc, h1, vc', h2 with
 | [_, _, _, _, _, _], _, [_, _, _, _, _, _], _, [_, _, _, _, _, _], _ => rfl
theorem dC_ct {cv' : Value} (h0 : tc.length = 6) (h1 : vc.length = 6) : (dC K k ps fx p s tc vc cv).set 17 cv' = dC K k ps fx p s tc vc cv' := by
 match tc, h0, vc, h1 with
 | [_, _, _, _, _, _], _, [_, _, _, _, _, _], _ => rfl
theorem dC_kind {w : World} {z : Nat} {t : TypeId} (h : Blk w z t (dC K k ps fx p s tc vc cv)) : w.cell? ⟨z, 0, none⟩ = some (.int .i64 (k : Int)) := h.cell (j := 0) rfl
end
theorem run_dl (K : Nat → Nat) (k p : Nat) (w : World) : (Instr.build 40 #[(0, .int .i64 (k : Int)), (3, .int .i64 (K p : Int))]).run Try.prog w = .ok (.agg (dC K k 0 0 p [] z6R z6R (.slice none 0 0)).toArray) w := by kernel_rfl
def dl3 (k p : Nat) (s : List UInt8) (ps fx : Nat) (ty : Rw) (vc : Rw × List Ct) (r : List (List UInt8)) : PR Dl := (exP [59] r).bind fun _ r => .ok ⟨k, ps, fx, p, s, ty, vc.1, vc.2⟩ r
def dl2 (k p : Nat) (s : List UInt8) (ps fx : Nat) (r : List (List UInt8)) : PR Dl := (exP [58] r).bind fun _ r => (wholeP r).bind fun ty r => (valP k r).bind fun vc r => dl3 k p s ps fx ty vc r
def dl1 (k p : Nat) (s : List UInt8) (ps : Nat) (r : List (List UInt8)) : PR Dl := (fixP k r).bind fun fx r => dl2 k p s ps fx r
theorem declQ_eq (l : List (List UInt8)) : declQ l = if kindOf (nx l) = 0 then .err l.length 10 else (namP l.tail).bind fun s r => (parsP r).bind fun ps r => dl1 (kindOf (nx l)) l.length s ps r := rfl
theorem accept_any (K : Nat → Nat) (q : Nat) (w : World) (l : List (List UInt8)) (h : PAt K q w l) (s : List UInt8) (h0 : s ≠ []) : Calls Try.prog 50 #[.pointer (some ⟨q, 0, none⟩), sT s] w fun e w' => e = .returned (.bool (decide (nx l = s))) ∧ Bel [q] w.heap.size w w' ∧ PAt K q w' (if nx l = s then l.tail else l) := by
 by_cases hs : nx l = s
 ·refine (accept_yes K q w l h s hs h0).mono ?_
  rintro e w' ⟨rfl, h1, h2⟩
  exact ⟨by rw [decide_eq_true hs], h1, by rw [if_pos hs]; exact h2⟩
 ·refine (accept_no K q w l h s hs).mono ?_
  rintro e w' ⟨rfl, rfl⟩
  exact ⟨by rw [decide_eq_false hs], Bel.refl _ _ _, by rw [if_neg hs]; exact h⟩
def RDl (K : Nat → Nat) (d : Dl) (v : Value) (w w' : World) : Prop := ∃ cs, v = .agg cs.toArray ∧ DlAt K (List.range w.heap.size) w' d cs
theorem DlAt.fin {K : Nat → Nat} {B : Nat} {w w' : World} {c : Dl} {cs : List Value} (h : DlAt K (List.range (B + 1)) w c cs) (hu : Upd B w w') : DlAt K (List.range B) w' c cs := (dlG K).sub (fun k hk => .inl (List.mem_range.2 (by have := List.mem_range.1 hk; omega))) _ _ ((dlG K).step (Step.of_upd hu (List.mem_range.2 (Nat.lt_succ_self B))) _ _ h)
/-- Where decl stands: the result's block B, the declaration's block z. -/
structure DSt (K : Nat → Nat) (q B z : Nat) (w0 w : World) (l : List (List UInt8)) (cs : List Value) : Prop where
 rd : PAt K q w l
 bb : Bel [q] B w0 w
 br : Blk w B 40 zD18
 bx : Blk w z 40 cs
theorem sizeStrP : (Try.prog.info? 9).map (·.size) = some 1 := by kernel_rfl
theorem sizeCtsP : (Try.prog.info? 38).map (·.size) = some 1 := by kernel_rfl
theorem run_dls (k ps fx p : Int) (s : ByteArray) (k1 n1 p1 : Int) (s1 : ByteArray) (la1 aa1 : Option Addr) (L1 lc1 N1 ac1 : Nat) (k2 n2 p2 : Int) (s2 : ByteArray) (la2 aa2 : Option Addr) (L2 lc2 N2 ac2 : Nat) (ca : Option Addr) (C cc : Nat) (w : World) :
    (Instr.buildSlice 27 1 #[(0, .agg ([.int .i64 k, .int .i64 ps, .int .i64 fx, .int .i64 p, .string s, .int .i64 k1, .int .i64 n1, .int .i64 p1, .string s1, .slice la1 L1 lc1, .slice aa1 N1 ac1, .int .i64 k2, .int .i64 n2, .int .i64 p2, .string s2, .slice la2 L2 lc2, .slice aa2 N2 ac2, .slice ca C cc] : List Value).toArray)]).run Try.prog w = .ok (.slice (some ⟨w.heap.size, 0, none⟩) 1 1) (w.alloc (.cells ([.int .i64 k, .int .i64 ps, .int .i64 fx, .int .i64 p, .string s, .int .i64 k1, .int .i64 n1, .int .i64 p1, .string s1, .slice la1 L1 lc1, .slice aa1 N1 ac1, .int .i64 k2, .int .i64 n2, .int .i64 p2, .string s2, .slice la2 L2 lc2, .slice aa2 N2 ac2, .slice ca C cc] : List Value).toArray 40)) := by kernel_rfl
theorem run_dl1 {K : Nat → Nat} {F : List Nat} {w : World} {d : Dl} {cs : List Value} (h : DlAt K F w d cs) (w' : World) : (Instr.buildSlice 27 1 #[(0, .agg cs.toArray)]).run Try.prog w' = .ok (.slice (some ⟨w'.heap.size, 0, none⟩) 1 1) (w'.alloc (.cells cs.toArray 40)) := by
 obtain ⟨tc, vc, cv, rfl, h1, h2, h3⟩ := h
 obtain ⟨_, _, _, _, _, _, _, _, _, _, rfl⟩ := h1.form
 obtain ⟨_, _, _, _, _, _, _, _, _, _, rfl⟩ := h2.form
 obtain ⟨_, _, rfl⟩ := h3.slice
 exact run_dls _ _ _ _ _ _ _ _ _ _ _ _ _ _ _ _ _ _ _ _ _ _ _ _ _ _ _ _ _
abbrev DlRow (K : Nat → Nat) (m : Nat) (w : World) (v : Value) (ds : List Dl) : Prop := RowG (DlAt K) 18 40 m w v ds
section
variable {K : Nat → Nat} {m q : Nat} {w w' : World} {v : Value} {xs : List Dl}
theorem DlRow.call (h : DlRow K m w v xs) (hb : Bel [q] w.heap.size w w') (hq : q < m) : DlRow K m w' v xs := RowG.call (dlG K) h hb hq
theorem DlRow.sl (h : DlRow K m w v xs) : ∃ a c, v = .slice a xs.length c := (RowG.in (dlG K) h).slice
end
def RDls (K : Nat → Nat) (ds : List Dl) (v : Value) (w w' : World) : Prop := SlG (DlAt K) 18 (List.range w.heap.size) w' v ds
theorem ctsl_call {K : Nat → Nat} {m q : Nat} {w w' : World} {v : Value} {xs : List Ct} (h : SlG (CtAt K) 8 (List.range m) w v xs) (hb : Bel [q] w.heap.size w w') (hq : q < m) : SlG (CtAt K) 8 (List.range m) w' v xs := h.step (ctG K) (hb.one hq)
theorem ctsl_upd {K : Nat → Nat} {m b : Nat} {w w' : World} {v : Value} {xs : List Ct} (h : SlG (CtAt K) 8 (List.range m) w v xs) (hu : Upd b w w') (hb : b < m) : SlG (CtAt K) 8 (List.range m) w' v xs := h.step (ctG K) (Step.of_upd hu (List.mem_range.2 hb))
set_option maxHeartbeats 16000000 in
theorem decl_walkY (K : Nat → Nat) (q : Nat) (w : World) (l : List (List UInt8)) (h : PAt K q w l) : Calls Try.prog 36 #[.pointer (some ⟨q, 0, none⟩)] w (PP K q (declQ l) (RDl K) w) := by
 obtain ⟨oo, hoo⟩ : ∃ oo, Hid (declQ l = oo) := ⟨_, rfl⟩
 rw [hoo.out]
 have EQ := hoo
 clear hoo
 rw [declQ_eq] at EQ
 obtain ⟨B, hB⟩ : ∃ B, Hid (w.heap.size = B) := ⟨_, rfl⟩
 have RD := Lib.hid h
 have QB : Hid (q < B) := by rw [← hB.out]; exact h.lt
 have BB : Hid (Bel [q] B w w) := Bel.refl _ _ _
 have SZ : Hid (B ≤ w.heap.size) := by rw [Hid, hB.out]; exact Nat.le_refl _
 clear h
 go_enter Try.func36, Try.ntmps36
 go_upto_region 0 with (fail)
 refine lbeg (opsOf Try.f36 0) ?_
 refine lin_alloc 0 40 (zD18) (B) (some 2) (by kernel_rfl) (by kernel_rfl) (by kernel_rfl) zeroDl hB ?_
 intro w1 bx ex sx
 replace RD := Lib.hid (RD.out.below ex QB.out)
 replace BB : Hid (Bel [q] B w w1) := Bel.of ex
 replace SZ : Hid (B ≤ w1.heap.size) := Nat.le_of_lt bx.lt
 have BR := Lib.hid bx
 clear bx ex sx
 refine ldn 1 ?_
 generalize hact : Act.put _ (some 2) _ = act
 simp only [Act.put, sA, sC, sZ] at hact
 subst hact
 go_upto_region 1 with (fail)
 refine lbeg (opsOf Try.f36 1) ?_
 refine lnow 0 (.pointer (some ⟨q, 0, none⟩)) (some 4) ?_
 refine lcal 1 39 #[.pointer (some ⟨q, 0, none⟩)] (some 5) _ (text_walk K q w1 l RD.out) ?_
 rintro e w' ⟨rfl, hw'⟩
 obtain rfl := hw'.symm
 refine ⟨_, rfl, ?_⟩
 refine lcal 2 47 #[sT (nx l)] (some 6) _ (declkind_walk (nx l) w1) ?_
 rintro e w' ⟨rfl, hw'⟩
 obtain rfl := hw'.symm
 refine ⟨_, rfl, ?_⟩
 refine lnow 3 (.pointer (some ⟨q, 0, none⟩)) (some 7) ?_
 refine lcal 4 35 #[.pointer (some ⟨q, 0, none⟩)] (some 8) _ (at_walk K q w1 l RD.out) ?_
 rintro e w' ⟨rfl, hw'⟩
 obtain rfl := hw'.symm
 refine ⟨_, rfl, ?_⟩
 obtain ⟨kd, hkd⟩ : ∃ y, Hid (kindOf (nx l) = y) := ⟨_, rfl⟩
 rw [hkd.out] at EQ ⊢
 obtain ⟨pp, hpp⟩ : ∃ y, Hid (l.length = y) := ⟨_, rfl⟩
 rw [hpp.out] at EQ ⊢
 refine lnowP 5 (.agg (dC K kd 0 0 pp [] z6R z6R (.slice none 0 0)).toArray) (some 9) (exec_of (Instr.build 40 #[(0, .int .i64 (kd : Int)), (3, .int .i64 (K pp : Int))]) _ (by kernel_rfl) (run_dl K kd pp _)) ?_
 obtain ⟨z, hz⟩ : ∃ z, Hid (w1.heap.size = z) := ⟨_, rfl⟩
 have oz : Hid (B ≤ z) := by rw [Hid, ← hz.out]; exact SZ.out
 have ozBR : Hid (B < z) := by rw [Hid, ← hz.out]; exact BR.out.lt
 refine lin_alloc 6 40 (zD18) (z) (some 3) (by kernel_rfl) (by kernel_rfl) (by kernel_rfl) zeroDl hz ?_
 intro w2 ba ea sa
 refine lput 7 40 (.tmp 3) (.tmp 9) (z) _ (zD18) (dC K kd 0 0 pp [] z6R z6R (.slice none 0 0)) ba (rfl) (dlSize rfl) (by simpa using (by intro u hu; simp only [dC, z6R, List.cons_append, List.nil_append, List.mem_cons, List.not_mem_nil, or_false] at hu; rcases hu with rfl | rfl | rfl | rfl | rfl | rfl | rfl | rfl | rfl | rfl | rfl | rfl | rfl | rfl | rfl | rfl | rfl | rfl <;> rfl : ∀ u ∈ (dC K kd 0 0 pp [] z6R z6R (.slice none 0 0)), u.oneCell' = true)) ?_
 intro w3 bb ub
 have eb : Below z w1 w3 := ub.below ea (Nat.le_refl _) (by have := ba.lt; omega)
 have BX := Lib.hid bb
 rw [← hz.out] at eb
 replace BR := Lib.hid (BR.out.below eb BR.out.lt)
 replace RD := Lib.hid (RD.out.below eb RD.out.lt)
 replace BB := Lib.hid (BB.out.trans (Bel.of (eb.mono SZ.out)))
 replace SZ := Lib.hid (Nat.le_trans SZ.out eb.size)
 clear ba ea sa bb ub eb hz
 refine ldn 8 ?_
 generalize hact : Act.put _ none _ = act
 simp only [Act.put, sA, sC, sZ] at hact
 subst hact
 have ZB := Lib.hid ozBR.out
 clear oz ozBR
 go_upto_region 2 with (fail)
 refine lbeg (opsOf Try.f36 2) ?_
 refine lnow 0 (.pointer (some ⟨q, 0, none⟩)) (some 10) ?_
 refine lnow 1 (.pointer (some ⟨z, 0, none⟩)) (some 11) ?_
 refine lcl 2 (.int .i64 (kd : Int)) (some 12) 3 11 z 0 (dC_kind BX.out) Try.underlying3 ?_
 refine lnow 3 (.bool (decide ((kd : Int) > 0))) (some 13) ?_
 by_cases hk0 : kd = 0
 ·skip
  rw [if_pos hk0, ← hpp.out] at EQ
  rw [decide_eq_false (by omega : ¬ (kd : Int) > 0)]
  refine lin_callP 4 22 #[.pointer (some ⟨q, 0, none⟩), .bool false] (some 14) _ (by kernel_rfl) (by kernel_rfl) (by kernel_rfl) (need_noP K q w3 l RD.out) ?_
  rintro e w' ⟨rfl, hw'⟩
  obtain rfl := hw'.symm
  exact .inr ⟨_, rfl, rfl, PP.no (by rw [hB.out]; exact BB.out) EQ.out⟩
 rw [if_neg hk0] at EQ
 rw [decide_eq_true (by omega : (kd : Int) > 0)]
 refine lcal 4 22 #[.pointer (some ⟨q, 0, none⟩), .bool true] (some 14) _ (need_yesP q w3) ?_
 rintro e w' ⟨rfl, hw'⟩
 obtain rfl := hw'.symm
 refine ⟨_, rfl, ?_⟩
 refine ldn 5 ?_
 generalize hact : Act.put _ (some 14) _ = act
 simp only [Act.put, sA, sC, sZ] at hact
 subst hact
 obtain ⟨l1, hl1⟩ : ∃ y, Hid (l.tail = y) := ⟨_, rfl⟩
 rw [hl1.out] at EQ
 obtain ⟨s0, hs0⟩ : ∃ s, Hid (l = s :: l1) := by obtain ⟨s, r, e⟩ := RD.out.nx_ne (kind_ne (by rw [hkd.out]; exact hk0)); exact ⟨s, by rw [Hid, ← hl1.out, e]; rfl⟩
 go_upto_region 3 with (fail)
 refine lbeg (opsOf Try.f36 3) ?_
 refine lnow 0 (.pointer (some ⟨q, 0, none⟩)) (some 15) ?_
 refine lcal 1 48 #[.pointer (some ⟨q, 0, none⟩)] (some 16) _ (take_walk K q w3 s0 l1 (by rw [← hs0.out]; exact RD.out)) ?_
 rintro e w4 ⟨rfl, hp, hu2⟩
 refine ⟨_, rfl, ?_⟩
 have hb : Bel [q] w3.heap.size w3 w4 := (Bel.refl _ _ _).upd hu2 (.inl (by simp)) (Nat.le_refl _)
 clear hu2
 replace BR := Lib.hid (bel_keep hb BR.out (by have := QB.out; have := ZB.out; omega) BR.out.lt)
 replace BX := Lib.hid (bel_keep hb BX.out (by have := QB.out; have := ZB.out; omega) BX.out.lt)
 replace BB := Lib.hid (BB.out.trans (hb.mono SZ.out))
 replace SZ := Lib.hid (Nat.le_trans SZ.out hb.size)
 replace RD := Lib.hid hp
 clear hb hp
 refine ldn 2 ?_
 generalize hact : Act.put _ (some 16) _ = act
 simp only [Act.put, sA, sC, sZ] at hact
 subst hact
 clear hs0 hl1 hpp hkd
 go_upto_region 4 with (fail)
 refine lbeg (opsOf Try.f36 4) ?_
 refine lnow 0 (.pointer (some ⟨q, 0, none⟩)) (some 17) ?_
 refine lin_callPP 1 49 #[.pointer (some ⟨q, 0, none⟩)] (some 18) (by kernel_rfl) (by kernel_rfl) (by kernel_rfl) (name_walk K q w4 l1 RD.out) EQ (fun p c w' hb ho => ⟨rfl, PP.no (by rw [hB.out]; exact BB.out.trans (hb.mono SZ.out)) ho⟩) ?_
 intro s l6 vv w5 hx EQ1 hb hv hp
 replace EQ := EQ1
 clear EQ1
 obtain rfl : vv = sT s := hv
 clear hx
 replace BR := Lib.hid (bel_keep hb BR.out (by have := QB.out; have := ZB.out; omega) BR.out.lt)
 replace BX := Lib.hid (bel_keep hb BX.out (by have := QB.out; have := ZB.out; omega) BX.out.lt)
 replace BB := Lib.hid (BB.out.trans (hb.mono SZ.out))
 replace SZ := Lib.hid (Nat.le_trans SZ.out hb.size)
 replace RD := Lib.hid hp
 clear hb hp
 refine lnow 2 (.pointer (some ⟨z, 4, none⟩)) (some 19) ?_
 refine lin_putF 3 4 9 (.tmp 19) (.tmp 18) z 40 (dC K kd 0 0 pp [] z6R z6R (.slice none 0 0)) (sT s) (by kernel_rfl) (by kernel_rfl) (by kernel_rfl) (by kernel_rfl) (by kernel_rfl) BX.out (by rw [dC_len rfl rfl]; decide) sizeStrP rfl rfl ?_
 intro w7 b9 u9
 rw [dC_set4] at b9
 refine ldn 4 ?_
 generalize hact : Act.put _ none _ = act
 simp only [Act.put, sA, sC, sZ] at hact
 subst hact
 replace RD := Lib.hid (RD.out.upd u9 (by have := QB.out; have := ZB.out; omega))
 replace BB : Hid (Bel [q] B w w7) := BB.out.newBlk u9 (Nat.le_of_lt ZB.out) SZ.out
 replace SZ : Hid (B ≤ w7.heap.size) := Nat.le_trans SZ.out u9.size
 replace BR := Lib.hid (u9.blk BR.out (by have := ZB.out; omega))
 replace BX := Lib.hid b9
 clear u9 b9
 go_upto_region 5 with (fail)
 refine lbeg (opsOf Try.f36 5) ?_
 refine lnow 0 (.pointer (some ⟨q, 0, none⟩)) (some 20) ?_
 refine lcal 1 50 #[.pointer (some ⟨q, 0, none⟩), sT [64]] (some 21) _ (accept_any K q w7 l6 RD.out [64] (by decide)) ?_
 rintro e w8 ⟨rfl, hb, hp⟩
 refine ⟨_, rfl, ?_⟩
 replace BR := Lib.hid (bel_keep hb BR.out (by have := QB.out; have := ZB.out; omega) BR.out.lt)
 replace BX := Lib.hid (bel_keep hb BX.out (by have := QB.out; have := ZB.out; omega) BX.out.lt)
 replace BB := Lib.hid (BB.out.trans (hb.mono SZ.out))
 replace SZ := Lib.hid (Nat.le_trans SZ.out hb.size)
 replace RD := Lib.hid hp
 clear hb hp
 refine ldn 2 ?_
 generalize hact : Act.put _ (some 21) _ = act
 simp only [Act.put, sA, sC, sZ] at hact
 subst hact
 go_upto_if 21 with (fail)
 go_cut [] from 21 (fun wc => ∃ (ps : Nat) (l5 : List (List UInt8)), Hid (dl1 kd pp s ps l5 = oo) ∧ Hid (DSt K q B z w wc l5 (dC K kd ps 0 pp s z6R z6R (.slice none 0 0))))
 case first =>
  by_cases c : nx l6 = [64]
  rotate_left
  ·skip
   rw [if_neg c] at RD
   rw [parsP, if_neg c, PR.bind_ok] at EQ
   rw [decide_eq_false c]
   have RH : Hid (DSt K q B z w w8 _ _) := ⟨RD.out, BB.out, BR.out, BX.out⟩
   go_wp2
   go_meet
   case rel => exact ⟨0, l6, EQ, RH⟩
  rw [if_pos c] at RD
  rw [parsP, if_pos c] at EQ
  rw [decide_eq_true c]
  obtain ⟨lx, hlx⟩ : ∃ y, Hid (l6.tail = y) := ⟨_, rfl⟩
  rw [hlx.out] at EQ RD
  go_upto_region 6 with (fail)
  refine lbeg (opsOf Try.f36 6) ?_
  refine lnow 0 (.pointer (some ⟨q, 0, none⟩)) (some 22) ?_
  refine lin_callPP 1 51 #[.pointer (some ⟨q, 0, none⟩), .int .i64 4] (some 23) (by kernel_rfl) (by kernel_rfl) (by kernel_rfl) (numto_walk K q w8 lx RD.out 4) EQ (fun p c w' hb ho => ⟨rfl, PP.no (by rw [hB.out]; exact BB.out.trans (hb.mono SZ.out)) ho⟩) ?_
  intro x l10 vv w9 hx EQ1 hb hv hp
  replace EQ := EQ1
  clear EQ1
  obtain rfl : vv = .int .i64 (x : Int) := hv
  clear hx
  replace BR := Lib.hid (bel_keep hb BR.out (by have := QB.out; have := ZB.out; omega) BR.out.lt)
  replace BX := Lib.hid (bel_keep hb BX.out (by have := QB.out; have := ZB.out; omega) BX.out.lt)
  replace BB := Lib.hid (BB.out.trans (hb.mono SZ.out))
  replace SZ := Lib.hid (Nat.le_trans SZ.out hb.size)
  replace RD := Lib.hid hp
  clear hb hp
  refine lnow 2 (.pointer (some ⟨z, 1, none⟩)) (some 24) ?_
  refine lin_putF 3 1 3 (.tmp 24) (.tmp 23) z 40 (dC K kd 0 0 pp s z6R z6R (.slice none 0 0)) (.int .i64 (x : Int)) (by kernel_rfl) (by kernel_rfl) (by kernel_rfl) (by kernel_rfl) (by kernel_rfl) BX.out (by rw [dC_len rfl rfl]; decide) sizeIntP rfl rfl ?_
  intro w11 b9 u9
  rw [dC_set1] at b9
  refine ldn 4 ?_
  generalize hact : Act.put _ none _ = act
  simp only [Act.put, sA, sC, sZ] at hact
  subst hact
  replace RD := Lib.hid (RD.out.upd u9 (by have := QB.out; have := ZB.out; omega))
  replace BB : Hid (Bel [q] B w w11) := BB.out.newBlk u9 (Nat.le_of_lt ZB.out) SZ.out
  replace SZ : Hid (B ≤ w11.heap.size) := Nat.le_trans SZ.out u9.size
  replace BR := Lib.hid (u9.blk BR.out (by have := ZB.out; omega))
  replace BX := Lib.hid b9
  clear u9 b9
  have RH : Hid (DSt K q B z w w11 _ _) := ⟨RD.out, BB.out, BR.out, BX.out⟩
  go_wp2
  go_meet
  case rel => exact ⟨x, l10, EQ, RH⟩
 clear EQ RD BB SZ BR BX
 obtain ⟨ps, l5, EQ, hst⟩ := hcut
 have RD := Lib.hid hst.out.rd
 have BB := Lib.hid hst.out.bb
 have BR := Lib.hid hst.out.br
 have BX := Lib.hid hst.out.bx
 have SZ : Hid (B ≤ wc.heap.size) := Nat.le_of_lt BR.out.lt
 clear hst
 unfold dl1 at EQ
 obtain ⟨wd, hwd⟩ : ∃ y, Hid (wc = y) := ⟨_, rfl⟩
 rw [hwd.out] at RD BB BR BX SZ ⊢
 clear hwd
 go_upto_region 7 with (fail)
 refine lbeg (opsOf Try.f36 7) ?_
 refine lnow 0 (.pointer (some ⟨z, 0, none⟩)) (some 25) ?_
 refine lcl 1 (.int .i64 (kd : Int)) (some 26) 3 25 z 0 (dC_kind BX.out) Try.underlying3 ?_
 refine lnow 2 (.bool (decide ((kd : Int) = 4))) (some 27) ?_
 refine ldn 3 ?_
 generalize hact : Act.put _ (some 27) _ = act
 simp only [Act.put, sA, sC, sZ] at hact
 subst hact
 go_upto_if 27 with (fail)
 go_cut [] from 27 (fun wc => ∃ (fx : Nat) (l6 : List (List UInt8)), Hid (dl2 kd pp s ps fx l6 = oo) ∧ Hid (DSt K q B z w wc l6 (dC K kd ps fx pp s z6R z6R (.slice none 0 0))))
 case first =>
  by_cases c : kd = 4
  rotate_left
  ·skip
   rw [fixP, if_neg c, PR.bind_ok] at EQ
   rw [decide_eq_false (by omega : ¬ (kd : Int) = 4)]
   have RH : Hid (DSt K q B z w wd _ _) := ⟨RD.out, BB.out, BR.out, BX.out⟩
   go_wp2
   go_meet
   case rel => exact ⟨0, l5, EQ, RH⟩
  rw [fixP, if_pos c, bind_assoc] at EQ
  rw [decide_eq_true (by omega : (kd : Int) = 4)]
  clear c
  go_upto_region 8 with (fail)
  refine lbeg (opsOf Try.f36 8) ?_
  refine lnow 0 (.pointer (some ⟨q, 0, none⟩)) (some 28) ?_
  refine lin_callPP 1 52 #[.pointer (some ⟨q, 0, none⟩), sT [111, 102]] (some 29) (by kernel_rfl) (by kernel_rfl) (by kernel_rfl) (expect_walk K q wd l5 RD.out [111, 102] (by decide)) EQ (fun p c w' hb ho => ⟨rfl, PP.no (by rw [hB.out]; exact BB.out.trans (hb.mono SZ.out)) ho⟩) ?_
  intro x l10 vv w9 hx EQ1 hb hv hp
  replace EQ := EQ1
  clear EQ1
  obtain rfl : vv = .tuple #[] := hv
  clear hx x
  replace BR := Lib.hid (bel_keep hb BR.out (by have := QB.out; have := ZB.out; omega) BR.out.lt)
  replace BX := Lib.hid (bel_keep hb BX.out (by have := QB.out; have := ZB.out; omega) BX.out.lt)
  replace BB := Lib.hid (BB.out.trans (hb.mono SZ.out))
  replace SZ := Lib.hid (Nat.le_trans SZ.out hb.size)
  replace RD := Lib.hid hp
  clear hb hp
  refine ldn 2 ?_
  generalize hact : Act.put _ (some 29) _ = act
  simp only [Act.put, sA, sC, sZ] at hact
  subst hact
  go_upto_region 9 with (fail)
  refine lbeg (opsOf Try.f36 9) ?_
  refine lnow 0 (.pointer (some ⟨q, 0, none⟩)) (some 30) ?_
  refine lin_callPP 1 51 #[.pointer (some ⟨q, 0, none⟩), .int .i64 16] (some 31) (by kernel_rfl) (by kernel_rfl) (by kernel_rfl) (numto_walk K q w9 l10 RD.out 16) EQ (fun p c w' hb ho => ⟨rfl, PP.no (by rw [hB.out]; exact BB.out.trans (hb.mono SZ.out)) ho⟩) ?_
  intro x l12 vv w11 hx EQ1 hb hv hp
  replace EQ := EQ1
  clear EQ1
  obtain rfl : vv = .int .i64 (x : Int) := hv
  clear hx
  replace BR := Lib.hid (bel_keep hb BR.out (by have := QB.out; have := ZB.out; omega) BR.out.lt)
  replace BX := Lib.hid (bel_keep hb BX.out (by have := QB.out; have := ZB.out; omega) BX.out.lt)
  replace BB := Lib.hid (BB.out.trans (hb.mono SZ.out))
  replace SZ := Lib.hid (Nat.le_trans SZ.out hb.size)
  replace RD := Lib.hid hp
  clear hb hp
  refine lnow 2 (.pointer (some ⟨z, 2, none⟩)) (some 32) ?_
  refine lin_putF 3 2 3 (.tmp 32) (.tmp 31) z 40 (dC K kd ps 0 pp s z6R z6R (.slice none 0 0)) (.int .i64 (x : Int)) (by kernel_rfl) (by kernel_rfl) (by kernel_rfl) (by kernel_rfl) (by kernel_rfl) BX.out (by rw [dC_len rfl rfl]; decide) sizeIntP rfl rfl ?_
  intro w13 b9 u9
  rw [dC_set2] at b9
  refine ldn 4 ?_
  generalize hact : Act.put _ none _ = act
  simp only [Act.put, sA, sC, sZ] at hact
  subst hact
  replace RD := Lib.hid (RD.out.upd u9 (by have := QB.out; have := ZB.out; omega))
  replace BB : Hid (Bel [q] B w w13) := BB.out.newBlk u9 (Nat.le_of_lt ZB.out) SZ.out
  replace SZ : Hid (B ≤ w13.heap.size) := Nat.le_trans SZ.out u9.size
  replace BR := Lib.hid (u9.blk BR.out (by have := ZB.out; omega))
  replace BX := Lib.hid b9
  clear u9 b9
  have RH : Hid (DSt K q B z w w13 _ _) := ⟨RD.out, BB.out, BR.out, BX.out⟩
  go_wp2
  go_meet
  case rel => exact ⟨x, l12, EQ, RH⟩
 clear EQ RD BB SZ BR BX
 obtain ⟨fx, l6, EQ, hst⟩ := hcut
 have RD := Lib.hid hst.out.rd
 have BB := Lib.hid hst.out.bb
 have BR := Lib.hid hst.out.br
 have BX := Lib.hid hst.out.bx
 have SZ : Hid (B ≤ wc.heap.size) := Nat.le_of_lt BR.out.lt
 clear hst
 unfold dl2 at EQ
 obtain ⟨we, hwe⟩ : ∃ y, Hid (wc = y) := ⟨_, rfl⟩
 rw [hwe.out] at RD BB BR BX SZ ⊢
 clear hwe
 go_upto_region 10 with (fail)
 refine lbeg (opsOf Try.f36 10) ?_
 refine lnow 0 (.pointer (some ⟨q, 0, none⟩)) (some 33) ?_
 refine lin_callPP 1 52 #[.pointer (some ⟨q, 0, none⟩), sT [58]] (some 34) (by kernel_rfl) (by kernel_rfl) (by kernel_rfl) (expect_walk K q we l6 RD.out [58] (by decide)) EQ (fun p c w' hb ho => ⟨rfl, PP.no (by rw [hB.out]; exact BB.out.trans (hb.mono SZ.out)) ho⟩) ?_
 intro x l10 vv w9 hx EQ1 hb hv hp
 replace EQ := EQ1
 clear EQ1
 obtain rfl : vv = .tuple #[] := hv
 clear hx x
 replace BR := Lib.hid (bel_keep hb BR.out (by have := QB.out; have := ZB.out; omega) BR.out.lt)
 replace BX := Lib.hid (bel_keep hb BX.out (by have := QB.out; have := ZB.out; omega) BX.out.lt)
 replace BB := Lib.hid (BB.out.trans (hb.mono SZ.out))
 replace SZ := Lib.hid (Nat.le_trans SZ.out hb.size)
 replace RD := Lib.hid hp
 clear hb hp
 refine ldn 2 ?_
 generalize hact : Act.put _ (some 34) _ = act
 simp only [Act.put, sA, sC, sZ] at hact
 subst hact
 go_upto_region 11 with (fail)
 refine lbeg (opsOf Try.f36 11) ?_
 refine lnow 0 (.pointer (some ⟨q, 0, none⟩)) (some 35) ?_
 refine lin_callPP 1 21 #[.pointer (some ⟨q, 0, none⟩)] (some 36) (by kernel_rfl) (by kernel_rfl) (by kernel_rfl) (whole_walk K q w9 l10 RD.out) EQ (fun p c w' hb ho => ⟨rfl, PP.no (by rw [hB.out]; exact BB.out.trans (hb.mono SZ.out)) ho⟩) ?_
 intro ty l12 vv w11 hx EQ1 hb hv hp
 replace EQ := EQ1
 clear EQ1
 obtain ⟨ct, rfl, hct⟩ := hv
 have TT := Lib.hid (hct.range (BX.out.lt : z + 1 ≤ _))
 clear hct hx
 replace BR := Lib.hid (bel_keep hb BR.out (by have := QB.out; have := ZB.out; omega) BR.out.lt)
 replace BX := Lib.hid (bel_keep hb BX.out (by have := QB.out; have := ZB.out; omega) BX.out.lt)
 replace BB := Lib.hid (BB.out.trans (hb.mono SZ.out))
 replace SZ := Lib.hid (Nat.le_trans SZ.out hb.size)
 replace RD := Lib.hid hp
 clear hb hp
 refine lnow 2 (.pointer (some ⟨z, 5, none⟩)) (some 37) ?_
 refine lin_putM 3 5 33 (.tmp 37) (.tmp 36) z 40 (dC K kd ps fx pp s z6R z6R (.slice none 0 0)) (ct) (by kernel_rfl) (by kernel_rfl) (by kernel_rfl) (by kernel_rfl) (by kernel_rfl) BX.out (by rw [dC_len rfl rfl, TT.out.len]; decide) (rwSize TT.out.len) (by simpa using TT.out.one) ?_
 intro w13 b9 u9
 rw [dC_ty rfl TT.out.len] at b9
 refine ldn 4 ?_
 generalize hact : Act.put _ none _ = act
 simp only [Act.put, sA, sC, sZ] at hact
 subst hact
 replace RD := Lib.hid (RD.out.upd u9 (by have := QB.out; have := ZB.out; omega))
 replace BB : Hid (Bel [q] B w w13) := BB.out.newBlk u9 (Nat.le_of_lt ZB.out) SZ.out
 replace SZ : Hid (B ≤ w13.heap.size) := Nat.le_trans SZ.out u9.size
 replace BR := Lib.hid (u9.blk BR.out (by have := ZB.out; omega))
 replace BX := Lib.hid b9
 replace TT := Lib.hid (TT.out.updS u9 (Nat.lt_succ_self z))
 clear u9 b9
 have T6 := Lib.hid TT.out.len
 go_upto_region 12 with (fail)
 refine lbeg (opsOf Try.f36 12) ?_
 refine lnow 0 (.pointer (some ⟨z, 0, none⟩)) (some 38) ?_
 refine lcl 1 (.int .i64 (kd : Int)) (some 39) 3 38 z 0 (dC_kind BX.out) Try.underlying3 ?_
 refine ldn 2 ?_
 generalize hact : Act.put _ (some 39) _ = act
 simp only [Act.put, sA, sC, sZ] at hact
 subst hact
 go_upto_block 0 with (fail)
 go_cut [] from 40 (fun wc => ∃ (vc : Rw × List Ct) (l7 : List (List UInt8)) (vcs : List Value) (cv : Value), Hid (dl3 kd pp s ps fx ty vc l7 = oo) ∧ Hid (DSt K q B z w wc l7 (dC K kd ps fx pp s ct vcs (cv))) ∧ Hid (RwAt K (List.range (z + 1)) wc ty ct) ∧ Hid (RwAt K (List.range (z + 1)) wc vc.1 vcs) ∧ Hid (SlG (CtAt K) 8 (List.range (z + 1)) wc cv vc.2))
 case first =>
  by_cases k2 : kd = 2
  ·skip
   rw [valP, if_pos (.inl k2), bind_assoc] at EQ
   simp only [bind_assoc, PR.bind_ok] at EQ
   replace k2 := Lib.hid k2
   go_upto_region 13 with (fail)
   refine lbeg (opsOf Try.f36 13) ?_
   refine lnow 0 (.bool (decide ((kd : Int) = 2))) (some 41) ?_
   rw [decide_eq_true (by have := k2.out; omega : (kd : Int) = 2)]
   refine lnow 1 (.bool true) (some 40) ?_
   refine ldn 2 ?_
   generalize hact : Act.put _ (some 40) _ = act
   simp only [Act.put, sA, sC, sZ] at hact
   subst hact
   go_upto_region 15 with (fail)
   refine lbeg (opsOf Try.f36 15) ?_
   refine lnow 0 (.pointer (some ⟨q, 0, none⟩)) (some 43) ?_
   refine lin_callPP 1 52 #[.pointer (some ⟨q, 0, none⟩), sT [58, 61]] (some 44) (by kernel_rfl) (by kernel_rfl) (by kernel_rfl) (expect_walk K q w13 l12 RD.out [58, 61] (by decide)) EQ (fun p c w' hb ho => ⟨rfl, PP.no (by rw [hB.out]; exact BB.out.trans (hb.mono SZ.out)) ho⟩) ?_
   intro x l15 vv w14 hx EQ1 hb hv hp
   replace EQ := EQ1
   clear EQ1
   obtain rfl : vv = .tuple #[] := hv
   clear hx x
   replace BR := Lib.hid (bel_keep hb BR.out (by have := QB.out; have := ZB.out; omega) BR.out.lt)
   replace BX := Lib.hid (bel_keep hb BX.out (by have := QB.out; have := ZB.out; omega) BX.out.lt)
   replace TT := Lib.hid (RwAt.call TT.out hb (by have := QB.out; have := ZB.out; omega))
   replace BB := Lib.hid (BB.out.trans (hb.mono SZ.out))
   replace SZ := Lib.hid (Nat.le_trans SZ.out hb.size)
   replace RD := Lib.hid hp
   clear hb hp
   refine ldn 2 ?_
   generalize hact : Act.put _ (some 44) _ = act
   simp only [Act.put, sA, sC, sZ] at hact
   subst hact
   go_upto_region 16 with (fail)
   refine lbeg (opsOf Try.f36 16) ?_
   refine lnow 0 (.pointer (some ⟨q, 0, none⟩)) (some 45) ?_
   refine lin_callPP 1 21 #[.pointer (some ⟨q, 0, none⟩)] (some 46) (by kernel_rfl) (by kernel_rfl) (by kernel_rfl) (whole_walk K q w14 l15 RD.out) EQ (fun p c w' hb ho => ⟨rfl, PP.no (by rw [hB.out]; exact BB.out.trans (hb.mono SZ.out)) ho⟩) ?_
   intro vt l17 vv w16 hx EQ1 hb hv hp
   replace EQ := EQ1
   clear EQ1
   obtain ⟨cu, rfl, hct⟩ := hv
   have TU := Lib.hid (hct.range (BX.out.lt : z + 1 ≤ _))
   clear hct hx
   replace BR := Lib.hid (bel_keep hb BR.out (by have := QB.out; have := ZB.out; omega) BR.out.lt)
   replace BX := Lib.hid (bel_keep hb BX.out (by have := QB.out; have := ZB.out; omega) BX.out.lt)
   replace TT := Lib.hid (RwAt.call TT.out hb (by have := QB.out; have := ZB.out; omega))
   replace BB := Lib.hid (BB.out.trans (hb.mono SZ.out))
   replace SZ := Lib.hid (Nat.le_trans SZ.out hb.size)
   replace RD := Lib.hid hp
   clear hb hp
   refine lnow 2 (.pointer (some ⟨z, 11, none⟩)) (some 47) ?_
   refine lin_putM 3 11 33 (.tmp 47) (.tmp 46) z 40 (dC K kd ps fx pp s ct z6R (.slice none 0 0)) (cu) (by kernel_rfl) (by kernel_rfl) (by kernel_rfl) (by kernel_rfl) (by kernel_rfl) BX.out (by rw [dC_len T6.out rfl, TU.out.len]; decide) (rwSize TU.out.len) (by simpa using TU.out.one) ?_
   intro w18 b9 u9
   rw [dC_val T6.out rfl TU.out.len] at b9
   refine ldn 4 ?_
   generalize hact : Act.put _ none _ = act
   simp only [Act.put, sA, sC, sZ] at hact
   subst hact
   replace RD := Lib.hid (RD.out.upd u9 (by have := QB.out; have := ZB.out; omega))
   replace BB : Hid (Bel [q] B w w18) := BB.out.newBlk u9 (Nat.le_of_lt ZB.out) SZ.out
   replace SZ : Hid (B ≤ w18.heap.size) := Nat.le_trans SZ.out u9.size
   replace BR := Lib.hid (u9.blk BR.out (by have := ZB.out; omega))
   replace BX := Lib.hid b9
   replace TT := Lib.hid (TT.out.updS u9 (Nat.lt_succ_self z))
   replace TU := Lib.hid (TU.out.updS u9 (Nat.lt_succ_self z))
   clear u9 b9
   have RH : Hid (DSt K q B z w w18 _ _) := ⟨RD.out, BB.out, BR.out, BX.out⟩
   go_wp2
   go_meet
   case rel => exact ⟨(vt, []), l17, _, _, EQ, RH, TT, TU, SlG.nil _ _ _ _⟩
  by_cases k3 : kd = 3
  ·skip
   rw [valP, if_pos (.inr k3), bind_assoc] at EQ
   simp only [bind_assoc, PR.bind_ok] at EQ
   replace k3 := Lib.hid k3
   go_upto_region 13 with (fail)
   refine lbeg (opsOf Try.f36 13) ?_
   refine lnow 0 (.bool (decide ((kd : Int) = 2))) (some 41) ?_
   rw [decide_eq_false (by have := k3.out; omega : ¬ (kd : Int) = 2)]
   refine lnow 1 (.bool false) (some 40) ?_
   refine ldn 2 ?_
   generalize hact : Act.put _ (some 40) _ = act
   simp only [Act.put, sA, sC, sZ] at hact
   subst hact
   go_upto_region 14 with (fail)
   refine lbeg (opsOf Try.f36 14) ?_
   refine lnow 0 (.bool (decide ((kd : Int) = 3))) (some 42) ?_
   rw [decide_eq_true (by have := k3.out; omega : (kd : Int) = 3)]
   refine lnow 1 (.bool true) (some 40) ?_
   refine ldn 2 ?_
   generalize hact : Act.put _ (some 40) _ = act
   simp only [Act.put, sA, sC, sZ] at hact
   subst hact
   go_upto_region 15 with (fail)
   refine lbeg (opsOf Try.f36 15) ?_
   refine lnow 0 (.pointer (some ⟨q, 0, none⟩)) (some 43) ?_
   refine lin_callPP 1 52 #[.pointer (some ⟨q, 0, none⟩), sT [58, 61]] (some 44) (by kernel_rfl) (by kernel_rfl) (by kernel_rfl) (expect_walk K q w13 l12 RD.out [58, 61] (by decide)) EQ (fun p c w' hb ho => ⟨rfl, PP.no (by rw [hB.out]; exact BB.out.trans (hb.mono SZ.out)) ho⟩) ?_
   intro x l15 vv w14 hx EQ1 hb hv hp
   replace EQ := EQ1
   clear EQ1
   obtain rfl : vv = .tuple #[] := hv
   clear hx x
   replace BR := Lib.hid (bel_keep hb BR.out (by have := QB.out; have := ZB.out; omega) BR.out.lt)
   replace BX := Lib.hid (bel_keep hb BX.out (by have := QB.out; have := ZB.out; omega) BX.out.lt)
   replace TT := Lib.hid (RwAt.call TT.out hb (by have := QB.out; have := ZB.out; omega))
   replace BB := Lib.hid (BB.out.trans (hb.mono SZ.out))
   replace SZ := Lib.hid (Nat.le_trans SZ.out hb.size)
   replace RD := Lib.hid hp
   clear hb hp
   refine ldn 2 ?_
   generalize hact : Act.put _ (some 44) _ = act
   simp only [Act.put, sA, sC, sZ] at hact
   subst hact
   go_upto_region 16 with (fail)
   refine lbeg (opsOf Try.f36 16) ?_
   refine lnow 0 (.pointer (some ⟨q, 0, none⟩)) (some 45) ?_
   refine lin_callPP 1 21 #[.pointer (some ⟨q, 0, none⟩)] (some 46) (by kernel_rfl) (by kernel_rfl) (by kernel_rfl) (whole_walk K q w14 l15 RD.out) EQ (fun p c w' hb ho => ⟨rfl, PP.no (by rw [hB.out]; exact BB.out.trans (hb.mono SZ.out)) ho⟩) ?_
   intro vt l17 vv w16 hx EQ1 hb hv hp
   replace EQ := EQ1
   clear EQ1
   obtain ⟨cu, rfl, hct⟩ := hv
   have TU := Lib.hid (hct.range (BX.out.lt : z + 1 ≤ _))
   clear hct hx
   replace BR := Lib.hid (bel_keep hb BR.out (by have := QB.out; have := ZB.out; omega) BR.out.lt)
   replace BX := Lib.hid (bel_keep hb BX.out (by have := QB.out; have := ZB.out; omega) BX.out.lt)
   replace TT := Lib.hid (RwAt.call TT.out hb (by have := QB.out; have := ZB.out; omega))
   replace BB := Lib.hid (BB.out.trans (hb.mono SZ.out))
   replace SZ := Lib.hid (Nat.le_trans SZ.out hb.size)
   replace RD := Lib.hid hp
   clear hb hp
   refine lnow 2 (.pointer (some ⟨z, 11, none⟩)) (some 47) ?_
   refine lin_putM 3 11 33 (.tmp 47) (.tmp 46) z 40 (dC K kd ps fx pp s ct z6R (.slice none 0 0)) (cu) (by kernel_rfl) (by kernel_rfl) (by kernel_rfl) (by kernel_rfl) (by kernel_rfl) BX.out (by rw [dC_len T6.out rfl, TU.out.len]; decide) (rwSize TU.out.len) (by simpa using TU.out.one) ?_
   intro w18 b9 u9
   rw [dC_val T6.out rfl TU.out.len] at b9
   refine ldn 4 ?_
   generalize hact : Act.put _ none _ = act
   simp only [Act.put, sA, sC, sZ] at hact
   subst hact
   replace RD := Lib.hid (RD.out.upd u9 (by have := QB.out; have := ZB.out; omega))
   replace BB : Hid (Bel [q] B w w18) := BB.out.newBlk u9 (Nat.le_of_lt ZB.out) SZ.out
   replace SZ : Hid (B ≤ w18.heap.size) := Nat.le_trans SZ.out u9.size
   replace BR := Lib.hid (u9.blk BR.out (by have := ZB.out; omega))
   replace BX := Lib.hid b9
   replace TT := Lib.hid (TT.out.updS u9 (Nat.lt_succ_self z))
   replace TU := Lib.hid (TU.out.updS u9 (Nat.lt_succ_self z))
   clear u9 b9
   have RH : Hid (DSt K q B z w w18 _ _) := ⟨RD.out, BB.out, BR.out, BX.out⟩
   go_wp2
   go_meet
   case rel => exact ⟨(vt, []), l17, _, _, EQ, RH, TT, TU, SlG.nil _ _ _ _⟩
  rw [valP, if_neg (fun hc => hc.elim k2 k3)] at EQ
  go_upto_region 13 with (fail)
  refine lbeg (opsOf Try.f36 13) ?_
  refine lnow 0 (.bool (decide ((kd : Int) = 2))) (some 41) ?_
  rw [decide_eq_false (by omega : ¬ (kd : Int) = 2)]
  refine lnow 1 (.bool false) (some 40) ?_
  refine ldn 2 ?_
  generalize hact : Act.put _ (some 40) _ = act
  simp only [Act.put, sA, sC, sZ] at hact
  subst hact
  go_upto_region 14 with (fail)
  refine lbeg (opsOf Try.f36 14) ?_
  refine lnow 0 (.bool (decide ((kd : Int) = 3))) (some 42) ?_
  rw [decide_eq_false (by omega : ¬ (kd : Int) = 3)]
  refine lnow 1 (.bool false) (some 40) ?_
  refine ldn 2 ?_
  generalize hact : Act.put _ (some 40) _ = act
  simp only [Act.put, sA, sC, sZ] at hact
  subst hact
  by_cases k4 : kd = 4
  rotate_left
  ·skip
   rw [if_neg k4, PR.bind_ok] at EQ
   go_upto_region 17 with (fail)
   refine lbeg (opsOf Try.f36 17) ?_
   refine lnow 0 (.bool (decide ((kd : Int) = 4))) (some 49) ?_
   rw [decide_eq_false (by omega : ¬ (kd : Int) = 4)]
   refine lnow 1 (.bool false) (some 48) ?_
   refine ldn 2 ?_
   generalize hact : Act.put _ (some 48) _ = act
   simp only [Act.put, sA, sC, sZ] at hact
   subst hact
   have RH : Hid (DSt K q B z w w13 _ _) := ⟨RD.out, BB.out, BR.out, BX.out⟩
   go_wp2
   go_meet
   case rel => exact ⟨(zRw, []), l12, _, _, EQ, RH, TT, zRw_at _ _ _, SlG.nil _ _ _ _⟩
  rw [if_pos k4] at EQ
  replace k4 := Lib.hid k4
  go_upto_region 17 with (fail)
  refine lbeg (opsOf Try.f36 17) ?_
  refine lnow 0 (.bool (decide ((kd : Int) = 4))) (some 49) ?_
  rw [decide_eq_true (by have := k4.out; omega : (kd : Int) = 4)]
  refine lnow 1 (.bool true) (some 48) ?_
  refine ldn 2 ?_
  generalize hact : Act.put _ (some 48) _ = act
  simp only [Act.put, sA, sC, sZ] at hact
  subst hact
  by_cases c : nx l12 = [119, 105, 116, 104]
  rotate_left
  ·skip
   rw [if_neg c, PR.bind_ok] at EQ
   go_upto_region 18 with (fail)
   refine lbeg (opsOf Try.f36 18) ?_
   refine lnow 0 (.pointer (some ⟨q, 0, none⟩)) (some 50) ?_
   refine lcal 1 50 #[.pointer (some ⟨q, 0, none⟩), sT [119, 105, 116, 104]] (some 51) _ (accept_no K q w13 l12 RD.out [119, 105, 116, 104] c) ?_
   rintro e w' ⟨rfl, hw'⟩
   obtain rfl := hw'.symm
   refine ⟨_, rfl, ?_⟩
   refine ldn 2 ?_
   generalize hact : Act.put _ (some 51) _ = act
   simp only [Act.put, sA, sC, sZ] at hact
   subst hact
   have RH : Hid (DSt K q B z w w13 _ _) := ⟨RD.out, BB.out, BR.out, BX.out⟩
   go_wp2
   go_meet
   case rel => exact ⟨(zRw, []), l12, _, _, EQ, RH, TT, zRw_at _ _ _, SlG.nil _ _ _ _⟩
  rw [if_pos c, bind_assoc] at EQ
  simp only [PR.bind_ok] at EQ
  go_upto_region 18 with (fail)
  refine lbeg (opsOf Try.f36 18) ?_
  refine lnow 0 (.pointer (some ⟨q, 0, none⟩)) (some 50) ?_
  refine lcal 1 50 #[.pointer (some ⟨q, 0, none⟩), sT [119, 105, 116, 104]] (some 51) _ (accept_yes K q w13 l12 RD.out [119, 105, 116, 104] c (by decide)) ?_
  rintro e w14 ⟨rfl, hb, hp⟩
  refine ⟨_, rfl, ?_⟩
  obtain ⟨l15, hl15⟩ : ∃ y, Hid (l12.tail = y) := ⟨_, rfl⟩
  rw [hl15.out] at hp
  try rw [hl15.out] at EQ
  replace BR := Lib.hid (bel_keep hb BR.out (by have := QB.out; have := ZB.out; omega) BR.out.lt)
  replace BX := Lib.hid (bel_keep hb BX.out (by have := QB.out; have := ZB.out; omega) BX.out.lt)
  replace TT := Lib.hid (RwAt.call TT.out hb (by have := QB.out; have := ZB.out; omega))
  replace BB := Lib.hid (BB.out.trans (hb.mono SZ.out))
  replace SZ := Lib.hid (Nat.le_trans SZ.out hb.size)
  replace RD := Lib.hid hp
  clear hb hp
  refine ldn 2 ?_
  generalize hact : Act.put _ (some 51) _ = act
  simp only [Act.put, sA, sC, sZ] at hact
  subst hact
  go_upto_region 19 with (fail)
  refine lbeg (opsOf Try.f36 19) ?_
  refine lnow 0 (.pointer (some ⟨q, 0, none⟩)) (some 52) ?_
  refine lin_callPP 1 53 #[.pointer (some ⟨q, 0, none⟩)] (some 53) (by kernel_rfl) (by kernel_rfl) (by kernel_rfl) (ctors_walk K q w14 l15 RD.out) EQ (fun p c w' hb ho => ⟨rfl, PP.no (by rw [hB.out]; exact BB.out.trans (hb.mono SZ.out)) ho⟩) ?_
  intro x l17 vv w16 hx EQ1 hb hv hp
  replace EQ := EQ1
  clear EQ1
  have CS : Hid (SlG (CtAt K) 8 (List.range (z + 1)) _ vv x) := SlG.sub (ctG K) hv (fun k hk => .inl (List.mem_range.2 (by have := List.mem_range.1 hk; have := BX.out.lt; omega)))
  obtain ⟨cca, ccc, rfl⟩ := CS.out.slice
  clear hv hx
  replace BR := Lib.hid (bel_keep hb BR.out (by have := QB.out; have := ZB.out; omega) BR.out.lt)
  replace BX := Lib.hid (bel_keep hb BX.out (by have := QB.out; have := ZB.out; omega) BX.out.lt)
  replace TT := Lib.hid (RwAt.call TT.out hb (by have := QB.out; have := ZB.out; omega))
  replace BB := Lib.hid (BB.out.trans (hb.mono SZ.out))
  replace SZ := Lib.hid (Nat.le_trans SZ.out hb.size)
  replace RD := Lib.hid hp
  clear hb hp
  refine lnow 2 (.pointer (some ⟨z, 17, none⟩)) (some 54) ?_
  refine lin_putF 3 17 38 (.tmp 54) (.tmp 53) z 40 (dC K kd ps fx pp s ct z6R (.slice none 0 0)) (.slice cca x.length ccc) (by kernel_rfl) (by kernel_rfl) (by kernel_rfl) (by kernel_rfl) (by kernel_rfl) BX.out (by rw [dC_len T6.out rfl]; decide) sizeCtsP rfl rfl ?_
  intro w18 b9 u9
  rw [dC_ct T6.out rfl] at b9
  replace CS := Lib.hid (ctsl_upd CS.out u9 (Nat.lt_succ_self z))
  refine ldn 4 ?_
  generalize hact : Act.put _ none _ = act
  simp only [Act.put, sA, sC, sZ] at hact
  subst hact
  replace RD := Lib.hid (RD.out.upd u9 (by have := QB.out; have := ZB.out; omega))
  replace BB : Hid (Bel [q] B w w18) := BB.out.newBlk u9 (Nat.le_of_lt ZB.out) SZ.out
  replace SZ : Hid (B ≤ w18.heap.size) := Nat.le_trans SZ.out u9.size
  replace BR := Lib.hid (u9.blk BR.out (by have := ZB.out; omega))
  replace BX := Lib.hid b9
  replace TT := Lib.hid (TT.out.updS u9 (Nat.lt_succ_self z))
  clear u9 b9
  have RH : Hid (DSt K q B z w w18 _ _) := ⟨RD.out, BB.out, BR.out, BX.out⟩
  go_wp2
  go_meet
  case rel => exact ⟨(zRw, x), l17, _, _, EQ, RH, TT, zRw_at _ _ _, CS⟩
 clear EQ RD BB SZ BR BX TT
 obtain ⟨vc, l7, vcs, cv, EQ, hst, TT, TV, CS⟩ := hcut
 have RD := Lib.hid hst.out.rd
 have BB := Lib.hid hst.out.bb
 have BR := Lib.hid hst.out.br
 have BX := Lib.hid hst.out.bx
 have SZ : Hid (B ≤ wc.heap.size) := Nat.le_of_lt BR.out.lt
 clear hst
 unfold dl3 at EQ
 obtain ⟨wf, hwf⟩ : ∃ y, Hid (wc = y) := ⟨_, rfl⟩
 rw [hwf.out] at RD BB BR BX SZ TT TV CS ⊢
 clear hwf
 go_upto_region 20 with (fail)
 refine lbeg (opsOf Try.f36 20) ?_
 refine lnow 0 (.pointer (some ⟨q, 0, none⟩)) (some 55) ?_
 refine lin_callPP 1 52 #[.pointer (some ⟨q, 0, none⟩), sT [59]] (some 56) (by kernel_rfl) (by kernel_rfl) (by kernel_rfl) (expect_walk K q wf l7 RD.out [59] (by decide)) EQ (fun p c w' hb ho => ⟨rfl, PP.no (by rw [hB.out]; exact BB.out.trans (hb.mono SZ.out)) ho⟩) ?_
 intro xx l8 vv w77 hx EQ1 hb hv hp
 replace EQ := EQ1
 clear EQ1
 obtain rfl : vv = .tuple #[] := hv
 clear hx
 replace CS := Lib.hid (ctsl_call CS.out hb (by have := QB.out; have := ZB.out; omega))
 replace BR := Lib.hid (bel_keep hb BR.out (by have := QB.out; have := ZB.out; omega) BR.out.lt)
 replace BX := Lib.hid (bel_keep hb BX.out (by have := QB.out; have := ZB.out; omega) BX.out.lt)
 replace TT := Lib.hid (RwAt.call TT.out hb (by have := QB.out; have := ZB.out; omega))
 replace TV := Lib.hid (RwAt.call TV.out hb (by have := QB.out; have := ZB.out; omega))
 replace BB := Lib.hid (BB.out.trans (hb.mono SZ.out))
 replace SZ := Lib.hid (Nat.le_trans SZ.out hb.size)
 replace RD := Lib.hid hp
 clear hb hp
 refine ldn 2 ?_
 generalize hact : Act.put _ (some 56) _ = act
 simp only [Act.put, sA, sC, sZ] at hact
 subst hact
 have HN : Hid (DlAt K (List.range (B + 1)) w77 ⟨kd, ps, fx, pp, s, ty, vc.1, vc.2⟩ (dC K kd ps fx pp s ct vcs (cv))) := (dlG K).sub (F := List.range (z + 1)) (fun k hk => .inl (List.mem_range.2 (by have := List.mem_range.1 hk; have := ZB.out; omega))) _ _ ⟨ct, vcs, cv, rfl, TT.out, TV.out, CS.out⟩
 have C18 := Lib.hid ((dlG K).len HN.out)
 go_upto_region 21 with (fail)
 refine lbeg (opsOf Try.f36 21) ?_
 refine lrl 0 (dC K kd ps fx pp s ct vcs (cv)) (some 57) 40 3 z 0 BX.out.whole Try.underlying40 (dlSize C18.out) ?_
 refine lput 1 40 (.tmp 2) (.tmp 57) (B) _ zD18 (dC K kd ps fx pp s ct vcs (cv)) BR.out (C18.out.trans zD_len.symm) (dlSize C18.out) (by simpa using (dlG K).one HN.out) ?_
 intro w99 b99 u99
 refine ldn 2 ?_
 generalize hact : Act.put _ none _ = act
 simp only [Act.put, sA, sC, sZ] at hact
 subst hact
 have FIN : Hid (PP K q oo (RDl K) w (.returned (.agg (dC K kd ps fx pp s ct vcs (cv)).toArray)) w99) := PP.yes (by rw [hB.out]; exact BB.out.newBlk u99 (Nat.le_refl _) SZ.out) EQ.out ⟨_, rfl, by rw [hB.out]; exact HN.out.fin u99⟩ (RD.out.upd u99 QB.out)
 have HB := Lib.hid b99
 clear b99 u99 HN TT TV CS
 go_wp2
 refine bodyPost_ret (v := .agg (dC K kd ps fx pp s ct vcs (cv)).toArray) ?_ rfl FIN.out
 exact results_cell_row (g := B) (t := 40) (cs := (dC K kd ps fx pp s ct vcs (cv)).toArray) (fr := (0, 0)) Try.results36 _ _ _ rfl HB.out Try.underlying40 rfl (dlSize C18.out)
end Go.Proofs.Ytdacmogedchnaaa
