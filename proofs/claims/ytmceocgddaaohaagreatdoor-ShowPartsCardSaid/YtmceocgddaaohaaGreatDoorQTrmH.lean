/- A term applied to others, and binders over a body: package term's App, and the document's own App and Bind. -/
import Derived.Test.YtmceocgddaaohaaGreatDoorQGenT
import Derived.Test.YtmceocgddaaohaaGreatDoorQTrmE
namespace Go.Proofs.YtmceocgddaaohaaGreatDoor
open Go Go.RowKit
set_option maxRecDepth 100000
theorem run_build_tmx (k1 n1 k2 n2 : Int) (s1 s2 : ByteArray) (l1 a1 l2 a2 : Option Addr) (L1 lc1 N1 ac1 L2 lc2 N2 ac2 : Nat) (w : World) : (Instr.buildSlice 23 2 #[(0, .agg [Value.int .i64 k1, .int .i64 n1, .string s1, .slice l1 L1 lc1, .slice a1 N1 ac1].toArray), (1, .agg [Value.int .i64 k2, .int .i64 n2, .string s2, .slice l2 L2 lc2, .slice a2 N2 ac2].toArray)]).run Tryz.prog w = .ok (.slice (some ⟨w.heap.size, 0, none⟩) 2 2) (w.alloc (.cells [Value.int .i64 k1, .int .i64 n1, .string s1, .slice l1 L1 lc1, .slice a1 N1 ac1, Value.int .i64 k2, .int .i64 n2, .string s2, .slice l2 L2 lc2, .slice a2 N2 ac2].toArray 25)) := by kernel_rfl
theorem run_build_tm2 {F1 F2 : List Nat} {w1 w2 : World} {t1 t2 : Tm} {c1 c2 : List Value} (h1 : TmAt F1 w1 t1 c1) (h2 : TmAt F2 w2 t2 c2) (w : World) : (Instr.buildSlice 23 2 #[(0, .agg c1.toArray), (1, .agg c2.toArray)]).run Tryz.prog w = .ok (.slice (some ⟨w.heap.size, 0, none⟩) 2 2) (w.alloc (.cells (c1 ++ c2).toArray 25)) := by
 obtain ⟨lv, av, rfl, h3, h4⟩ := h1.open
 obtain ⟨la, lc, rfl⟩ := h3.slice
 obtain ⟨aa, ac, rfl⟩ := h4.slice
 obtain ⟨lv2, av2, rfl, h5, h6⟩ := h2.open
 obtain ⟨la2, lc2, rfl⟩ := h5.slice
 obtain ⟨aa2, ac2, rfl⟩ := h6.slice
 exact run_build_tmx _ _ _ _ _ _ _ _ _ _ _ _ _ _ _ _ _ _ w
theorem pair_tms {F : List Nat} {w : World} {t1 t2 : Tm} {c1 c2 : List Value} {g : Nat} (hb : Blk w g 25 (c1 ++ c2)) (h1 : TmAt F w t1 c1) (h2 : TmAt F w t2 c2) (hg : g ∉ F) : TmsAt F w [t1, t2] (.slice (some ⟨g, 0, none⟩) 2 2) := by
 refine TmsAt.of (ts := [t1, t2]) (Nat.le_refl _) hg hb.lt fun i t hi => ?_
 match i, hi with
 | 0, hi =>
  obtain rfl : t1 = t := by simpa using hi
  exact ⟨c1, fun j u hu => hb.cell (by rw [Nat.mul_zero, Nat.add_zero, Nat.zero_add, List.getElem?_append_left (List.getElem?_eq_some_iff.1 hu).1]; exact hu), h1⟩
 | 1, hi =>
  obtain rfl : t2 = t := by simpa using hi
  exact ⟨c2, fun j u hu => hb.cell (by rw [Nat.zero_add, Nat.mul_one, List.getElem?_append_right (by rw [h1.len]; omega), h1.len, show 5 + j - 5 = j by omega]; exact hu), h2⟩
 | i + 2, hi => simp at hi
/-- The cells of a node of two parts. -/
def twoC (k : Int) (g : Nat) : List Value := [.int .i64 k, .int .i64 0, strT [], .slice none 0 0, .slice (some ⟨g, 0, none⟩) 2 2]
theorem two_at {F : List Nat} {w : World} {t1 t2 : Tm} {c1 c2 : List Value} {g : Nat} (k : Int) (hb : Blk w g 25 (c1 ++ c2)) (h1 : TmAt F w t1 c1) (h2 : TmAt F w t2 c2) (hg : g ∉ F) : TmAt F w (.mk k 0 [] [] [t1, t2]) (twoC k g) :=
 TmAt.mk (t := .mk k 0 [] [] [t1, t2]) (LvsOff.nil _ _ _ _) (pair_tms hb h1 h2 hg)
theorem twoC_one (k : Int) (g : Nat) : ∀ u ∈ twoC k g, u.oneCell' = true := by
 intro u hu
 simp only [twoC, List.mem_cons, List.not_mem_nil, or_false] at hu
 rcases hu with rfl | rfl | rfl | rfl | rfl <;> rfl
set_option maxHeartbeats 8000000 in
theorem app_walk {F : List Nat} (f : Tm) (l : List Tm) (fc : List Value) (lv : Value) (w : World) (hf : TmAt F w f fc) (hfs : SmT f) (hl : TmsAt F w l lv) (ss : SmTs l) (sa : l.length * 80 ≤ 140737488351232) : Calls Tryz.prog 20 #[.agg fc.toArray, lv] w (NewTm (appT f l) w) := by
 obtain ⟨aa, ac, rfl⟩ := hl.slice
 obtain ⟨N, hAN⟩ : ∃ N, Hid (l.length = N) := ⟨_, rfl⟩
 rw [hAN.out] at hl sa ⊢
 have H2 := Lib.hid hl
 have SS := Lib.hid ss
 have SA := Lib.hid sa
 have FC5 := Lib.hid hf.len
 have HF := Lib.hid hf
 have HFS := Lib.hid hfs
 obtain ⟨q, hq⟩ : ∃ q, Hid (w.heap.size = q) := ⟨_, rfl⟩
 unfold NewTm
 rw [hq.out]
 clear hl ss sa hf hfs
 go_enter Tryz.func20, Tryz.ntmps20
 go_upto_region 0 with (fail)
 refine lbeg (opsOf Tryz.f20 0) ?_
 refine lbox 0 25 (.tmp 0) (fc) (q) (some 2) hq ?_
 intro w1 bw1 bew1 hsw1
 refine lall 1 25 z5T (q + 1) (some 4) hsw1 ?_
 intro w2 bw2 bew2 hsw2
 refine ldn 2 ?_
 generalize hact : Act.put _ (some 4) _ = act
 simp only [Act.put, sA, sC, sZ] at hact
 subst hact
 have B1 : Hid (Blk w2 q 25 fc) := bw1.below bew2 (by omega)
 have B2 : Hid (Blk w2 (q + 1) 25 z5T) := bw2
 have BE : Hid (Below q w w2) := bew1.trans (bew2.mono (by omega))
 have S2 : Hid (w2.heap.size = q + 2) := hsw2
 clear bw1 bew1 hsw1 bw2 bew2 hsw2
 go_upto_region 1 with (fail)
 refine lbeg (opsOf Tryz.f20 1) ?_
 refine lrl 0 (fc) (some 8) 25 2 (q) 0 (B1.out).whole Tryz.underlying25 (t5Size FC5.out) ?_
 refine lcal 1 41 #[.agg fc.toArray] (some 9) _ (clone_walk f fc w2 F (HF.out.step (Step.of_below BE.out (by have := hq.out; omega))) HFS.out) ?_
 rintro e w3 ⟨cr, rfl, hcr3, hb3⟩
 refine ⟨_, rfl, ?_⟩
 rw [S2.out] at hcr3
 have S3 : Hid (q + 2 ≤ w3.heap.size) := by have := hb3.size; have := S2.out; rw [Hid]; omega
 obtain ⟨q3, hq3⟩ : ∃ y, Hid (w3.heap.size = y) := ⟨_, rfl⟩
 refine lall 2 25 z5T (q3) (some 5) hq3 ?_
 intro w4 bw4 bew4 hsw4
 refine lput 3 25 (.tmp 5) (.tmp 9) (q3) _ (z5T) (cr) bw4 (hcr3.len.trans (rfl : z5T.length = 5).symm) (t5Size hcr3.len) (by simpa using hcr3.one) ?_
 intro w5 bw5 uw5
 refine ldn 4 ?_
 generalize hact : Act.put _ none _ = act
 simp only [Act.put, sA, sC, sZ] at hact
 subst hact
 have Q3 : Hid (q + 2 ≤ q3) := by have := S3.out; have := hq3.out; rw [Hid]; omega
 have E2 : Hid (Blk w5 (q + 1) 25 z5T) := uw5.blk ((B2.out.below hb3 B2.out.lt).below bew4 (by have := Q3.out; omega)) (by have := Q3.out; omega)
 have E3 : Hid (Blk w5 q3 25 cr) := bw5
 have ET : Hid (TmAt (List.range (q + 2) ++ [q3]) w5 f cr) := TmAt.below (TmAt.sub (fun k hk => (List.mem_append.1 hk).imp id (fun h => by have := hq3.out; simp at h; omega)) f cr hcr3) (by rw [hq3.out]; exact uw5.below bew4 (Nat.le_refl _) (by have := bew4.size; have := hq3.out; omega))
 have EE : Hid (Below q w w5) := uw5.below ((BE.out.trans (hb3.mono (by have := S2.out; omega))).trans (bew4.mono (by have := Q3.out; omega))) (by have := Q3.out; omega) (by have := bew4.size; have := hq3.out; have := Q3.out; have := hq.out; have := BE.out.size; omega)
 have S5 : Hid (q3 < w5.heap.size) := bw5.lt
 clear hcr3 hb3 bw4 bew4 hsw4 bw5 uw5 B1 B2 BE S2 S3
 go_upto_region 2 with (fail)
 refine lbeg (opsOf Tryz.f20 2) ?_
 refine lnow 0 (.slice aa N ac) (some 10) ?_
 refine lnow 1 (.int .i64 (N : Int)) (some 11) ?_
 refine lnow 2 (.int .i64 0) (some 12) ?_
 refine ldn 3 ?_
 generalize hact : Act.put _ (some 12) _ = act
 simp only [Act.put, sA, sC, sZ] at hact
 subst hact
 go_wp2
 go_loopw [12] (fun iv wr => ∃ (i : Nat) (cr : List Value), i ≤ N ∧ iv = .int .i64 (i : Int) ∧ Hid (Blk wr q3 25 cr) ∧ Hid (TmAt (List.range (q + 2) ++ [q3]) wr (appT f (l.take i)) cr) ∧ Hid (Blk wr (q + 1) 25 z5T) ∧ Hid (Below q w wr) ∧ Hid (q3 < wr.heap.size)) (fun iv _ => N - (intOf iv).toNat)
 case atStart => exact ⟨0, cr, Nat.zero_le _, rfl, E3, by rw [Hid, List.take_zero]; exact ET.out, E2, EE, S5⟩
 case round =>
  obtain ⟨i, cr, hi, rfl, R3, RT, R2, RE, RS⟩ := hrel
  have CR5 := Lib.hid RT.out.len
  have CR1 := Lib.hid RT.out.one
  by_cases hlt : i < N
  rotate_left
  ·have r1 : ¬ (i : Int) < (N : Int) := by omega
   have hRT := RT.out
   rw [List.take_of_length_le (by have := hAN.out; omega)] at hRT
   have RT := Lib.hid hRT
   clear hRT
   go_upto_region 7 with (fail)
   refine lbeg (opsOf Tryz.f20 7) ?_
   refine lrl 0 (cr) (some 22) 25 5 (q3) 0 (R3.out).whole Tryz.underlying25 (t5Size CR5.out) ?_
   refine lput 1 25 (.tmp 4) (.tmp 22) (q + 1) _ (z5T) (cr) R2.out (CR5.out.trans (rfl : z5T.length = 5).symm) (t5Size CR5.out) (by simpa using CR1.out) ?_
   intro w9 bw9 uw9
   refine ldn 2 ?_
   generalize hact : Act.put _ none _ = act
   simp only [Act.put, sA, sC, sZ] at hact
   subst hact
   go_wp2
   refine bodyPost_ret (v := .agg cr.toArray) ?_ rfl ⟨cr, rfl, ?_, uw9.below RE.out (by omega) (by have := RE.out.size; have := hq.out; omega)⟩
   ·exact results_cell_row (g := q + 1) (t := 25) (cs := cr.toArray) (fr := (0, 0)) Tryz.results20 _ _ _ rfl bw9 Tryz.underlying25 rfl (t5Size CR5.out)
   ·exact TmAt.sub (fun k hk => .inl (List.mem_append_left _ (List.mem_range.2 (by have := List.mem_range.1 hk; omega)))) _ _ (TmAt.step (Step.of_upd uw9 (List.mem_append_left _ (List.mem_range.2 (by omega)))) _ _ RT.out)
  have r1 : (i : Int) < (N : Int) := by omega
  obtain ⟨x, pb, po, ci, hxi, hxm, haa, -, hpb, -, hcr, hct⟩ := H2.out.get hAN.out hlt
  subst haa
  have XS := SmTs.mem SS.out hxm
  have HCR : Hid (wr.rangeAt pb (po + 5 * i) ci) := rng_low hcr RE.out (by have := hq.out; omega)
  have HCT : Hid (TmAt F wr x ci) := TmAt.step (Step.of_below RE.out (by have := hq.out; omega)) _ _ hct
  have CI5 := Lib.hid hct.len
  have CI1 := Lib.hid hct.one
  have PBQ : Hid (pb < q) := by have := hq.out; rw [Hid]; omega
  have TK : Hid (appT f (l.take (i + 1)) = .mk 5 0 [] [] [appT f (l.take i), x]) := by rw [Hid, List.take_add_one, hxi]; exact app_snoc _ _ _
  clear hxi hxm hpb hcr hct
  obtain ⟨qr, hqr⟩ : ∃ y, Hid (wr.heap.size = y) := ⟨_, rfl⟩
  go_upto_region 4 with (fail)
  refine lbeg (opsOf Tryz.f20 4) ?_
  refine lix 0 (.pointer (some ⟨pb, po + 5 * i, none⟩)) (some 14) 23 10 12 (run_at_tm pb po N ac i hlt _) ?_
  refine lrl 1 ci (some 15) 25 14 pb (po + 5 * i) HCR.out Tryz.underlying25 (t5Size CI5.out) ?_
  refine lall 2 25 z5T (qr) (some 7) hqr ?_
  intro w6 bw6 bew6 hsw6
  refine lput 3 25 (.tmp 7) (.tmp 15) (qr) _ (z5T) (ci) bw6 (CI5.out.trans (rfl : z5T.length = 5).symm) (t5Size CI5.out) (by simpa using CI1.out) ?_
  intro w7 bw7 uw7
  refine ldn 4 ?_
  generalize hact : Act.put _ none _ = act
  simp only [Act.put, sA, sC, sZ] at hact
  subst hact
  have BE7 : Hid (Below wr.heap.size wr w7) := by rw [Hid, hqr.out]; exact uw7.below bew6 (Nat.le_refl _) (by have := bew6.size; have := hqr.out; omega)
  have T3 : Hid (Blk w7 q3 25 cr) := R3.out.below BE7.out R3.out.lt
  have TT : Hid (TmAt (List.range (q + 2) ++ [q3]) w7 (appT f (l.take i)) cr) := RT.out.below BE7.out
  have T2 : Hid (Blk w7 (q + 1) 25 z5T) := R2.out.below BE7.out R2.out.lt
  have TE : Hid (Below q w w7) := RE.out.trans (BE7.out.mono (by have := RE.out.size; have := hq.out; omega))
  have TS : Hid (q3 < w7.heap.size) := by have := RS.out; have := BE7.out.size; rw [Hid]; omega
  have TC : Hid (TmAt F w7 x ci) := HCT.out.below BE7.out
  have TB := bw7
  have QR : Hid (qr ≠ q3) := by have := RS.out; have := hqr.out; rw [Hid]; omega
  clear bw6 bew6 hsw6 bw7 uw7 R3 RT R2 RE RS HCR HCT BE7 hqr
  go_upto_region 5 with (fail)
  refine region_begin (opsOf Tryz.f20 5) (fun W' => Blk W' qr 25 ci) (by kernel_rfl) (by kernel_rfl) 6 (by kernel_rfl) ?_
  intro Q' hQN hN
  have HS0 : Blk w7.drew qr 25 ci := TB
  have E3 : Hid (Blk w7.drew q3 25 cr) := T3.out
  have ET : Hid (TmAt (List.range (q + 2) ++ [q3]) w7.drew (appT f (l.take i)) cr) := TT.out.below (Below.refl _ _).drew
  have E2 : Hid (Blk w7.drew (q + 1) 25 z5T) := T2.out
  have EE : Hid (Below q w w7.drew) := TE.out.drew
  have ES : Hid (q3 < w7.drew.heap.size) := TS.out
  have EC : Hid (TmAt F w7.drew x ci) := TC.out.below (Below.refl _ _).drew
  generalize w7.drew = wd at HS0 E3 ET E2 EE ES EC ⊢
  clear T3 TT T2 TE TS TC TB
  refine reg_nowIf 1 (.agg (ci).toArray) (some 17) hQN HS0 (by kernel_rfl) (by kernel_rfl) (fun w' hw => exec_load_mid 25 (.tmp 7) (by kernel_rfl) (qr) 0 (by kernel_rfl) (ci) _ hw.whole Tryz.underlying25 rfl (t5Size CI5.out)) ?_
  refine reg_lc 0 2 (.agg cr.toArray) 16 18 41 #[.agg ci.toArray] _ HS0 (fun w1 hb1 => HS0.below hb1 HS0.lt) (by kernel_rfl) (by kernel_rfl) (by kernel_rfl) (by decide) (by decide) (exec_load_mid 25 (.tmp 5) (by kernel_rfl) q3 0 (by kernel_rfl) cr _ E3.out.whole Tryz.underlying25 rfl (t5Size CR5.out)) (fun vj w1 hb1 => exec_load_mid 25 (.tmp 5) (by kernel_rfl) q3 0 (by kernel_rfl) cr _ (E3.out.below hb1 E3.out.lt).whole Tryz.underlying25 rfl (t5Size CR5.out)) (by kernel_rfl) (by kernel_rfl) (clone_walk x ci wd F EC.out XS) ?_
  rintro e w8 ⟨c', rfl, hct8, hb8⟩
  refine ⟨hb8, _, rfl, ?_⟩
  have HS8 := HS0.below hb8 HS0.lt
  have G3 := Lib.hid (E3.out.below hb8 E3.out.lt)
  have GT := Lib.hid (ET.out.below hb8)
  have G2 := Lib.hid (E2.out.below hb8 E2.out.lt)
  have GE : Hid (Below q w w8) := EE.out.trans (hb8.mono (by have := EE.out.size; have := hq.out; omega))
  have GS : Hid (q3 < w8.heap.size) := by have := ES.out; have := hb8.size; rw [Hid]; omega
  have GC : Hid (TmAt (List.range (q + 2) ++ [q3]) w8 x c') := TmAt.off hct8 (fun k hk => by
   have h1 := ES.out
   have h2 := Q3.out
   rcases List.mem_append.1 hk with h | h
   ·have := List.mem_range.1 h; exact .inl (by omega)
   ·simp at h; exact .inl (by omega))
  obtain ⟨qn, hqn⟩ : ∃ y, Hid (w8.heap.size = y) := ⟨_, rfl⟩
  clear hct8 hb8 HS0 E3 ET E2 EE ES EC
  refine reg_row 3 25 (cr ++ c') qn 2 (some 19) (by kernel_rfl) (by kernel_rfl) hqn (exec_of _ _ (by kernel_rfl) (run_build_tm2 GT.out GC.out w8)) ?_
  intro w9 bw9 bew9 hsw9
  have bew9' : Below w8.heap.size w8 w9 := by rw [hqn.out]; exact bew9
  have HS9 := HS8.below bew9' HS8.lt
  refine ⟨HS9, ?_⟩
  have I3 := Lib.hid (G3.out.below bew9' G3.out.lt)
  have I2 := Lib.hid (G2.out.below bew9' G2.out.lt)
  have IE : Hid (Below q w w9) := GE.out.trans (bew9'.mono (by have := GE.out.size; have := hq.out; omega))
  have IS : Hid (q3 < w9.heap.size) := by have := GS.out; have := bew9'.size; rw [Hid]; omega
  have QN : Hid (q3 < qn) := by have := GS.out; have := hqn.out; rw [Hid]; omega
  have IT : Hid (TmAt (List.range (q + 2) ++ [q3]) w9 (.mk 5 0 [] [] [appT f (l.take i), x]) (twoC 5 qn)) := two_at 5 bw9 (GT.out.below bew9') (GC.out.below bew9') (fun hc => by
   have h1 := QN.out
   have h2 := Q3.out
   rcases List.mem_append.1 hc with h | h
   ·have := List.mem_range.1 h; omega
   ·simp at h; omega)
  clear bw9 bew9 bew9' hsw9 G3 GT G2 GE GS GC HS8
  refine reg_now 4 (.agg (twoC 5 qn).toArray) (some 20) hQN HS9 (by kernel_rfl) (by kernel_rfl) (fun w => by kernel_rfl) ?_
  refine reg_putT 5 25 (.tmp 5) (.tmp 20) q3 25 cr (twoC 5 qn) (by kernel_rfl) (by kernel_rfl) (by kernel_rfl) (by kernel_rfl) (by kernel_rfl) I3.out (by rw [CR5.out]; rfl) (t5Size rfl) (by simpa using twoC_one 5 qn) ?_
  intro w10 bw10 uw10
  refine ⟨uw10.blk HS9 QR.out, ?_⟩
  have N3 : Hid (Blk w10 q3 25 (twoC 5 qn)) := bw10
  have NT : Hid (TmAt (List.range (q + 2) ++ [q3]) w10 (appT f (l.take (i + 1))) (twoC 5 qn)) := by
   rw [Hid, TK.out]
   exact TmAt.step (Step.of_upd uw10 (List.mem_append_right _ (by simp))) _ _ IT.out
  have N2 : Hid (Blk w10 (q + 1) 25 z5T) := uw10.blk I2.out (by have := Q3.out; omega)
  have NE : Hid (Below q w w10) := uw10.below IE.out (by have := Q3.out; omega) (by have := IE.out.size; have := hq.out; omega)
  have NS : Hid (q3 < w10.heap.size) := by have := IS.out; have := uw10.size; rw [Hid]; omega
  clear bw10 uw10 HS9 I3 I2 IE IS IT TK
  refine reg_done (by kernel_rfl) (hN _ _ ?_)
  generalize hact : Act.put _ none _ = act
  simp only [Act.put, sA, sC, sZ] at hact
  subst hact
  have bl := SA.out
  go_wp2
  go_roundw
  case rel => exact ⟨i + 1, twoC 5 qn, by omega, by go_num, N3, NT, N2, NE, NS⟩
  case measure => simp [intOf]; omega
end Go.Proofs.YtmceocgddaaohaaGreatDoor
