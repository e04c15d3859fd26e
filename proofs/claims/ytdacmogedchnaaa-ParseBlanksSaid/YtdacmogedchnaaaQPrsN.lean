/- Sources as the parser reads them; what is read under a recover. -/
import Derived.Test.YtdacmogedchnaaaQGenT
import Derived.Test.YtdacmogedchnaaaQPrsK
namespace Go.Proofs.Ytdacmogedchnaaa
open Go Go.RowKit
set_option maxRecDepth 100000
theorem srcLoop_end {f : Nat} {ds : List Dl} (hf : 0 < f) : srcLoop f ds [] = .ok ds [] := by
 obtain ⟨g, rfl⟩ : ∃ g, f = g + 1 := ⟨f - 1, by omega⟩
 rw [srcLoop, if_pos rfl]
theorem srcLoop_go {f : Nat} {ds : List Dl} {l : List (List UInt8)} (h : ¬ l = []) : srcLoop (f + 1) ds l = if ds.length = 64 then .err l.length 14 else (declQ l).bind fun d r => srcLoop f (ds ++ [d]) r := by rw [srcLoop, if_neg h]
set_option maxHeartbeats 8000000 in
theorem source_walk (K : Nat → Nat) (q : Nat) (w : World) (l : List (List UInt8)) (h : PAt K q w l) : Calls Try.prog 18 #[.pointer (some ⟨q, 0, none⟩)] w (PP K q (sourceP l) (RDls K) w) := by
 obtain ⟨oo, hoo⟩ : ∃ oo, Hid (sourceP l = oo) := ⟨_, rfl⟩
 rw [hoo.out]
 have EQ := hoo
 clear hoo
 unfold sourceP at EQ
 obtain ⟨B, hB⟩ : ∃ B, Hid (w.heap.size = B) := ⟨_, rfl⟩
 have RD := Lib.hid h
 have QB : Hid (q < B) := by rw [← hB.out]; exact h.lt
 have BB : Hid (Bel [q] B w w) := Bel.refl _ _ _
 have SZ : Hid (B ≤ w.heap.size) := by rw [Hid, hB.out]; exact Nat.le_refl _
 clear h
 go_enter Try.func18, Try.ntmps18
 go_upto_region 0 with (fail)
 refine lbeg (opsOf Try.f18 0) ?_
 refine lnow 0 (.slice none 0 0) (some 2) ?_
 refine ldn 1 ?_
 generalize hact : Act.put _ (some 2) _ = act
 simp only [Act.put, sA, sC, sZ] at hact
 subst hact
 go_upto_region 1 with (fail)
 refine lbeg (opsOf Try.f18 1) ?_
 refine lnow 0 (.slice none 0 0) (some 3) ?_
 refine ldn 1 ?_
 generalize hact : Act.put _ (some 3) _ = act
 simp only [Act.put, sA, sC, sZ] at hact
 subst hact
 have LN := Lib.hid RD.out.len
 go_wp2
 go_loopg [3] l.length (fun g s3 wr => ∃ (f : Nat) (li : List (List UInt8)) (ls : List Dl) (rv : Value), li.length = g ∧ rv = s3 ∧ Hid (li.length + 1 ≤ f) ∧ Hid (ls.length ≤ 64) ∧ Hid (srcLoop f ls li = oo) ∧ Hid (PAt K q wr li) ∧ Hid (Bel [q] B w wr) ∧ Hid (DlRow K B wr rv ls) ∧ Hid (B ≤ wr.heap.size))
 case atStart => exact ⟨FU, l, [], _, rfl, rfl, (by have := LN.out; unfold FU; rw [Hid]; omega), (show ([] : List Dl).length ≤ 64 by simp), EQ, RD, BB, RowG.nil _ _ _, SZ⟩
 case round =>
  clear EQ RD BB SZ
  obtain ⟨f, li, ls, rv, hlg, hrv, FF, L8, EQ, RD, BB, RWF, SZ⟩ := hrel
  subst hlg
  subst hrv
  obtain ⟨la, lc, hrs⟩ := RWF.out.sl
  obtain ⟨M, hM⟩ : ∃ M, Hid (ls.length = M) := ⟨_, rfl⟩
  rw [hM.out] at hrs L8
  subst hrs
  have ff := FF.out
  have l8 := L8.out
  obtain ⟨f', rfl⟩ : ∃ f', f = f' + 1 := ⟨f - 1, by omega⟩
  by_cases c : li = []
  ·skip
   have C := Lib.hid c
   rw [C.out, srcLoop_end (Nat.succ_pos _)] at EQ
   go_upto_region 2 with (fail)
   refine lbeg (opsOf Try.f18 2) ?_
   refine lnow 0 (.pointer (some ⟨q, 0, none⟩)) (some 4) ?_
   refine lcal 1 23 #[.pointer (some ⟨q, 0, none⟩)] (some 5) _ (ended_walk K q wr li RD.out) ?_
   rintro e w' ⟨rfl, hw'⟩
   obtain rfl := hw'.symm
   refine ⟨_, rfl, ?_⟩
   rw [decide_eq_true C.out]
   refine lnow 2 (.bool false) (some 6) ?_
   refine ldn 3 ?_
   generalize hact : Act.put _ (some 6) _ = act
   simp only [Act.put, sA, sC, sZ] at hact
   subst hact
   have FIN : Hid (PP K q oo (RDls K) w (.returned (.slice la M lc)) wr) := PP.yes (by rw [hB.out]; exact BB.out) EQ.out (by rw [RDls, hB.out]; exact RowG.in (dlG K) RWF.out) (by have h9 := RD.out; rw [C.out] at h9; exact h9)
   clear RWF BB RD C c
   go_upto_region 6 with (fail)
   refine lbeg (opsOf Try.f18 6) ?_
   refine lnow 0 (.slice la M lc) (some 19) ?_
   refine lnow 1 (.slice la M lc) (some 2) ?_
   refine ldn 2 ?_
   generalize hact : Act.put _ (some 2) _ = act
   simp only [Act.put, sA, sC, sZ] at hact
   subst hact
   go_wp2
   go_ret
   exact FIN.out
  rw [srcLoop_go c, hM.out] at EQ
  go_upto_region 2 with (fail)
  refine lbeg (opsOf Try.f18 2) ?_
  refine lnow 0 (.pointer (some ⟨q, 0, none⟩)) (some 4) ?_
  refine lcal 1 23 #[.pointer (some ⟨q, 0, none⟩)] (some 5) _ (ended_walk K q wr li RD.out) ?_
  rintro e w' ⟨rfl, hw'⟩
  obtain rfl := hw'.symm
  refine ⟨_, rfl, ?_⟩
  rw [decide_eq_false c]
  refine lnow 2 (.bool true) (some 6) ?_
  refine ldn 3 ?_
  generalize hact : Act.put _ (some 6) _ = act
  simp only [Act.put, sA, sC, sZ] at hact
  subst hact
  go_upto_region 3 with (fail)
  refine lbeg (opsOf Try.f18 3) ?_
  refine lnow 0 (.slice la M lc) (some 7) ?_
  refine lnow 1 (.int .i64 (M : Int)) (some 8) ?_
  refine lnow 2 (.bool (decide ((M : Int) = 64))) (some 9) ?_
  by_cases hm : M = 64
  ·skip
   rw [decide_eq_true (by omega : (M : Int) = 64)]
   rw [if_pos hm] at EQ
   replace hm := Lib.hid hm
   refine ldn 3 ?_
   generalize hact : Act.put _ (some 9) _ = act
   simp only [Act.put, sA, sC, sZ] at hact
   subst hact
   go_upto_region 4 with (fail)
   refine lbeg (opsOf Try.f18 4) ?_
   refine lnow 0 (.pointer (some ⟨q, 0, none⟩)) (some 10) ?_
   refine lcal 1 35 #[.pointer (some ⟨q, 0, none⟩)] (some 11) _ (at_walk K q wr li RD.out) ?_
   rintro e w' ⟨rfl, hw'⟩
   obtain rfl := hw'.symm
   refine ⟨_, rfl, ?_⟩
   refine lnow 2 (.agg #[.int .i64 (K li.length : Int), .int .i64 14]) (some 12) ?_
   refine lnow 3 (.iface 74 (.agg #[.int .i64 (K li.length : Int), .int .i64 14])) (some 13) ?_
   refine lin_panic 4 (.iface 74 (.agg #[.int .i64 (K li.length : Int), .int .i64 14])) (by kernel_rfl) (by kernel_rfl) ?_
   exact ⟨rfl, PP.no (by rw [hB.out]; exact BB.out) EQ.out⟩
  rw [decide_eq_false (by omega : ¬ (M : Int) = 64)]
  rw [if_neg hm] at EQ
  refine ldn 3 ?_
  generalize hact : Act.put _ (some 9) _ = act
  simp only [Act.put, sA, sC, sZ] at hact
  subst hact
  go_upto_region 5 with (fail)
  refine lbeg (opsOf Try.f18 5) ?_
  refine lnow 0 (.slice la M lc) (some 14) ?_
  refine lnow 1 (.pointer (some ⟨q, 0, none⟩)) (some 15) ?_
  refine lin_callPP 2 36 #[.pointer (some ⟨q, 0, none⟩)] (some 16) (by kernel_rfl) (by kernel_rfl) (by kernel_rfl) (decl_walkY K q wr li RD.out) EQ (fun p c w' hb ho => ⟨rfl, PP.no (by rw [hB.out]; exact BB.out.trans (hb.mono SZ.out)) ho⟩) ?_
  intro x l3 vv w1 hx EQ1 hb hv hp
  replace EQ := EQ1
  clear EQ1
  obtain ⟨cs, rfl, hct⟩ := hv
  have DL := Lib.hid (declQ_lt hx)
  clear hx
  have CX := Lib.hid ((dlG K).old hct (range_own RWF.out SZ.out))
  clear hct
  replace RWF := Lib.hid (DlRow.call RWF.out hb (by have := QB.out; omega))
  replace BB := Lib.hid (BB.out.trans (hb.mono SZ.out))
  replace SZ := Lib.hid (Nat.le_trans SZ.out hb.size)
  replace RD := Lib.hid hp
  clear hb hp
  refine lin_rowG (dlG K) 40 27 infoDlY Try.underlying27 rfl (by decide) (by decide) (by decide) 3 (some 17) (some 18) x (cs) (.slice la M lc) ls (B) RWF.out (CX.out) (by have := hM.out; omega) (SZ.out) (by kernel_rfl) (by kernel_rfl) (by kernel_rfl) (fun _ => run_dl1 CX.out _) (fun _ => by kernel_rfl) (by kernel_rfl) (fun _ => by kernel_rfl) ?_
  intro zz rv2 wa hrow hbel
  replace RWF : Hid (DlRow K B wa rv2 (ls ++ [x])) := hrow
  replace RD := Lib.hid (RD.out.below hbel QB.out)
  replace BB := Lib.hid (BB.out.trans (Bel.of hbel))
  replace SZ := Lib.hid (Nat.le_trans SZ.out hbel.size)
  clear hrow hbel CX
  have LS : Hid ((ls ++ [x]).length = M + 1) := by rw [Hid, List.length_append, hM.out]; rfl
  have dl := DL.out
  refine lnow 5 (rv2) (some 3) ?_
  refine ldn 6 ?_
  generalize hact : Act.put _ (some 3) _ = act
  simp only [Act.put, sA, sC, sZ] at hact
  subst hact
  go_wp2
  go_roundg l3.length
  case rel => exact ⟨f', l3, ls ++ [x], rv2, rfl, rfl, (by rw [Hid]; omega), (by rw [Hid, LS.out]; omega), EQ, RD, BB, RWF, SZ⟩
  case measure => omega
theorem fS_walk (K : Nat → Nat) (q : Nat) (w : World) (l : List (List UInt8)) (h : PAt K q w l) : Calls Try.prog 17 #[.pointer (some ⟨q, 0, none⟩)] w (PP K q (sourceP l) (RDls K) w) := by
 obtain ⟨oo, hoo⟩ : ∃ oo, Hid (sourceP l = oo) := ⟨_, rfl⟩
 rw [hoo.out]
 have EQ : Hid (PR.bind (sourceP l) .ok = oo) := PR.tail hoo
 clear hoo
 obtain ⟨B, hB⟩ : ∃ B, Hid (w.heap.size = B) := ⟨_, rfl⟩
 have RD := Lib.hid h
 have QB : Hid (q < B) := by rw [← hB.out]; exact h.lt
 have BB : Hid (Bel [q] B w w) := Bel.refl _ _ _
 have SZ : Hid (B ≤ w.heap.size) := by rw [Hid, hB.out]; exact Nat.le_refl _
 clear h
 go_enter Try.func17, Try.ntmps17
 go_upto_region 0 with (fail)
 refine lbeg (opsOf Try.f17 0) ?_
 refine lnow 0 (.slice none 0 0) (some 2) ?_
 refine ldn 1 ?_
 generalize hact : Act.put _ (some 2) _ = act
 simp only [Act.put, sA, sC, sZ] at hact
 subst hact
 go_upto_region 1 with (fail)
 refine lbeg (opsOf Try.f17 1) ?_
 refine lnow 0 (.pointer (some ⟨q, 0, none⟩)) (some 3) ?_
 refine lin_callPP 1 18 #[.pointer (some ⟨q, 0, none⟩)] (some 4) (by kernel_rfl) (by kernel_rfl) (by kernel_rfl) (source_walk K q w l RD.out) EQ (fun p c w' hb ho => ⟨rfl, PP.no (by rw [hB.out]; exact BB.out.trans (hb.mono SZ.out)) ho⟩) ?_
 intro x l2 vv w1 hx EQ1 hb hv hp
 replace EQ := EQ1
 clear EQ1
 have DS : Hid (SlG (DlAt K) 18 (List.range w.heap.size) _ vv x) := hv
 clear hv hx
 replace BB := Lib.hid (BB.out.trans (hb.mono SZ.out))
 replace SZ := Lib.hid (Nat.le_trans SZ.out hb.size)
 replace RD := Lib.hid hp
 clear hb hp
 have FIN : Hid (PP K q oo (RDls K) w (.returned vv) w1) := PP.yes (by rw [hB.out]; exact BB.out) EQ.out DS.out RD.out
 clear DS RD BB
 refine lnow 2 (vv) (some 2) ?_
 refine ldn 3 ?_
 generalize hact : Act.put _ (some 2) _ = act
 simp only [Act.put, sA, sC, sZ] at hact
 subst hact
 go_wp2
 go_ret
 exact FIN.out
set_option maxHeartbeats 4000000 in
theorem fT_walk (K : Nat → Nat) (q : Nat) (w : World) (l : List (List UInt8)) (h : PAt K q w l) : Calls Try.prog 20 #[.pointer (some ⟨q, 0, none⟩)] w (PP K q (topP l) (RRw K) w) := by
 obtain ⟨oo, hoo⟩ : ∃ oo, Hid (topP l = oo) := ⟨_, rfl⟩
 rw [hoo.out]
 have EQ := hoo
 clear hoo
 unfold topP at EQ
 obtain ⟨B, hB⟩ : ∃ B, Hid (w.heap.size = B) := ⟨_, rfl⟩
 have RD := Lib.hid h
 have QB : Hid (q < B) := by rw [← hB.out]; exact h.lt
 have BB : Hid (Bel [q] B w w) := Bel.refl _ _ _
 have SZ : Hid (B ≤ w.heap.size) := by rw [Hid, hB.out]; exact Nat.le_refl _
 clear h
 go_enter Try.func20, Try.ntmps20
 go_upto_region 0 with (fail)
 refine lbeg (opsOf Try.f20 0) ?_
 refine lin_alloc 0 33 (z6R) (B) (some 2) (by kernel_rfl) (by kernel_rfl) (by kernel_rfl) zeroRw hB ?_
 intro w1 bx ex sx
 replace RD := Lib.hid (RD.out.below ex QB.out)
 replace BB : Hid (Bel [q] B w w1) := Bel.of ex
 replace SZ : Hid (B ≤ w1.heap.size) := Nat.le_of_lt bx.lt
 have BR := Lib.hid bx
 clear bx ex sx
 refine ldn 1 ?_
 generalize hact : Act.put _ (some 2) _ = act
 simp only [Act.put, sA, sC, sZ] at hact
 subst hact
 go_upto_region 1 with (fail)
 refine lbeg (opsOf Try.f20 1) ?_
 refine lnow 0 (.pointer (some ⟨q, 0, none⟩)) (some 4) ?_
 refine lin_callPP 1 21 #[.pointer (some ⟨q, 0, none⟩)] (some 5) (by kernel_rfl) (by kernel_rfl) (by kernel_rfl) (whole_walk K q w1 l RD.out) EQ (fun p c w' hb ho => ⟨rfl, PP.no (by rw [hB.out]; exact BB.out.trans (hb.mono SZ.out)) ho⟩) ?_
 intro x l2 vv w2 hx EQ1 hb hv hp
 replace EQ := EQ1
 clear EQ1
 obtain ⟨ca, rfl, hct⟩ := hv
 have TA := Lib.hid (hct.range (BR.out.lt : B + 1 ≤ _))
 clear hct hx
 replace BR := Lib.hid (bel_keep hb BR.out (by have := QB.out; omega) BR.out.lt)
 replace BB := Lib.hid (BB.out.trans (hb.mono SZ.out))
 replace SZ := Lib.hid (Nat.le_trans SZ.out hb.size)
 replace RD := Lib.hid hp
 clear hb hp
 obtain ⟨z, hz⟩ : ∃ z, Hid (w2.heap.size = z) := ⟨_, rfl⟩
 have oz : Hid (B ≤ z) := by rw [Hid, ← hz.out]; exact SZ.out
 have ozBR : Hid (B < z) := by rw [Hid, ← hz.out]; exact BR.out.lt
 refine lin_alloc 2 33 (z6R) (z) (some 3) (by kernel_rfl) (by kernel_rfl) (by kernel_rfl) zeroRw hz ?_
 intro w3 ba ea sa
 refine lput 3 33 (.tmp 3) (.tmp 5) (z) _ (z6R) (ca) ba (TA.out.len.trans z6_len.symm) (rwSize TA.out.len) (by simpa using TA.out.one) ?_
 intro w4 bb ub
 have eb : Below z w2 w4 := ub.below ea (Nat.le_refl _) (by have := ba.lt; omega)
 have BX := Lib.hid bb
 rw [← hz.out] at eb
 replace BR := Lib.hid (BR.out.below eb BR.out.lt)
 replace TA := Lib.hid (RwAt.low TA.out eb)
 replace RD := Lib.hid (RD.out.below eb RD.out.lt)
 replace BB := Lib.hid (BB.out.trans (Bel.of (eb.mono SZ.out)))
 replace SZ := Lib.hid (Nat.le_trans SZ.out eb.size)
 clear ba ea sa bb ub eb hz
 refine ldn 4 ?_
 generalize hact : Act.put _ none _ = act
 simp only [Act.put, sA, sC, sZ] at hact
 subst hact
 go_upto_region 2 with (fail)
 refine lbeg (opsOf Try.f20 2) ?_
 refine lnow 0 (.pointer (some ⟨q, 0, none⟩)) (some 6) ?_
 refine lnow 1 (.pointer (some ⟨q, 0, none⟩)) (some 7) ?_
 refine lcal 2 23 #[.pointer (some ⟨q, 0, none⟩)] (some 8) _ (ended_walk K q w4 l2 RD.out) ?_
 rintro e w' ⟨rfl, hw'⟩
 obtain rfl := hw'.symm
 refine ⟨_, rfl, ?_⟩
 by_cases c : l2 = []
 rotate_left
 ·skip
  rw [decide_eq_false c]
  rw [if_neg c] at EQ
  refine lin_callP 3 22 #[.pointer (some ⟨q, 0, none⟩), .bool false] (some 9) _ (by kernel_rfl) (by kernel_rfl) (by kernel_rfl) (need_noP K q w4 l2 RD.out) ?_
  rintro e w' ⟨rfl, hw'⟩
  obtain rfl := hw'.symm
  exact .inr ⟨_, rfl, rfl, PP.no (by rw [hB.out]; exact BB.out) EQ.out⟩
 rw [decide_eq_true c]
 rw [if_pos c] at EQ
 clear c
 refine lcal 3 22 #[.pointer (some ⟨q, 0, none⟩), .bool true] (some 9) _ (need_yesP q w4) ?_
 rintro e w' ⟨rfl, hw'⟩
 obtain rfl := hw'.symm
 refine ⟨_, rfl, ?_⟩
 refine ldn 4 ?_
 generalize hact : Act.put _ (some 9) _ = act
 simp only [Act.put, sA, sC, sZ] at hact
 subst hact
 go_upto_region 3 with (fail)
 refine lbeg (opsOf Try.f20 3) ?_
 refine lrl 0 (ca) (some 10) 33 3 z 0 BX.out.whole Try.underlying33 (rwSize TA.out.len) ?_
 refine lput 1 33 (.tmp 2) (.tmp 10) (B) _ z6R (ca) BR.out (TA.out.len.trans z6_len.symm) (rwSize TA.out.len) (by simpa using TA.out.one) ?_
 intro w99 b99 u99
 refine ldn 2 ?_
 generalize hact : Act.put _ none _ = act
 simp only [Act.put, sA, sC, sZ] at hact
 subst hact
 have C6 := Lib.hid TA.out.len
 have FIN : Hid (PP K q oo (RRw K) w (.returned (.agg (ca).toArray)) w99) := PP.yes (by rw [hB.out]; exact BB.out.newBlk u99 (Nat.le_refl _) SZ.out) EQ.out ⟨ca, rfl, by rw [hB.out]; exact TA.out.fin u99⟩ (RD.out.upd u99 QB.out)
 have HB := Lib.hid b99
 clear b99 u99 TA
 go_wp2
 refine bodyPost_ret (v := .agg (ca).toArray) ?_ rfl FIN.out
 exact results_cell_row (g := B) (t := 33) (cs := (ca).toArray) (fr := (0, 0)) Try.results20 _ _ _ rfl HB.out Try.underlying33 rfl (rwSize C6.out)
end Go.Proofs.Ytdacmogedchnaaa
