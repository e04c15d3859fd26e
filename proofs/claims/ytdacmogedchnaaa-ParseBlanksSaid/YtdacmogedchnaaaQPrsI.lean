/- Raw terms as the parser reads them: binders, atoms, terms. -/
import Derived.Test.YtdacmogedchnaaaQGenT
import Derived.Test.YtdacmogedchnaaaQPrsH
namespace Go.Proofs.Ytdacmogedchnaaa
open Go Go.RowKit
set_option maxRecDepth 100000
theorem sizeLvsP : (Try.prog.info? 30).map (·.size) = some 1 := by kernel_rfl
theorem node_set4 (K : Nat → Nat) (k n : Nat) (p : Option Nat) (s : List UInt8) (lv av lv' : Value) : (nodeC K k n p s lv av).set 4 lv' = nodeC K k n p s lv' av := rfl
set_option maxHeartbeats 8000000 in
theorem binder_walkY (K : Nat → Nat) (q : Nat) (w : World) (l : List (List UInt8)) (h : PAt K q w l) (T : List (List UInt8) → PR Rw) (hT2 : Lt2 T) (k p n : Nat) (HT : ∀ (w : World) (l : List (List UInt8)), l.length + 1 ≤ n → PAt K q w l → Calls Try.prog 38 #[.pointer (some ⟨q, 0, none⟩)] w (PP K q (T l) (RRw K) w)) (hn : l.length + 1 ≤ n) : Calls Try.prog 54 #[.pointer (some ⟨q, 0, none⟩), .int .i64 (k : Int), .int .i64 (K p : Int)] w (PP K q (bindG T k p l) (RRw K) w) := by
 obtain ⟨oo, hoo⟩ : ∃ oo, Hid (bindG T k p l = oo) := ⟨_, rfl⟩
 rw [hoo.out]
 have EQ := hoo
 clear hoo
 unfold bindG at EQ
 have LL := Lib.hid hn
 obtain ⟨B, hB⟩ : ∃ B, Hid (w.heap.size = B) := ⟨_, rfl⟩
 have RD := Lib.hid h
 have QB : Hid (q < B) := by rw [← hB.out]; exact h.lt
 have BB : Hid (Bel [q] B w w) := Bel.refl _ _ _
 have SZ : Hid (B ≤ w.heap.size) := by rw [Hid, hB.out]; exact Nat.le_refl _
 clear h
 go_enter Try.func54, Try.ntmps54
 go_upto_region 0 with (fail)
 refine lbeg (opsOf Try.f54 0) ?_
 refine lin_alloc 0 33 (z6R) (B) (some 6) (by kernel_rfl) (by kernel_rfl) (by kernel_rfl) zeroRw hB ?_
 intro w1 bx ex sx
 replace RD := Lib.hid (RD.out.below ex QB.out)
 replace BB : Hid (Bel [q] B w w1) := Bel.of ex
 replace SZ : Hid (B ≤ w1.heap.size) := Nat.le_of_lt bx.lt
 have BR := Lib.hid bx
 clear bx ex sx
 refine ldn 1 ?_
 generalize hact : Act.put _ (some 6) _ = act
 simp only [Act.put, sA, sC, sZ] at hact
 subst hact
 go_upto_region 1 with (fail)
 refine lbeg (opsOf Try.f54 1) ?_
 refine lnow 0 (.pointer (some ⟨q, 0, none⟩)) (some 9) ?_
 refine lin_callPP 1 52 #[.pointer (some ⟨q, 0, none⟩), sT [40]] (some 10) (by kernel_rfl) (by kernel_rfl) (by kernel_rfl) (expect_walk K q w1 l RD.out [40] (by decide)) EQ (fun p c w' hb ho => ⟨rfl, PP.no (by rw [hB.out]; exact BB.out.trans (hb.mono SZ.out)) ho⟩) ?_
 intro xe1 l3 vv w2 hx EQ1 hb hv hp
 replace EQ := EQ1
 clear EQ1
 obtain rfl : vv = .tuple #[] := hv
 replace BR := Lib.hid (bel_keep hb BR.out (by have := QB.out; omega) BR.out.lt)
 replace BB := Lib.hid (BB.out.trans (hb.mono SZ.out))
 replace SZ := Lib.hid (Nat.le_trans SZ.out hb.size)
 replace RD := Lib.hid hp
 clear hb hp
 replace LL : Hid (l3.length + 1 ≤ n) := by have := LL.out; have := exP_lt hx (by decide); rw [Hid]; omega
 clear hx
 refine ldn 2 ?_
 generalize hact : Act.put _ (some 10) _ = act
 simp only [Act.put, sA, sC, sZ] at hact
 subst hact
 go_upto_region 2 with (fail)
 refine lbeg (opsOf Try.f54 2) ?_
 refine lnow 0 (.pointer (some ⟨q, 0, none⟩)) (some 11) ?_
 refine lin_callPP 1 49 #[.pointer (some ⟨q, 0, none⟩)] (some 12) (by kernel_rfl) (by kernel_rfl) (by kernel_rfl) (name_walk K q w2 l3 RD.out) EQ (fun p c w' hb ho => ⟨rfl, PP.no (by rw [hB.out]; exact BB.out.trans (hb.mono SZ.out)) ho⟩) ?_
 intro s l5 vv w4 hx EQ1 hb hv hp
 replace EQ := EQ1
 clear EQ1
 obtain rfl : vv = sT s := hv
 replace BR := Lib.hid (bel_keep hb BR.out (by have := QB.out; omega) BR.out.lt)
 replace BB := Lib.hid (BB.out.trans (hb.mono SZ.out))
 replace SZ := Lib.hid (Nat.le_trans SZ.out hb.size)
 replace RD := Lib.hid hp
 clear hb hp
 replace LL : Hid (l5.length + 1 ≤ n) := by have := LL.out; have := namP_lt hx; rw [Hid]; omega
 clear hx
 refine lnow 2 (sT s) (some 7) ?_
 refine ldn 3 ?_
 generalize hact : Act.put _ (some 7) _ = act
 simp only [Act.put, sA, sC, sZ] at hact
 subst hact
 go_upto_region 3 with (fail)
 refine lbeg (opsOf Try.f54 3) ?_
 refine lnow 0 (.pointer (some ⟨q, 0, none⟩)) (some 13) ?_
 refine lin_callPP 1 52 #[.pointer (some ⟨q, 0, none⟩), sT [58]] (some 14) (by kernel_rfl) (by kernel_rfl) (by kernel_rfl) (expect_walk K q w4 l5 RD.out [58] (by decide)) EQ (fun p c w' hb ho => ⟨rfl, PP.no (by rw [hB.out]; exact BB.out.trans (hb.mono SZ.out)) ho⟩) ?_
 intro xe3 l7 vv w6 hx EQ1 hb hv hp
 replace EQ := EQ1
 clear EQ1
 obtain rfl : vv = .tuple #[] := hv
 replace BR := Lib.hid (bel_keep hb BR.out (by have := QB.out; omega) BR.out.lt)
 replace BB := Lib.hid (BB.out.trans (hb.mono SZ.out))
 replace SZ := Lib.hid (Nat.le_trans SZ.out hb.size)
 replace RD := Lib.hid hp
 clear hb hp
 replace LL : Hid (l7.length + 1 ≤ n) := by have := LL.out; have := exP_lt hx (by decide); rw [Hid]; omega
 clear hx
 refine ldn 2 ?_
 generalize hact : Act.put _ (some 14) _ = act
 simp only [Act.put, sA, sC, sZ] at hact
 subst hact
 go_upto_region 4 with (fail)
 refine lbeg (opsOf Try.f54 4) ?_
 refine lnow 0 (.pointer (some ⟨q, 0, none⟩)) (some 15) ?_
 refine lin_callPP 1 38 #[.pointer (some ⟨q, 0, none⟩)] (some 16) (by kernel_rfl) (by kernel_rfl) (by kernel_rfl) (HT w6 l7 (by have := LL.out; omega) RD.out) EQ (fun p c w' hb ho => ⟨rfl, PP.no (by rw [hB.out]; exact BB.out.trans (hb.mono SZ.out)) ho⟩) ?_
 intro a l9 vv w8 hx EQ1 hb hv hp
 replace EQ := EQ1
 clear EQ1
 obtain ⟨ca, rfl, hct⟩ := hv
 have TA := Lib.hid (hct.range (BR.out.lt : B + 1 ≤ _))
 replace BR := Lib.hid (bel_keep hb BR.out (by have := QB.out; omega) BR.out.lt)
 replace BB := Lib.hid (BB.out.trans (hb.mono SZ.out))
 replace SZ := Lib.hid (Nat.le_trans SZ.out hb.size)
 replace RD := Lib.hid hp
 clear hb hp
 replace LL : Hid (l9.length + 1 ≤ n) := by have := LL.out; have := hT2 hx; rw [Hid]; omega
 clear hx hct
 obtain ⟨z, hz⟩ : ∃ z, Hid (w8.heap.size = z) := ⟨_, rfl⟩
 have oz : Hid (B ≤ z) := by rw [Hid, ← hz.out]; exact SZ.out
 have ozBR : Hid (B < z) := by rw [Hid, ← hz.out]; exact BR.out.lt
 refine lin_alloc 2 33 (z6R) (z) (some 8) (by kernel_rfl) (by kernel_rfl) (by kernel_rfl) zeroRw hz ?_
 intro w10 ba ea sa
 refine lput 3 33 (.tmp 8) (.tmp 16) (z) _ (z6R) (ca) ba (TA.out.len.trans z6_len.symm) (rwSize TA.out.len) (by simpa using TA.out.one) ?_
 intro w11 bb ub
 have eb : Below z w8 w11 := ub.below ea (Nat.le_refl _) (by have := ba.lt; omega)
 have BX := Lib.hid bb
 rw [← hz.out] at eb
 replace BR := Lib.hid (BR.out.below eb BR.out.lt)
 replace TA := Lib.hid (RwAt.low TA.out eb)
 replace RD := Lib.hid (RD.out.below eb RD.out.lt)
 replace BB := Lib.hid (BB.out.trans (Bel.of (eb.mono SZ.out)))
 replace SZ := Lib.hid (Nat.le_trans SZ.out eb.size)
 clear ba ea sa bb ub eb hz
 refine ldn 4 ?_
 generalize hact : Act.put _ none _ = act
 simp only [Act.put, sA, sC, sZ] at hact
 subst hact
 go_upto_region 5 with (fail)
 refine lbeg (opsOf Try.f54 5) ?_
 refine lnow 0 (.pointer (some ⟨q, 0, none⟩)) (some 17) ?_
 refine lin_callPP 1 52 #[.pointer (some ⟨q, 0, none⟩), sT [41]] (some 18) (by kernel_rfl) (by kernel_rfl) (by kernel_rfl) (expect_walk K q w11 l9 RD.out [41] (by decide)) EQ (fun p c w' hb ho => ⟨rfl, PP.no (by rw [hB.out]; exact BB.out.trans (hb.mono SZ.out)) ho⟩) ?_
 intro xe5 l13 vv w12 hx EQ1 hb hv hp
 replace EQ := EQ1
 clear EQ1
 obtain rfl : vv = .tuple #[] := hv
 replace BR := Lib.hid (bel_keep hb BR.out (by have := QB.out; have := oz.out; have := ozBR.out; omega) BR.out.lt)
 replace BX := Lib.hid (bel_keep hb BX.out (by have := QB.out; have := oz.out; have := ozBR.out; omega) BX.out.lt)
 replace TA := Lib.hid (RwAt.call TA.out hb (by have := QB.out; have := oz.out; have := ozBR.out; omega))
 replace BB := Lib.hid (BB.out.trans (hb.mono SZ.out))
 replace SZ := Lib.hid (Nat.le_trans SZ.out hb.size)
 replace RD := Lib.hid hp
 clear hb hp
 replace LL : Hid (l13.length + 1 ≤ n) := by have := LL.out; have := exP_lt hx (by decide); rw [Hid]; omega
 clear hx
 refine ldn 2 ?_
 generalize hact : Act.put _ (some 18) _ = act
 simp only [Act.put, sA, sC, sZ] at hact
 subst hact
 go_upto_region 6 with (fail)
 refine lbeg (opsOf Try.f54 6) ?_
 refine lnow 0 (.pointer (some ⟨q, 0, none⟩)) (some 19) ?_
 refine lin_callPP 1 52 #[.pointer (some ⟨q, 0, none⟩), sT [44]] (some 20) (by kernel_rfl) (by kernel_rfl) (by kernel_rfl) (expect_walk K q w12 l13 RD.out [44] (by decide)) EQ (fun p c w' hb ho => ⟨rfl, PP.no (by rw [hB.out]; exact BB.out.trans (hb.mono SZ.out)) ho⟩) ?_
 intro xe6 l15 vv w14 hx EQ1 hb hv hp
 replace EQ := EQ1
 clear EQ1
 obtain rfl : vv = .tuple #[] := hv
 replace BR := Lib.hid (bel_keep hb BR.out (by have := QB.out; have := oz.out; have := ozBR.out; omega) BR.out.lt)
 replace BX := Lib.hid (bel_keep hb BX.out (by have := QB.out; have := oz.out; have := ozBR.out; omega) BX.out.lt)
 replace TA := Lib.hid (RwAt.call TA.out hb (by have := QB.out; have := oz.out; have := ozBR.out; omega))
 replace BB := Lib.hid (BB.out.trans (hb.mono SZ.out))
 replace SZ := Lib.hid (Nat.le_trans SZ.out hb.size)
 replace RD := Lib.hid hp
 clear hb hp
 replace LL : Hid (l15.length + 1 ≤ n) := by have := LL.out; have := exP_lt hx (by decide); rw [Hid]; omega
 clear hx
 refine ldn 2 ?_
 generalize hact : Act.put _ (some 20) _ = act
 simp only [Act.put, sA, sC, sZ] at hact
 subst hact
 go_upto_region 7 with (fail)
 refine region_beginP (opsOf Try.f54 7) (fun _ => True) (by kernel_rfl) (by kernel_rfl) 9 (by kernel_rfl) ?_
 intro Q' hQN hN hP
 have HD : Below w14.heap.size w14 (World.drew w14) := (Below.refl _ _).drew
 replace BR := Lib.hid (BR.out.below HD BR.out.lt)
 replace BX := Lib.hid (BX.out.below HD BX.out.lt)
 replace TA := Lib.hid (RwAt.low TA.out HD)
 replace RD := Lib.hid (RD.out.below HD RD.out.lt)
 replace BB := Lib.hid (BB.out.trans (Bel.of (HD.mono SZ.out)))
 replace SZ := Lib.hid (Nat.le_trans SZ.out HD.size)
 clear HD
 generalize World.drew w14 = wd at RD BB SZ BR BX TA ⊢
 refine reg_now 0 (.int .i64 (k : Int)) (some 21) hQN trivial (by kernel_rfl) (by kernel_rfl) (fun w => by kernel_rfl) ?_
 refine reg_now 1 (.int .i64 (K p : Int)) (some 22) hQN trivial (by kernel_rfl) (by kernel_rfl) (fun w => by kernel_rfl) ?_
 refine reg_now 2 (sT s) (some 23) hQN trivial (by kernel_rfl) (by kernel_rfl) (fun w => by kernel_rfl) ?_
 refine reg_now 4 (.pointer (some ⟨q, 0, none⟩)) (some 25) hQN trivial (by kernel_rfl) (by kernel_rfl) (fun w => by kernel_rfl) ?_
 refine reg_lcPP 3 5 (.agg ca.toArray) 24 26 38 #[.pointer (some ⟨q, 0, none⟩)] (by kernel_rfl) (by kernel_rfl) (by kernel_rfl) (by decide) (by decide) (exec_load_mid 33 (.tmp 8) (by kernel_rfl) z 0 (by kernel_rfl) ca _ BX.out.whole Try.underlying33 rfl (rwSize TA.out.len)) (fun vj w1 hb1 => exec_load_mid 33 (.tmp 8) (by kernel_rfl) z 0 (by kernel_rfl) ca _ (bel_keep hb1 BX.out (by have := QB.out; have := ozBR.out; omega) BX.out.lt).whole Try.underlying33 rfl (rwSize TA.out.len)) (by kernel_rfl) (by kernel_rfl) (HT wd l15 (by have := LL.out; omega) RD.out) EQ (fun p c w' hb ho a1 h1 => hP _ _ _ fun a' ha' => ⟨ha'.trans h1, PP.no (by rw [hB.out]; exact BB.out.trans (hb.mono SZ.out)) ho⟩) ?_
 intro b l17 vv w16 hx EQ1 hb hv hp
 replace EQ := EQ1
 clear EQ1
 obtain ⟨cb, rfl, hct⟩ := hv
 have TB := Lib.hid (hct.range (BR.out.lt : B + 1 ≤ _))
 clear hct hx
 replace BR := Lib.hid (bel_keep hb BR.out (by have := QB.out; have := oz.out; have := ozBR.out; omega) BR.out.lt)
 replace BX := Lib.hid (bel_keep hb BX.out (by have := QB.out; have := oz.out; have := ozBR.out; omega) BX.out.lt)
 replace TA := Lib.hid (RwAt.call TA.out hb (by have := QB.out; have := oz.out; have := ozBR.out; omega))
 replace BB := Lib.hid (BB.out.trans (hb.mono SZ.out))
 replace SZ := Lib.hid (Nat.le_trans SZ.out hb.size)
 replace RD := Lib.hid hp
 clear hb hp
 obtain ⟨za, hza⟩ : ∃ za, Hid (w16.heap.size = za) := ⟨_, rfl⟩
 have oza : Hid (B ≤ za) := by rw [Hid, ← hza.out]; exact SZ.out
 have ozaBR : Hid (B < za) := by rw [Hid, ← hza.out]; exact BR.out.lt
 have ozaBX : Hid (z < za) := by rw [Hid, ← hza.out]; exact BX.out.lt
 refine reg_row 6 33 (ca ++ cb) za 2 (some 27) (by kernel_rfl) (by kernel_rfl) hza (exec_of _ _ (by kernel_rfl) (run_args2 TA.out TB.out _)) ?_
 intro w18 bb eb sb
 refine ⟨trivial, ?_⟩
 have BA := Lib.hid bb
 rw [← hza.out] at eb
 replace BR := Lib.hid (BR.out.below eb BR.out.lt)
 replace BX := Lib.hid (BX.out.below eb BX.out.lt)
 replace TA := Lib.hid (RwAt.low TA.out eb)
 replace TB := Lib.hid (RwAt.low TB.out eb)
 replace RD := Lib.hid (RD.out.below eb RD.out.lt)
 replace BB := Lib.hid (BB.out.trans (Bel.of (eb.mono SZ.out)))
 replace SZ := Lib.hid (Nat.le_trans SZ.out eb.size)
 clear bb eb sb hza
 have HN : Hid (RwAt K (List.range (B + 1)) w18 (.mk k 0 (some p) s 0 [a, b]) (nodeC K k 0 (some p) s (.slice none 0 0) (.slice (some ⟨za, 0, none⟩) 2 2))) := node_at (LvsN.nil _ _ _ _) (args2 BA.out TA.out TB.out (range_no ozaBR.out))
 refine reg_now 7 (.agg (nodeC K k 0 (some p) s (.slice none 0 0) (.slice (some ⟨za, 0, none⟩) 2 2)).toArray) (some 28) hQN trivial (by kernel_rfl) (by kernel_rfl) (fun w => by kernel_rfl) ?_
 refine reg_putT 8 33 (.tmp 6) (.tmp 28) B _ z6R (nodeC K k 0 (some p) s (.slice none 0 0) (.slice (some ⟨za, 0, none⟩) 2 2)) (by kernel_rfl) (by kernel_rfl) (by kernel_rfl) (by kernel_rfl) (by kernel_rfl) BR.out (HN.out.len.trans z6_len.symm) (rwSize HN.out.len) (by simpa using HN.out.one) ?_
 intro w99 b99 u99
 refine ⟨trivial, ?_⟩
 refine reg_done (by kernel_rfl) (hN _ _ ?_)
 generalize hact : Act.put _ none _ = act
 simp only [Act.put, sA, sC, sZ] at hact
 subst hact
 clear hQN hN hP
 have C6 := Lib.hid HN.out.len
 have FIN : Hid (PP K q oo (RRw K) w (.returned (.agg (nodeC K k 0 (some p) s (.slice none 0 0) (.slice (some ⟨za, 0, none⟩) 2 2)).toArray)) w99) := PP.yes (by rw [hB.out]; exact BB.out.newBlk u99 (Nat.le_refl _) SZ.out) EQ.out ⟨nodeC K k 0 (some p) s (.slice none 0 0) (.slice (some ⟨za, 0, none⟩) 2 2), rfl, by rw [hB.out]; exact HN.out.fin u99⟩ (RD.out.upd u99 QB.out)
 have HB := Lib.hid b99
 clear b99 u99 HN
 go_wp2
 refine bodyPost_ret (v := .agg (nodeC K k 0 (some p) s (.slice none 0 0) (.slice (some ⟨za, 0, none⟩) 2 2)).toArray) ?_ rfl FIN.out
 exact results_cell_row (g := B) (t := 33) (cs := (nodeC K k 0 (some p) s (.slice none 0 0) (.slice (some ⟨za, 0, none⟩) 2 2)).toArray) (fr := (0, 0)) Try.results54 _ _ _ rfl HB.out Try.underlying33 rfl (rwSize C6.out)
set_option maxHeartbeats 8000000 in
theorem let_walk (K : Nat → Nat) (q : Nat) (w : World) (l : List (List UInt8)) (h : PAt K q w l) (T : List (List UInt8) → PR Rw) (hT2 : Lt2 T) (p n : Nat) (HT : ∀ (w : World) (l : List (List UInt8)), l.length + 1 ≤ n → PAt K q w l → Calls Try.prog 38 #[.pointer (some ⟨q, 0, none⟩)] w (PP K q (T l) (RRw K) w)) (hn : l.length + 1 ≤ n) : Calls Try.prog 55 #[.pointer (some ⟨q, 0, none⟩), .int .i64 (K p : Int)] w (PP K q (letG T p l) (RRw K) w) := by
 obtain ⟨oo, hoo⟩ : ∃ oo, Hid (letG T p l = oo) := ⟨_, rfl⟩
 rw [hoo.out]
 have EQ := hoo
 clear hoo
 unfold letG at EQ
 have LL := Lib.hid hn
 obtain ⟨B, hB⟩ : ∃ B, Hid (w.heap.size = B) := ⟨_, rfl⟩
 have RD := Lib.hid h
 have QB : Hid (q < B) := by rw [← hB.out]; exact h.lt
 have BB : Hid (Bel [q] B w w) := Bel.refl _ _ _
 have SZ : Hid (B ≤ w.heap.size) := by rw [Hid, hB.out]; exact Nat.le_refl _
 clear h
 go_enter Try.func55, Try.ntmps55
 go_upto_region 0 with (fail)
 refine lbeg (opsOf Try.f55 0) ?_
 refine lin_alloc 0 33 (z6R) (B) (some 4) (by kernel_rfl) (by kernel_rfl) (by kernel_rfl) zeroRw hB ?_
 intro w1 bx ex sx
 replace RD := Lib.hid (RD.out.below ex QB.out)
 replace BB : Hid (Bel [q] B w w1) := Bel.of ex
 replace SZ : Hid (B ≤ w1.heap.size) := Nat.le_of_lt bx.lt
 have BR := Lib.hid bx
 clear bx ex sx
 refine ldn 1 ?_
 generalize hact : Act.put _ (some 4) _ = act
 simp only [Act.put, sA, sC, sZ] at hact
 subst hact
 go_upto_region 1 with (fail)
 refine lbeg (opsOf Try.f55 1) ?_
 refine lnow 0 (.pointer (some ⟨q, 0, none⟩)) (some 8) ?_
 refine lin_callPP 1 49 #[.pointer (some ⟨q, 0, none⟩)] (some 9) (by kernel_rfl) (by kernel_rfl) (by kernel_rfl) (name_walk K q w1 l RD.out) EQ (fun p c w' hb ho => ⟨rfl, PP.no (by rw [hB.out]; exact BB.out.trans (hb.mono SZ.out)) ho⟩) ?_
 intro s l3 vv w2 hx EQ1 hb hv hp
 replace EQ := EQ1
 clear EQ1
 obtain rfl : vv = sT s := hv
 replace BR := Lib.hid (bel_keep hb BR.out (by have := QB.out; omega) BR.out.lt)
 replace BB := Lib.hid (BB.out.trans (hb.mono SZ.out))
 replace SZ := Lib.hid (Nat.le_trans SZ.out hb.size)
 replace RD := Lib.hid hp
 clear hb hp
 replace LL : Hid (l3.length + 1 ≤ n) := by have := LL.out; have := namP_lt hx; rw [Hid]; omega
 clear hx
 refine lnow 2 (sT s) (some 5) ?_
 refine ldn 3 ?_
 generalize hact : Act.put _ (some 5) _ = act
 simp only [Act.put, sA, sC, sZ] at hact
 subst hact
 go_upto_region 2 with (fail)
 refine lbeg (opsOf Try.f55 2) ?_
 refine lnow 0 (.pointer (some ⟨q, 0, none⟩)) (some 10) ?_
 refine lin_callPP 1 52 #[.pointer (some ⟨q, 0, none⟩), sT [58]] (some 11) (by kernel_rfl) (by kernel_rfl) (by kernel_rfl) (expect_walk K q w2 l3 RD.out [58] (by decide)) EQ (fun p c w' hb ho => ⟨rfl, PP.no (by rw [hB.out]; exact BB.out.trans (hb.mono SZ.out)) ho⟩) ?_
 intro xe2 l5 vv w4 hx EQ1 hb hv hp
 replace EQ := EQ1
 clear EQ1
 obtain rfl : vv = .tuple #[] := hv
 replace BR := Lib.hid (bel_keep hb BR.out (by have := QB.out; omega) BR.out.lt)
 replace BB := Lib.hid (BB.out.trans (hb.mono SZ.out))
 replace SZ := Lib.hid (Nat.le_trans SZ.out hb.size)
 replace RD := Lib.hid hp
 clear hb hp
 replace LL : Hid (l5.length + 1 ≤ n) := by have := LL.out; have := exP_lt hx (by decide); rw [Hid]; omega
 clear hx
 refine ldn 2 ?_
 generalize hact : Act.put _ (some 11) _ = act
 simp only [Act.put, sA, sC, sZ] at hact
 subst hact
 go_upto_region 3 with (fail)
 refine lbeg (opsOf Try.f55 3) ?_
 refine lnow 0 (.pointer (some ⟨q, 0, none⟩)) (some 12) ?_
 refine lin_callPP 1 38 #[.pointer (some ⟨q, 0, none⟩)] (some 13) (by kernel_rfl) (by kernel_rfl) (by kernel_rfl) (HT w4 l5 (by have := LL.out; omega) RD.out) EQ (fun p c w' hb ho => ⟨rfl, PP.no (by rw [hB.out]; exact BB.out.trans (hb.mono SZ.out)) ho⟩) ?_
 intro a l7 vv w6 hx EQ1 hb hv hp
 replace EQ := EQ1
 clear EQ1
 obtain ⟨ca, rfl, hct⟩ := hv
 have TA := Lib.hid (hct.range (BR.out.lt : B + 1 ≤ _))
 replace BR := Lib.hid (bel_keep hb BR.out (by have := QB.out; omega) BR.out.lt)
 replace BB := Lib.hid (BB.out.trans (hb.mono SZ.out))
 replace SZ := Lib.hid (Nat.le_trans SZ.out hb.size)
 replace RD := Lib.hid hp
 clear hb hp
 replace LL : Hid (l7.length + 1 ≤ n) := by have := LL.out; have := hT2 hx; rw [Hid]; omega
 clear hx hct
 obtain ⟨z, hz⟩ : ∃ z, Hid (w6.heap.size = z) := ⟨_, rfl⟩
 have oz : Hid (B ≤ z) := by rw [Hid, ← hz.out]; exact SZ.out
 have ozBR : Hid (B < z) := by rw [Hid, ← hz.out]; exact BR.out.lt
 refine lin_alloc 2 33 (z6R) (z) (some 6) (by kernel_rfl) (by kernel_rfl) (by kernel_rfl) zeroRw hz ?_
 intro w8 ba ea sa
 refine lput 3 33 (.tmp 6) (.tmp 13) (z) _ (z6R) (ca) ba (TA.out.len.trans z6_len.symm) (rwSize TA.out.len) (by simpa using TA.out.one) ?_
 intro w9 bb ub
 have eb : Below z w6 w9 := ub.below ea (Nat.le_refl _) (by have := ba.lt; omega)
 have BX := Lib.hid bb
 rw [← hz.out] at eb
 replace BR := Lib.hid (BR.out.below eb BR.out.lt)
 replace TA := Lib.hid (RwAt.low TA.out eb)
 replace RD := Lib.hid (RD.out.below eb RD.out.lt)
 replace BB := Lib.hid (BB.out.trans (Bel.of (eb.mono SZ.out)))
 replace SZ := Lib.hid (Nat.le_trans SZ.out eb.size)
 clear ba ea sa bb ub eb hz
 refine ldn 4 ?_
 generalize hact : Act.put _ none _ = act
 simp only [Act.put, sA, sC, sZ] at hact
 subst hact
 go_upto_region 4 with (fail)
 refine lbeg (opsOf Try.f55 4) ?_
 refine lnow 0 (.pointer (some ⟨q, 0, none⟩)) (some 14) ?_
 refine lin_callPP 1 52 #[.pointer (some ⟨q, 0, none⟩), sT [58, 61]] (some 15) (by kernel_rfl) (by kernel_rfl) (by kernel_rfl) (expect_walk K q w9 l7 RD.out [58, 61] (by decide)) EQ (fun p c w' hb ho => ⟨rfl, PP.no (by rw [hB.out]; exact BB.out.trans (hb.mono SZ.out)) ho⟩) ?_
 intro xe4 l11 vv w10 hx EQ1 hb hv hp
 replace EQ := EQ1
 clear EQ1
 obtain rfl : vv = .tuple #[] := hv
 replace BR := Lib.hid (bel_keep hb BR.out (by have := QB.out; have := oz.out; have := ozBR.out; omega) BR.out.lt)
 replace BX := Lib.hid (bel_keep hb BX.out (by have := QB.out; have := oz.out; have := ozBR.out; omega) BX.out.lt)
 replace TA := Lib.hid (RwAt.call TA.out hb (by have := QB.out; have := oz.out; have := ozBR.out; omega))
 replace BB := Lib.hid (BB.out.trans (hb.mono SZ.out))
 replace SZ := Lib.hid (Nat.le_trans SZ.out hb.size)
 replace RD := Lib.hid hp
 clear hb hp
 replace LL : Hid (l11.length + 1 ≤ n) := by have := LL.out; have := exP_lt hx (by decide); rw [Hid]; omega
 clear hx
 refine ldn 2 ?_
 generalize hact : Act.put _ (some 15) _ = act
 simp only [Act.put, sA, sC, sZ] at hact
 subst hact
 go_upto_region 5 with (fail)
 refine lbeg (opsOf Try.f55 5) ?_
 refine lnow 0 (.pointer (some ⟨q, 0, none⟩)) (some 16) ?_
 refine lin_callPP 1 38 #[.pointer (some ⟨q, 0, none⟩)] (some 17) (by kernel_rfl) (by kernel_rfl) (by kernel_rfl) (HT w10 l11 (by have := LL.out; omega) RD.out) EQ (fun p c w' hb ho => ⟨rfl, PP.no (by rw [hB.out]; exact BB.out.trans (hb.mono SZ.out)) ho⟩) ?_
 intro b l13 vv w12 hx EQ1 hb hv hp
 replace EQ := EQ1
 clear EQ1
 obtain ⟨cb, rfl, hct⟩ := hv
 have TB := Lib.hid (hct.range (BR.out.lt : B + 1 ≤ _))
 replace BR := Lib.hid (bel_keep hb BR.out (by have := QB.out; have := oz.out; have := ozBR.out; omega) BR.out.lt)
 replace BX := Lib.hid (bel_keep hb BX.out (by have := QB.out; have := oz.out; have := ozBR.out; omega) BX.out.lt)
 replace TA := Lib.hid (RwAt.call TA.out hb (by have := QB.out; have := oz.out; have := ozBR.out; omega))
 replace BB := Lib.hid (BB.out.trans (hb.mono SZ.out))
 replace SZ := Lib.hid (Nat.le_trans SZ.out hb.size)
 replace RD := Lib.hid hp
 clear hb hp
 replace LL : Hid (l13.length + 1 ≤ n) := by have := LL.out; have := hT2 hx; rw [Hid]; omega
 clear hx hct
 obtain ⟨y, hy⟩ : ∃ y, Hid (w12.heap.size = y) := ⟨_, rfl⟩
 have oy : Hid (B ≤ y) := by rw [Hid, ← hy.out]; exact SZ.out
 have oyBR : Hid (B < y) := by rw [Hid, ← hy.out]; exact BR.out.lt
 have oyBX : Hid (z < y) := by rw [Hid, ← hy.out]; exact BX.out.lt
 refine lin_alloc 2 33 (z6R) (y) (some 7) (by kernel_rfl) (by kernel_rfl) (by kernel_rfl) zeroRw hy ?_
 intro w14 ba ea sa
 refine lput 3 33 (.tmp 7) (.tmp 17) (y) _ (z6R) (cb) ba (TB.out.len.trans z6_len.symm) (rwSize TB.out.len) (by simpa using TB.out.one) ?_
 intro w15 bb ub
 have eb : Below y w12 w15 := ub.below ea (Nat.le_refl _) (by have := ba.lt; omega)
 have BY := Lib.hid bb
 rw [← hy.out] at eb
 replace BR := Lib.hid (BR.out.below eb BR.out.lt)
 replace BX := Lib.hid (BX.out.below eb BX.out.lt)
 replace TA := Lib.hid (RwAt.low TA.out eb)
 replace TB := Lib.hid (RwAt.low TB.out eb)
 replace RD := Lib.hid (RD.out.below eb RD.out.lt)
 replace BB := Lib.hid (BB.out.trans (Bel.of (eb.mono SZ.out)))
 replace SZ := Lib.hid (Nat.le_trans SZ.out eb.size)
 clear ba ea sa bb ub eb hy
 refine ldn 4 ?_
 generalize hact : Act.put _ none _ = act
 simp only [Act.put, sA, sC, sZ] at hact
 subst hact
 go_upto_region 6 with (fail)
 refine lbeg (opsOf Try.f55 6) ?_
 refine lnow 0 (.pointer (some ⟨q, 0, none⟩)) (some 18) ?_
 refine lin_callPP 1 52 #[.pointer (some ⟨q, 0, none⟩), sT [105, 110]] (some 19) (by kernel_rfl) (by kernel_rfl) (by kernel_rfl) (expect_walk K q w15 l13 RD.out [105, 110] (by decide)) EQ (fun p c w' hb ho => ⟨rfl, PP.no (by rw [hB.out]; exact BB.out.trans (hb.mono SZ.out)) ho⟩) ?_
 intro xe6 l17 vv w16 hx EQ1 hb hv hp
 replace EQ := EQ1
 clear EQ1
 obtain rfl : vv = .tuple #[] := hv
 replace BR := Lib.hid (bel_keep hb BR.out (by have := QB.out; have := oz.out; have := ozBR.out; have := oy.out; have := oyBR.out; have := oyBX.out; omega) BR.out.lt)
 replace BX := Lib.hid (bel_keep hb BX.out (by have := QB.out; have := oz.out; have := ozBR.out; have := oy.out; have := oyBR.out; have := oyBX.out; omega) BX.out.lt)
 replace BY := Lib.hid (bel_keep hb BY.out (by have := QB.out; have := oz.out; have := ozBR.out; have := oy.out; have := oyBR.out; have := oyBX.out; omega) BY.out.lt)
 replace TA := Lib.hid (RwAt.call TA.out hb (by have := QB.out; have := oz.out; have := ozBR.out; have := oy.out; have := oyBR.out; have := oyBX.out; omega))
 replace TB := Lib.hid (RwAt.call TB.out hb (by have := QB.out; have := oz.out; have := ozBR.out; have := oy.out; have := oyBR.out; have := oyBX.out; omega))
 replace BB := Lib.hid (BB.out.trans (hb.mono SZ.out))
 replace SZ := Lib.hid (Nat.le_trans SZ.out hb.size)
 replace RD := Lib.hid hp
 clear hb hp
 replace LL : Hid (l17.length + 1 ≤ n) := by have := LL.out; have := exP_lt hx (by decide); rw [Hid]; omega
 clear hx
 refine ldn 2 ?_
 generalize hact : Act.put _ (some 19) _ = act
 simp only [Act.put, sA, sC, sZ] at hact
 subst hact
 go_upto_region 7 with (fail)
 refine region_beginP (opsOf Try.f55 7) (fun _ => True) (by kernel_rfl) (by kernel_rfl) 9 (by kernel_rfl) ?_
 intro Q' hQN hN hP
 have HD : Below w16.heap.size w16 (World.drew w16) := (Below.refl _ _).drew
 replace BR := Lib.hid (BR.out.below HD BR.out.lt)
 replace BX := Lib.hid (BX.out.below HD BX.out.lt)
 replace BY := Lib.hid (BY.out.below HD BY.out.lt)
 replace TA := Lib.hid (RwAt.low TA.out HD)
 replace TB := Lib.hid (RwAt.low TB.out HD)
 replace RD := Lib.hid (RD.out.below HD RD.out.lt)
 replace BB := Lib.hid (BB.out.trans (Bel.of (HD.mono SZ.out)))
 replace SZ := Lib.hid (Nat.le_trans SZ.out HD.size)
 clear HD
 generalize World.drew w16 = wd at RD BB SZ BR BX BY TA TB ⊢
 refine reg_now 0 (.int .i64 (K p : Int)) (some 20) hQN trivial (by kernel_rfl) (by kernel_rfl) (fun w => by kernel_rfl) ?_
 refine reg_now 1 (sT s) (some 21) hQN trivial (by kernel_rfl) (by kernel_rfl) (fun w => by kernel_rfl) ?_
 refine reg_now 4 (.pointer (some ⟨q, 0, none⟩)) (some 24) hQN trivial (by kernel_rfl) (by kernel_rfl) (fun w => by kernel_rfl) ?_
 refine reg_llcPP 2 3 5 (.agg ca.toArray) (.agg cb.toArray) 22 23 25 38 #[.pointer (some ⟨q, 0, none⟩)] (by kernel_rfl) (by kernel_rfl) (by kernel_rfl) (by kernel_rfl) (by decide) (by decide) (by decide) (by decide) (by decide) (by decide) (exec_load_mid 33 (.tmp 6) (by kernel_rfl) z 0 (by kernel_rfl) ca _ BX.out.whole Try.underlying33 rfl (rwSize TA.out.len)) (exec_load_mid 33 (.tmp 6) (by kernel_rfl) z 0 (by kernel_rfl) ca _ BX.out.whole Try.underlying33 rfl (rwSize TA.out.len)) (fun vj w1 hb1 => exec_load_mid 33 (.tmp 6) (by kernel_rfl) z 0 (by kernel_rfl) ca _ (bel_keep hb1 BX.out (by have := QB.out; have := ozBR.out; omega) BX.out.lt).whole Try.underlying33 rfl (rwSize TA.out.len)) (fun vj w1 hb1 => exec_load_mid 33 (.tmp 6) (by kernel_rfl) z 0 (by kernel_rfl) ca _ (bel_keep hb1 BX.out (by have := QB.out; have := ozBR.out; omega) BX.out.lt).whole Try.underlying33 rfl (rwSize TA.out.len)) (fun vj w1 hb1 => exec_load_mid 33 (.tmp 6) (by kernel_rfl) z 0 (by kernel_rfl) ca _ (bel_keep hb1 BX.out (by have := QB.out; have := ozBR.out; omega) BX.out.lt).whole Try.underlying33 rfl (rwSize TA.out.len)) (exec_load_mid 33 (.tmp 7) (by kernel_rfl) y 0 (by kernel_rfl) cb _ BY.out.whole Try.underlying33 rfl (rwSize TB.out.len)) (exec_load_mid 33 (.tmp 7) (by kernel_rfl) y 0 (by kernel_rfl) cb _ BY.out.whole Try.underlying33 rfl (rwSize TB.out.len)) (fun vj w1 hb1 => exec_load_mid 33 (.tmp 7) (by kernel_rfl) y 0 (by kernel_rfl) cb _ (bel_keep hb1 BY.out (by have := QB.out; have := oyBR.out; omega) BY.out.lt).whole Try.underlying33 rfl (rwSize TB.out.len)) (fun vj w1 hb1 => exec_load_mid 33 (.tmp 7) (by kernel_rfl) y 0 (by kernel_rfl) cb _ (bel_keep hb1 BY.out (by have := QB.out; have := oyBR.out; omega) BY.out.lt).whole Try.underlying33 rfl (rwSize TB.out.len)) (fun vj w1 hb1 => exec_load_mid 33 (.tmp 7) (by kernel_rfl) y 0 (by kernel_rfl) cb _ (bel_keep hb1 BY.out (by have := QB.out; have := oyBR.out; omega) BY.out.lt).whole Try.underlying33 rfl (rwSize TB.out.len)) (by kernel_rfl) (by kernel_rfl) (by kernel_rfl) (by kernel_rfl) (by kernel_rfl) (HT wd l17 (by have := LL.out; omega) RD.out) EQ (fun p c w' hb ho a1 h1 => hP _ _ _ fun a' ha' => ⟨ha'.trans h1, PP.no (by rw [hB.out]; exact BB.out.trans (hb.mono SZ.out)) ho⟩) ?_
 intro c l19 vv w18 hx EQ1 hb hv hp
 replace EQ := EQ1
 clear EQ1
 obtain ⟨cc, rfl, hct⟩ := hv
 have TC := Lib.hid (hct.range (BR.out.lt : B + 1 ≤ _))
 clear hct hx
 replace BR := Lib.hid (bel_keep hb BR.out (by have := QB.out; have := oz.out; have := ozBR.out; have := oy.out; have := oyBR.out; have := oyBX.out; omega) BR.out.lt)
 replace BX := Lib.hid (bel_keep hb BX.out (by have := QB.out; have := oz.out; have := ozBR.out; have := oy.out; have := oyBR.out; have := oyBX.out; omega) BX.out.lt)
 replace BY := Lib.hid (bel_keep hb BY.out (by have := QB.out; have := oz.out; have := ozBR.out; have := oy.out; have := oyBR.out; have := oyBX.out; omega) BY.out.lt)
 replace TA := Lib.hid (RwAt.call TA.out hb (by have := QB.out; have := oz.out; have := ozBR.out; have := oy.out; have := oyBR.out; have := oyBX.out; omega))
 replace TB := Lib.hid (RwAt.call TB.out hb (by have := QB.out; have := oz.out; have := ozBR.out; have := oy.out; have := oyBR.out; have := oyBX.out; omega))
 replace BB := Lib.hid (BB.out.trans (hb.mono SZ.out))
 replace SZ := Lib.hid (Nat.le_trans SZ.out hb.size)
 replace RD := Lib.hid hp
 clear hb hp
 obtain ⟨za, hza⟩ : ∃ za, Hid (w18.heap.size = za) := ⟨_, rfl⟩
 have oza : Hid (B ≤ za) := by rw [Hid, ← hza.out]; exact SZ.out
 have ozaBR : Hid (B < za) := by rw [Hid, ← hza.out]; exact BR.out.lt
 have ozaBX : Hid (z < za) := by rw [Hid, ← hza.out]; exact BX.out.lt
 have ozaBY : Hid (y < za) := by rw [Hid, ← hza.out]; exact BY.out.lt
 refine reg_row 6 33 (ca ++ (cb ++ cc)) za 3 (some 26) (by kernel_rfl) (by kernel_rfl) hza (exec_of _ _ (by kernel_rfl) (run_args3 TA.out TB.out TC.out _)) ?_
 intro w20 bb eb sb
 refine ⟨trivial, ?_⟩
 have BA := Lib.hid bb
 rw [← hza.out] at eb
 replace BR := Lib.hid (BR.out.below eb BR.out.lt)
 replace BX := Lib.hid (BX.out.below eb BX.out.lt)
 replace BY := Lib.hid (BY.out.below eb BY.out.lt)
 replace TA := Lib.hid (RwAt.low TA.out eb)
 replace TB := Lib.hid (RwAt.low TB.out eb)
 replace TC := Lib.hid (RwAt.low TC.out eb)
 replace RD := Lib.hid (RD.out.below eb RD.out.lt)
 replace BB := Lib.hid (BB.out.trans (Bel.of (eb.mono SZ.out)))
 replace SZ := Lib.hid (Nat.le_trans SZ.out eb.size)
 clear bb eb sb hza
 have HN : Hid (RwAt K (List.range (B + 1)) w20 (.mk 8 0 (some p) s 0 [a, b, c]) (nodeC K 8 0 (some p) s (.slice none 0 0) (.slice (some ⟨za, 0, none⟩) 3 3))) := node_at (LvsN.nil _ _ _ _) (args3 BA.out TA.out TB.out TC.out (range_no ozaBR.out))
 refine reg_now 7 (.agg (nodeC K 8 0 (some p) s (.slice none 0 0) (.slice (some ⟨za, 0, none⟩) 3 3)).toArray) (some 27) hQN trivial (by kernel_rfl) (by kernel_rfl) (fun w => by kernel_rfl) ?_
 refine reg_putT 8 33 (.tmp 4) (.tmp 27) B _ z6R (nodeC K 8 0 (some p) s (.slice none 0 0) (.slice (some ⟨za, 0, none⟩) 3 3)) (by kernel_rfl) (by kernel_rfl) (by kernel_rfl) (by kernel_rfl) (by kernel_rfl) BR.out (HN.out.len.trans z6_len.symm) (rwSize HN.out.len) (by simpa using HN.out.one) ?_
 intro w99 b99 u99
 refine ⟨trivial, ?_⟩
 refine reg_done (by kernel_rfl) (hN _ _ ?_)
 generalize hact : Act.put _ none _ = act
 simp only [Act.put, sA, sC, sZ] at hact
 subst hact
 clear hQN hN hP
 have C6 := Lib.hid HN.out.len
 have FIN : Hid (PP K q oo (RRw K) w (.returned (.agg (nodeC K 8 0 (some p) s (.slice none 0 0) (.slice (some ⟨za, 0, none⟩) 3 3)).toArray)) w99) := PP.yes (by rw [hB.out]; exact BB.out.newBlk u99 (Nat.le_refl _) SZ.out) EQ.out ⟨nodeC K 8 0 (some p) s (.slice none 0 0) (.slice (some ⟨za, 0, none⟩) 3 3), rfl, by rw [hB.out]; exact HN.out.fin u99⟩ (RD.out.upd u99 QB.out)
 have HB := Lib.hid b99
 clear b99 u99 HN
 go_wp2
 refine bodyPost_ret (v := .agg (nodeC K 8 0 (some p) s (.slice none 0 0) (.slice (some ⟨za, 0, none⟩) 3 3)).toArray) ?_ rfl FIN.out
 exact results_cell_row (g := B) (t := 33) (cs := (nodeC K 8 0 (some p) s (.slice none 0 0) (.slice (some ⟨za, 0, none⟩) 3 3)).toArray) (fr := (0, 0)) Try.results55 _ _ _ rfl HB.out Try.underlying33 rfl (rwSize C6.out)
set_option maxHeartbeats 16000000 in
theorem atom_walkP (K : Nat → Nat) (q : Nat) (w : World) (l : List (List UInt8)) (h : PAt K q w l) (T A : List (List UInt8) → PR Rw) (n : Nat) (HT : ∀ (w : World) (l : List (List UInt8)), l.length + 1 ≤ n → PAt K q w l → Calls Try.prog 38 #[.pointer (some ⟨q, 0, none⟩)] w (PP K q (T l) (RRw K) w)) (HA : ∀ (w : World) (l : List (List UInt8)), l.length + 1 ≤ n → PAt K q w l → Calls Try.prog 62 #[.pointer (some ⟨q, 0, none⟩)] w (PP K q (A l) (RRw K) w)) (hn : l.length ≤ n) : Calls Try.prog 62 #[.pointer (some ⟨q, 0, none⟩)] w (PP K q (atomG T A l) (RRw K) w) := by
 obtain ⟨oo, hoo⟩ : ∃ oo, Hid (atomG T A l = oo) := ⟨_, rfl⟩
 rw [hoo.out]
 have EQ := hoo
 clear hoo
 unfold atomG at EQ
 have LL := Lib.hid hn
 have LD := Lib.hid h.len
 obtain ⟨B, hB⟩ : ∃ B, Hid (w.heap.size = B) := ⟨_, rfl⟩
 have RD := Lib.hid h
 have QB : Hid (q < B) := by rw [← hB.out]; exact h.lt
 have BB : Hid (Bel [q] B w w) := Bel.refl _ _ _
 have SZ : Hid (B ≤ w.heap.size) := by rw [Hid, hB.out]; exact Nat.le_refl _
 clear h
 go_enter Try.func62, Try.ntmps62
 go_upto_region 0 with (fail)
 refine lbeg (opsOf Try.f62 0) ?_
 refine lin_alloc 0 33 (z6R) (B) (some 2) (by kernel_rfl) (by kernel_rfl) (by kernel_rfl) zeroRw hB ?_
 intro w1 bx ex sx
 replace RD := Lib.hid (RD.out.below ex QB.out)
 replace BB : Hid (Bel [q] B w w1) := Bel.of ex
 replace SZ : Hid (B ≤ w1.heap.size) := Nat.le_of_lt bx.lt
 have BR := Lib.hid bx
 clear bx ex sx
 refine ldn 1 ?_
 generalize hact : Act.put _ (some 2) _ = act
 simp only [Act.put, sA, sC, sZ] at hact
 subst hact
 go_upto_region 1 with (fail)
 refine lbeg (opsOf Try.f62 1) ?_
 refine lnow 0 (.pointer (some ⟨q, 0, none⟩)) (some 6) ?_
 refine lcal 1 35 #[.pointer (some ⟨q, 0, none⟩)] (some 7) _ (at_walk K q w1 l RD.out) ?_
 rintro e w' ⟨rfl, hw'⟩
 obtain rfl := hw'.symm
 refine ⟨_, rfl, ?_⟩
 refine lnow 2 (.int .i64 (K l.length : Int)) (some 3) ?_
 refine ldn 3 ?_
 generalize hact : Act.put _ (some 3) _ = act
 simp only [Act.put, sA, sC, sZ] at hact
 subst hact
 by_cases c0 : nx l = [80, 114, 111, 112]
 ·skip
  rw [if_pos c0] at EQ
  go_upto_region 2 with (fail)
  refine lbeg (opsOf Try.f62 2) ?_
  refine lnow 0 (.pointer (some ⟨q, 0, none⟩)) (some 9) ?_
  refine lcal 1 50 #[.pointer (some ⟨q, 0, none⟩), sT [80, 114, 111, 112]] (some 10) _ (accept_yes K q w1 l RD.out [80, 114, 111, 112] c0 (by decide)) ?_
  rintro e w2 ⟨rfl, hb, hp⟩
  refine ⟨_, rfl, ?_⟩
  obtain ⟨l3, hl3⟩ : ∃ y, Hid (l.tail = y) := ⟨_, rfl⟩
  rw [hl3.out] at hp
  try rw [hl3.out] at EQ
  replace BR := Lib.hid (bel_keep hb BR.out (by have := QB.out; omega) BR.out.lt)
  replace BB := Lib.hid (BB.out.trans (hb.mono SZ.out))
  replace SZ := Lib.hid (Nat.le_trans SZ.out hb.size)
  replace RD := Lib.hid hp
  clear hb hp
  refine lnow 2 (.bool true) (some 8) ?_
  refine ldn 3 ?_
  generalize hact : Act.put _ (some 8) _ = act
  simp only [Act.put, sA, sC, sZ] at hact
  subst hact
  go_upto_region 3 with (fail)
  refine lbeg (opsOf Try.f62 3) ?_
  refine lnow 0 (.int .i64 (K l.length : Int)) (some 11) ?_
  have HN : Hid (RwAt K (List.range (B + 1)) w2 (.mk 2 0 (some l.length) [] 0 []) (nodeC K 2 0 (some l.length) [] (.slice none 0 0) (.slice none 0 0))) := node_at (LvsN.nil _ _ _ _) (RwsAt.nil _ _ _ _)
  refine lnow 1 (.agg (nodeC K 2 0 (some l.length) [] (.slice none 0 0) (.slice none 0 0)).toArray) (some 12) ?_
  refine lput 2 33 (.tmp 2) (.tmp 12) (B) _ z6R (nodeC K 2 0 (some l.length) [] (.slice none 0 0) (.slice none 0 0)) BR.out (HN.out.len.trans z6_len.symm) (rwSize HN.out.len) (by simpa using HN.out.one) ?_
  intro w99 b99 u99
  refine ldn 3 ?_
  generalize hact : Act.put _ none _ = act
  simp only [Act.put, sA, sC, sZ] at hact
  subst hact
  have C6 := Lib.hid HN.out.len
  have FIN : Hid (PP K q oo (RRw K) w (.returned (.agg (nodeC K 2 0 (some l.length) [] (.slice none 0 0) (.slice none 0 0)).toArray)) w99) := PP.yes (by rw [hB.out]; exact BB.out.newBlk u99 (Nat.le_refl _) SZ.out) EQ.out ⟨nodeC K 2 0 (some l.length) [] (.slice none 0 0) (.slice none 0 0), rfl, by rw [hB.out]; exact HN.out.fin u99⟩ (RD.out.upd u99 QB.out)
  have HB := Lib.hid b99
  clear b99 u99 HN
  go_wp2
  refine bodyPost_ret (v := .agg (nodeC K 2 0 (some l.length) [] (.slice none 0 0) (.slice none 0 0)).toArray) ?_ rfl FIN.out
  exact results_cell_row (g := B) (t := 33) (cs := (nodeC K 2 0 (some l.length) [] (.slice none 0 0) (.slice none 0 0)).toArray) (fr := (0, 0)) Try.results62 _ _ _ rfl HB.out Try.underlying33 rfl (rwSize C6.out)
 rw [if_neg c0] at EQ
 go_upto_region 2 with (fail)
 refine lbeg (opsOf Try.f62 2) ?_
 refine lnow 0 (.pointer (some ⟨q, 0, none⟩)) (some 9) ?_
 refine lcal 1 50 #[.pointer (some ⟨q, 0, none⟩), sT [80, 114, 111, 112]] (some 10) _ (accept_no K q w1 l RD.out [80, 114, 111, 112] c0) ?_
 rintro e w' ⟨rfl, hw'⟩
 obtain rfl := hw'.symm
 refine ⟨_, rfl, ?_⟩
 refine lnow 2 (.bool false) (some 8) ?_
 refine ldn 3 ?_
 generalize hact : Act.put _ (some 8) _ = act
 simp only [Act.put, sA, sC, sZ] at hact
 subst hact
 by_cases c1 : nx l = [84, 121, 112, 101]
 ·skip
  rw [if_pos c1] at EQ
  go_upto_region 4 with (fail)
  refine lbeg (opsOf Try.f62 4) ?_
  refine lnow 0 (.pointer (some ⟨q, 0, none⟩)) (some 14) ?_
  refine lcal 1 50 #[.pointer (some ⟨q, 0, none⟩), sT [84, 121, 112, 101]] (some 15) _ (accept_yes K q w1 l RD.out [84, 121, 112, 101] c1 (by decide)) ?_
  rintro e w2 ⟨rfl, hb, hp⟩
  refine ⟨_, rfl, ?_⟩
  obtain ⟨l3, hl3⟩ : ∃ y, Hid (l.tail = y) := ⟨_, rfl⟩
  rw [hl3.out] at hp
  try rw [hl3.out] at EQ
  replace BR := Lib.hid (bel_keep hb BR.out (by have := QB.out; omega) BR.out.lt)
  replace BB := Lib.hid (BB.out.trans (hb.mono SZ.out))
  replace SZ := Lib.hid (Nat.le_trans SZ.out hb.size)
  replace RD := Lib.hid hp
  clear hb hp
  refine lnow 2 (.bool true) (some 13) ?_
  refine ldn 3 ?_
  generalize hact : Act.put _ (some 13) _ = act
  simp only [Act.put, sA, sC, sZ] at hact
  subst hact
  go_upto_region 5 with (fail)
  refine lbeg (opsOf Try.f62 5) ?_
  refine lnow 0 (.int .i64 (K l.length : Int)) (some 16) ?_
  refine lnow 1 (.pointer (some ⟨q, 0, none⟩)) (some 17) ?_
  refine lin_callPP 2 68 #[.pointer (some ⟨q, 0, none⟩)] (some 18) (by kernel_rfl) (by kernel_rfl) (by kernel_rfl) (tlevel_walkP K q w2 l3 RD.out) EQ (fun p c w' hb ho => ⟨rfl, PP.no (by rw [hB.out]; exact BB.out.trans (hb.mono SZ.out)) ho⟩) ?_
  intro x l5 vv w4 hx EQ1 hb hv hp
  replace EQ := EQ1
  clear EQ1
  obtain ⟨lv, rfl, h4⟩ := hv
  have H4 := Lib.hid h4
  clear h4
  clear hx
  replace BR := Lib.hid (bel_keep hb BR.out (by have := QB.out; omega) BR.out.lt)
  replace BB := Lib.hid (BB.out.trans (hb.mono SZ.out))
  replace SZ := Lib.hid (Nat.le_trans SZ.out hb.size)
  replace RD := Lib.hid hp
  clear hb hp
  obtain ⟨za, hza⟩ : ∃ za, Hid (w4.heap.size = za) := ⟨_, rfl⟩
  have oza : Hid (B ≤ za) := by rw [Hid, ← hza.out]; exact SZ.out
  have ozaBR : Hid (B < za) := by rw [Hid, ← hza.out]; exact BR.out.lt
  refine lin_row 3 94 (ints .i64 lv.zs) za 1 (some 19) (by kernel_rfl) (by kernel_rfl) hza (exec_of _ _ (by kernel_rfl) (run_build_lvs1 H4.out _)) ?_
  intro w6 bb eb sb
  have LVN : Hid (LvsN (List.range (B + 1)) w6 (.slice (some ⟨za, 0, none⟩) 1 1) 1) := LvRow.lvs (RowG.one lvG bb ⟨rfl, H4.out⟩ (by have := ozaBR.out; omega) : LvRow (B + 1) _ _ [lv]) (by simp)
  rw [← hza.out] at eb
  replace BR := Lib.hid (BR.out.below eb BR.out.lt)
  replace RD := Lib.hid (RD.out.below eb RD.out.lt)
  replace BB := Lib.hid (BB.out.trans (Bel.of (eb.mono SZ.out)))
  replace SZ := Lib.hid (Nat.le_trans SZ.out eb.size)
  clear bb eb sb hza
  have HN : Hid (RwAt K (List.range (B + 1)) w6 (.mk 3 0 (some l.length) [] 1 []) (nodeC K 3 0 (some l.length) [] (.slice (some ⟨za, 0, none⟩) 1 1) (.slice none 0 0))) := node_at (LVN.out) (RwsAt.nil _ _ _ _)
  refine lnow 4 (.agg (nodeC K 3 0 (some l.length) [] (.slice (some ⟨za, 0, none⟩) 1 1) (.slice none 0 0)).toArray) (some 20) ?_
  refine lput 5 33 (.tmp 2) (.tmp 20) (B) _ z6R (nodeC K 3 0 (some l.length) [] (.slice (some ⟨za, 0, none⟩) 1 1) (.slice none 0 0)) BR.out (HN.out.len.trans z6_len.symm) (rwSize HN.out.len) (by simpa using HN.out.one) ?_
  intro w99 b99 u99
  refine ldn 6 ?_
  generalize hact : Act.put _ none _ = act
  simp only [Act.put, sA, sC, sZ] at hact
  subst hact
  have C6 := Lib.hid HN.out.len
  have FIN : Hid (PP K q oo (RRw K) w (.returned (.agg (nodeC K 3 0 (some l.length) [] (.slice (some ⟨za, 0, none⟩) 1 1) (.slice none 0 0)).toArray)) w99) := PP.yes (by rw [hB.out]; exact BB.out.newBlk u99 (Nat.le_refl _) SZ.out) EQ.out ⟨nodeC K 3 0 (some l.length) [] (.slice (some ⟨za, 0, none⟩) 1 1) (.slice none 0 0), rfl, by rw [hB.out]; exact HN.out.fin u99⟩ (RD.out.upd u99 QB.out)
  have HB := Lib.hid b99
  clear b99 u99 HN
  go_wp2
  refine bodyPost_ret (v := .agg (nodeC K 3 0 (some l.length) [] (.slice (some ⟨za, 0, none⟩) 1 1) (.slice none 0 0)).toArray) ?_ rfl FIN.out
  exact results_cell_row (g := B) (t := 33) (cs := (nodeC K 3 0 (some l.length) [] (.slice (some ⟨za, 0, none⟩) 1 1) (.slice none 0 0)).toArray) (fr := (0, 0)) Try.results62 _ _ _ rfl HB.out Try.underlying33 rfl (rwSize C6.out)
 rw [if_neg c1] at EQ
 go_upto_region 4 with (fail)
 refine lbeg (opsOf Try.f62 4) ?_
 refine lnow 0 (.pointer (some ⟨q, 0, none⟩)) (some 14) ?_
 refine lcal 1 50 #[.pointer (some ⟨q, 0, none⟩), sT [84, 121, 112, 101]] (some 15) _ (accept_no K q w1 l RD.out [84, 121, 112, 101] c1) ?_
 rintro e w' ⟨rfl, hw'⟩
 obtain rfl := hw'.symm
 refine ⟨_, rfl, ?_⟩
 refine lnow 2 (.bool false) (some 13) ?_
 refine ldn 3 ?_
 generalize hact : Act.put _ (some 13) _ = act
 simp only [Act.put, sA, sC, sZ] at hact
 subst hact
 by_cases c2 : nx l = [91]
 ·skip
  rw [if_pos c2] at EQ
  go_upto_region 6 with (fail)
  refine lbeg (opsOf Try.f62 6) ?_
  refine lnow 0 (.pointer (some ⟨q, 0, none⟩)) (some 22) ?_
  refine lcal 1 50 #[.pointer (some ⟨q, 0, none⟩), sT [91]] (some 23) _ (accept_yes K q w1 l RD.out [91] c2 (by decide)) ?_
  rintro e w2 ⟨rfl, hb, hp⟩
  refine ⟨_, rfl, ?_⟩
  obtain ⟨l3, hl3⟩ : ∃ y, Hid (l.tail = y) := ⟨_, rfl⟩
  rw [hl3.out] at hp
  try rw [hl3.out] at EQ
  replace BR := Lib.hid (bel_keep hb BR.out (by have := QB.out; omega) BR.out.lt)
  replace BB := Lib.hid (BB.out.trans (hb.mono SZ.out))
  replace SZ := Lib.hid (Nat.le_trans SZ.out hb.size)
  replace RD := Lib.hid hp
  clear hb hp
  refine lnow 2 (.bool true) (some 21) ?_
  refine ldn 3 ?_
  generalize hact : Act.put _ (some 21) _ = act
  simp only [Act.put, sA, sC, sZ] at hact
  subst hact
  replace LL : Hid (l3.length + 1 ≤ n) := by have := LL.out; have := tail_lt (l := l) (by rw [c2]; simp); rw [hl3.out] at this; rw [Hid]; omega
  replace EQ : Hid (PR.bind (projP A l.length l3) .ok = oo) := PR.tail EQ
  go_upto_region 7 with (fail)
  refine lbeg (opsOf Try.f62 7) ?_
  refine lnow 0 (.pointer (some ⟨q, 0, none⟩)) (some 24) ?_
  refine lnow 1 (.int .i64 (K l.length : Int)) (some 25) ?_
  refine lin_callPP 2 69 #[.pointer (some ⟨q, 0, none⟩), .int .i64 (K l.length : Int)] (some 26) (by kernel_rfl) (by kernel_rfl) (by kernel_rfl) (proj_walk K q w2 l3 RD.out A l.length n HA LL.out) EQ (fun p c w' hb ho => ⟨rfl, PP.no (by rw [hB.out]; exact BB.out.trans (hb.mono SZ.out)) ho⟩) ?_
  intro x l5 vv w4 hx EQ1 hb hv hp
  replace EQ := EQ1
  clear EQ1
  obtain ⟨ca, rfl, hct⟩ := hv
  have TA := Lib.hid (hct.range (BR.out.lt : B + 1 ≤ _))
  clear hct hx
  replace BR := Lib.hid (bel_keep hb BR.out (by have := QB.out; omega) BR.out.lt)
  replace BB := Lib.hid (BB.out.trans (hb.mono SZ.out))
  replace SZ := Lib.hid (Nat.le_trans SZ.out hb.size)
  replace RD := Lib.hid hp
  clear hb hp
  refine lput 3 33 (.tmp 2) (.tmp 26) (B) _ z6R (ca) BR.out (TA.out.len.trans z6_len.symm) (rwSize TA.out.len) (by simpa using TA.out.one) ?_
  intro w99 b99 u99
  refine ldn 4 ?_
  generalize hact : Act.put _ none _ = act
  simp only [Act.put, sA, sC, sZ] at hact
  subst hact
  have C6 := Lib.hid TA.out.len
  have FIN : Hid (PP K q oo (RRw K) w (.returned (.agg (ca).toArray)) w99) := PP.yes (by rw [hB.out]; exact BB.out.newBlk u99 (Nat.le_refl _) SZ.out) EQ.out ⟨ca, rfl, by rw [hB.out]; exact TA.out.fin u99⟩ (RD.out.upd u99 QB.out)
  have HB := Lib.hid b99
  clear b99 u99 TA
  go_wp2
  refine bodyPost_ret (v := .agg (ca).toArray) ?_ rfl FIN.out
  exact results_cell_row (g := B) (t := 33) (cs := (ca).toArray) (fr := (0, 0)) Try.results62 _ _ _ rfl HB.out Try.underlying33 rfl (rwSize C6.out)
 rw [if_neg c2] at EQ
 go_upto_region 6 with (fail)
 refine lbeg (opsOf Try.f62 6) ?_
 refine lnow 0 (.pointer (some ⟨q, 0, none⟩)) (some 22) ?_
 refine lcal 1 50 #[.pointer (some ⟨q, 0, none⟩), sT [91]] (some 23) _ (accept_no K q w1 l RD.out [91] c2) ?_
 rintro e w' ⟨rfl, hw'⟩
 obtain rfl := hw'.symm
 refine ⟨_, rfl, ?_⟩
 refine lnow 2 (.bool false) (some 21) ?_
 refine ldn 3 ?_
 generalize hact : Act.put _ (some 21) _ = act
 simp only [Act.put, sA, sC, sZ] at hact
 subst hact
 by_cases c3 : nx l = [40]
 ·skip
  rw [if_pos c3] at EQ
  go_upto_region 8 with (fail)
  refine lbeg (opsOf Try.f62 8) ?_
  refine lnow 0 (.pointer (some ⟨q, 0, none⟩)) (some 28) ?_
  refine lcal 1 50 #[.pointer (some ⟨q, 0, none⟩), sT [40]] (some 29) _ (accept_yes K q w1 l RD.out [40] c3 (by decide)) ?_
  rintro e w2 ⟨rfl, hb, hp⟩
  refine ⟨_, rfl, ?_⟩
  obtain ⟨l3, hl3⟩ : ∃ y, Hid (l.tail = y) := ⟨_, rfl⟩
  rw [hl3.out] at hp
  try rw [hl3.out] at EQ
  replace BR := Lib.hid (bel_keep hb BR.out (by have := QB.out; omega) BR.out.lt)
  replace BB := Lib.hid (BB.out.trans (hb.mono SZ.out))
  replace SZ := Lib.hid (Nat.le_trans SZ.out hb.size)
  replace RD := Lib.hid hp
  clear hb hp
  refine lnow 2 (.bool true) (some 27) ?_
  refine ldn 3 ?_
  generalize hact : Act.put _ (some 27) _ = act
  simp only [Act.put, sA, sC, sZ] at hact
  subst hact
  replace LL : Hid (l3.length + 1 ≤ n) := by have := LL.out; have := tail_lt (l := l) (by rw [c3]; simp); rw [hl3.out] at this; rw [Hid]; omega
  go_upto_region 9 with (fail)
  refine lbeg (opsOf Try.f62 9) ?_
  refine lnow 0 (.pointer (some ⟨q, 0, none⟩)) (some 30) ?_
  refine lin_callPP 1 38 #[.pointer (some ⟨q, 0, none⟩)] (some 31) (by kernel_rfl) (by kernel_rfl) (by kernel_rfl) (HT w2 l3 LL.out RD.out) EQ (fun p c w' hb ho => ⟨rfl, PP.no (by rw [hB.out]; exact BB.out.trans (hb.mono SZ.out)) ho⟩) ?_
  intro x l5 vv w4 hx EQ1 hb hv hp
  replace EQ := EQ1
  clear EQ1
  obtain ⟨ca, rfl, hct⟩ := hv
  have TA := Lib.hid (hct.range (BR.out.lt : B + 1 ≤ _))
  clear hct hx
  replace BR := Lib.hid (bel_keep hb BR.out (by have := QB.out; omega) BR.out.lt)
  replace BB := Lib.hid (BB.out.trans (hb.mono SZ.out))
  replace SZ := Lib.hid (Nat.le_trans SZ.out hb.size)
  replace RD := Lib.hid hp
  clear hb hp
  obtain ⟨z, hz⟩ : ∃ z, Hid (w4.heap.size = z) := ⟨_, rfl⟩
  have oz : Hid (B ≤ z) := by rw [Hid, ← hz.out]; exact SZ.out
  have ozBR : Hid (B < z) := by rw [Hid, ← hz.out]; exact BR.out.lt
  refine lin_alloc 2 33 (z6R) (z) (some 4) (by kernel_rfl) (by kernel_rfl) (by kernel_rfl) zeroRw hz ?_
  intro w6 ba ea sa
  refine lput 3 33 (.tmp 4) (.tmp 31) (z) _ (z6R) (ca) ba (TA.out.len.trans z6_len.symm) (rwSize TA.out.len) (by simpa using TA.out.one) ?_
  intro w7 bb ub
  have eb : Below z w4 w7 := ub.below ea (Nat.le_refl _) (by have := ba.lt; omega)
  have BX := Lib.hid bb
  rw [← hz.out] at eb
  replace BR := Lib.hid (BR.out.below eb BR.out.lt)
  replace TA := Lib.hid (RwAt.low TA.out eb)
  replace RD := Lib.hid (RD.out.below eb RD.out.lt)
  replace BB := Lib.hid (BB.out.trans (Bel.of (eb.mono SZ.out)))
  replace SZ := Lib.hid (Nat.le_trans SZ.out eb.size)
  clear ba ea sa bb ub eb hz
  refine ldn 4 ?_
  generalize hact : Act.put _ none _ = act
  simp only [Act.put, sA, sC, sZ] at hact
  subst hact
  go_upto_region 10 with (fail)
  refine lbeg (opsOf Try.f62 10) ?_
  refine lnow 0 (.pointer (some ⟨q, 0, none⟩)) (some 32) ?_
  refine lin_callPP 1 52 #[.pointer (some ⟨q, 0, none⟩), sT [41]] (some 33) (by kernel_rfl) (by kernel_rfl) (by kernel_rfl) (expect_walk K q w7 l5 RD.out [41] (by decide)) EQ (fun p c w' hb ho => ⟨rfl, PP.no (by rw [hB.out]; exact BB.out.trans (hb.mono SZ.out)) ho⟩) ?_
  intro y l9 vv w8 hx EQ1 hb hv hp
  replace EQ := EQ1
  clear EQ1
  obtain rfl : vv = .tuple #[] := hv
  clear hx
  replace BR := Lib.hid (bel_keep hb BR.out (by have := QB.out; have := oz.out; have := ozBR.out; omega) BR.out.lt)
  replace BX := Lib.hid (bel_keep hb BX.out (by have := QB.out; have := oz.out; have := ozBR.out; omega) BX.out.lt)
  replace TA := Lib.hid (RwAt.call TA.out hb (by have := QB.out; have := oz.out; have := ozBR.out; omega))
  replace BB := Lib.hid (BB.out.trans (hb.mono SZ.out))
  replace SZ := Lib.hid (Nat.le_trans SZ.out hb.size)
  replace RD := Lib.hid hp
  clear hb hp
  refine ldn 2 ?_
  generalize hact : Act.put _ (some 33) _ = act
  simp only [Act.put, sA, sC, sZ] at hact
  subst hact
  go_upto_region 11 with (fail)
  refine lbeg (opsOf Try.f62 11) ?_
  refine lrl 0 (ca) (some 34) 33 4 z 0 BX.out.whole Try.underlying33 (rwSize TA.out.len) ?_
  refine lput 1 33 (.tmp 2) (.tmp 34) (B) _ z6R (ca) BR.out (TA.out.len.trans z6_len.symm) (rwSize TA.out.len) (by simpa using TA.out.one) ?_
  intro w99 b99 u99
  refine ldn 2 ?_
  generalize hact : Act.put _ none _ = act
  simp only [Act.put, sA, sC, sZ] at hact
  subst hact
  have C6 := Lib.hid TA.out.len
  have FIN : Hid (PP K q oo (RRw K) w (.returned (.agg (ca).toArray)) w99) := PP.yes (by rw [hB.out]; exact BB.out.newBlk u99 (Nat.le_refl _) SZ.out) EQ.out ⟨ca, rfl, by rw [hB.out]; exact TA.out.fin u99⟩ (RD.out.upd u99 QB.out)
  have HB := Lib.hid b99
  clear b99 u99 TA
  go_wp2
  refine bodyPost_ret (v := .agg (ca).toArray) ?_ rfl FIN.out
  exact results_cell_row (g := B) (t := 33) (cs := (ca).toArray) (fr := (0, 0)) Try.results62 _ _ _ rfl HB.out Try.underlying33 rfl (rwSize C6.out)
 rw [if_neg c3] at EQ
 go_upto_region 8 with (fail)
 refine lbeg (opsOf Try.f62 8) ?_
 refine lnow 0 (.pointer (some ⟨q, 0, none⟩)) (some 28) ?_
 refine lcal 1 50 #[.pointer (some ⟨q, 0, none⟩), sT [40]] (some 29) _ (accept_no K q w1 l RD.out [40] c3) ?_
 rintro e w' ⟨rfl, hw'⟩
 obtain rfl := hw'.symm
 refine ⟨_, rfl, ?_⟩
 refine lnow 2 (.bool false) (some 27) ?_
 refine ldn 3 ?_
 generalize hact : Act.put _ (some 27) _ = act
 simp only [Act.put, sA, sC, sZ] at hact
 subst hact
 go_upto_region 12 with (fail)
 refine lbeg (opsOf Try.f62 12) ?_
 refine lnow 0 (.int .i64 (K l.length : Int)) (some 35) ?_
 refine lnow 1 (.pointer (some ⟨q, 0, none⟩)) (some 36) ?_
 refine lin_callPP 2 49 #[.pointer (some ⟨q, 0, none⟩)] (some 37) (by kernel_rfl) (by kernel_rfl) (by kernel_rfl) (name_walk K q w1 l RD.out) EQ (fun p c w' hb ho => ⟨rfl, PP.no (by rw [hB.out]; exact BB.out.trans (hb.mono SZ.out)) ho⟩) ?_
 intro s l3 vv w2 hx EQ1 hb hv hp
 replace EQ := EQ1
 clear EQ1
 obtain rfl : vv = sT s := hv
 clear hx
 replace BR := Lib.hid (bel_keep hb BR.out (by have := QB.out; omega) BR.out.lt)
 replace BB := Lib.hid (BB.out.trans (hb.mono SZ.out))
 replace SZ := Lib.hid (Nat.le_trans SZ.out hb.size)
 replace RD := Lib.hid hp
 clear hb hp
 refine lnow 3 (.agg (nodeC K 4 0 (some l.length) s (.slice none 0 0) (.slice none 0 0)).toArray) (some 38) ?_
 obtain ⟨z, hz⟩ : ∃ z, Hid (w2.heap.size = z) := ⟨_, rfl⟩
 have oz : Hid (B ≤ z) := by rw [Hid, ← hz.out]; exact SZ.out
 have ozBR : Hid (B < z) := by rw [Hid, ← hz.out]; exact BR.out.lt
 refine lin_alloc 4 33 (z6R) (z) (some 5) (by kernel_rfl) (by kernel_rfl) (by kernel_rfl) zeroRw hz ?_
 intro w4 ba ea sa
 refine lput 5 33 (.tmp 5) (.tmp 38) (z) _ (z6R) (nodeC K 4 0 (some l.length) s (.slice none 0 0) (.slice none 0 0)) ba (rfl) (rwSize rfl) (by simpa using (by intro u hu; simp only [nodeC, List.mem_cons, List.not_mem_nil, or_false] at hu; rcases hu with rfl | rfl | rfl | rfl | rfl | rfl <;> rfl : ∀ u ∈ (nodeC K 4 0 (some l.length) s (.slice none 0 0) (.slice none 0 0)), u.oneCell' = true)) ?_
 intro w5 bb ub
 have eb : Below z w2 w5 := ub.below ea (Nat.le_refl _) (by have := ba.lt; omega)
 have BX := Lib.hid bb
 rw [← hz.out] at eb
 replace BR := Lib.hid (BR.out.below eb BR.out.lt)
 replace RD := Lib.hid (RD.out.below eb RD.out.lt)
 replace BB := Lib.hid (BB.out.trans (Bel.of (eb.mono SZ.out)))
 replace SZ := Lib.hid (Nat.le_trans SZ.out eb.size)
 clear ba ea sa bb ub eb hz
 refine ldn 6 ?_
 generalize hact : Act.put _ none _ = act
 simp only [Act.put, sA, sC, sZ] at hact
 subst hact
 by_cases c : nx l3 = [123]
 rotate_left
 ·skip
  rw [if_neg c] at EQ
  go_upto_region 13 with (fail)
  refine lbeg (opsOf Try.f62 13) ?_
  refine lnow 0 (.pointer (some ⟨q, 0, none⟩)) (some 39) ?_
  refine lcal 1 50 #[.pointer (some ⟨q, 0, none⟩), sT [123]] (some 40) _ (accept_no K q w5 l3 RD.out [123] c) ?_
  rintro e w' ⟨rfl, hw'⟩
  obtain rfl := hw'.symm
  refine ⟨_, rfl, ?_⟩
  refine ldn 2 ?_
  generalize hact : Act.put _ (some 40) _ = act
  simp only [Act.put, sA, sC, sZ] at hact
  subst hact
  have HN : Hid (RwAt K (List.range (B + 1)) w5 (.mk 4 0 (some l.length) s 0 []) (nodeC K 4 0 (some l.length) s (.slice none 0 0) (.slice none 0 0))) := node_at (LvsN.nil _ _ _ _) (RwsAt.nil _ _ _ _)
  go_upto_region 15 with (fail)
  refine lbeg (opsOf Try.f62 15) ?_
  refine lrl 0 (nodeC K 4 0 (some l.length) s (.slice none 0 0) (.slice none 0 0)) (some 44) 33 5 z 0 BX.out.whole Try.underlying33 (rwSize HN.out.len) ?_
  refine lput 1 33 (.tmp 2) (.tmp 44) (B) _ z6R (nodeC K 4 0 (some l.length) s (.slice none 0 0) (.slice none 0 0)) BR.out (HN.out.len.trans z6_len.symm) (rwSize HN.out.len) (by simpa using HN.out.one) ?_
  intro w99 b99 u99
  refine ldn 2 ?_
  generalize hact : Act.put _ none _ = act
  simp only [Act.put, sA, sC, sZ] at hact
  subst hact
  have C6 := Lib.hid HN.out.len
  have FIN : Hid (PP K q oo (RRw K) w (.returned (.agg (nodeC K 4 0 (some l.length) s (.slice none 0 0) (.slice none 0 0)).toArray)) w99) := PP.yes (by rw [hB.out]; exact BB.out.newBlk u99 (Nat.le_refl _) SZ.out) EQ.out ⟨nodeC K 4 0 (some l.length) s (.slice none 0 0) (.slice none 0 0), rfl, by rw [hB.out]; exact HN.out.fin u99⟩ (RD.out.upd u99 QB.out)
  have HB := Lib.hid b99
  clear b99 u99 HN
  go_wp2
  refine bodyPost_ret (v := .agg (nodeC K 4 0 (some l.length) s (.slice none 0 0) (.slice none 0 0)).toArray) ?_ rfl FIN.out
  exact results_cell_row (g := B) (t := 33) (cs := (nodeC K 4 0 (some l.length) s (.slice none 0 0) (.slice none 0 0)).toArray) (fr := (0, 0)) Try.results62 _ _ _ rfl HB.out Try.underlying33 rfl (rwSize C6.out)
 rw [if_pos c] at EQ
 go_upto_region 13 with (fail)
 refine lbeg (opsOf Try.f62 13) ?_
 refine lnow 0 (.pointer (some ⟨q, 0, none⟩)) (some 39) ?_
 refine lcal 1 50 #[.pointer (some ⟨q, 0, none⟩), sT [123]] (some 40) _ (accept_yes K q w5 l3 RD.out [123] c (by decide)) ?_
 rintro e w6 ⟨rfl, hb, hp⟩
 refine ⟨_, rfl, ?_⟩
 obtain ⟨l7, hl7⟩ : ∃ y, Hid (l3.tail = y) := ⟨_, rfl⟩
 rw [hl7.out] at hp
 try rw [hl7.out] at EQ
 replace BR := Lib.hid (bel_keep hb BR.out (by have := QB.out; have := oz.out; have := ozBR.out; omega) BR.out.lt)
 replace BX := Lib.hid (bel_keep hb BX.out (by have := QB.out; have := oz.out; have := ozBR.out; omega) BX.out.lt)
 replace BB := Lib.hid (BB.out.trans (hb.mono SZ.out))
 replace SZ := Lib.hid (Nat.le_trans SZ.out hb.size)
 replace RD := Lib.hid hp
 clear hb hp
 refine ldn 2 ?_
 generalize hact : Act.put _ (some 40) _ = act
 simp only [Act.put, sA, sC, sZ] at hact
 subst hact
 go_upto_region 14 with (fail)
 refine lbeg (opsOf Try.f62 14) ?_
 refine lnow 0 (.pointer (some ⟨q, 0, none⟩)) (some 41) ?_
 refine lin_callPP 1 70 #[.pointer (some ⟨q, 0, none⟩)] (some 42) (by kernel_rfl) (by kernel_rfl) (by kernel_rfl) (levels_walkP K q w6 l7 RD.out) EQ (fun p c w' hb ho => ⟨rfl, PP.no (by rw [hB.out]; exact BB.out.trans (hb.mono SZ.out)) ho⟩) ?_
 intro x l9 vv w8 hx EQ1 hb hv hp
 replace EQ := EQ1
 clear EQ1
 have LVN : Hid (LvsN (List.range w6.heap.size) _ vv x) := hv
 replace LVN := Lib.hid (LVN.out.sub (G := List.range (z + 1)) (fun k hk => .inl (List.mem_range.2 (by have := List.mem_range.1 hk; have := BX.out.lt; omega))))
 obtain ⟨la, lc, rfl⟩ := LVN.out.slice
 clear hx
 replace BR := Lib.hid (bel_keep hb BR.out (by have := QB.out; have := oz.out; have := ozBR.out; omega) BR.out.lt)
 replace BX := Lib.hid (bel_keep hb BX.out (by have := QB.out; have := oz.out; have := ozBR.out; omega) BX.out.lt)
 replace BB := Lib.hid (BB.out.trans (hb.mono SZ.out))
 replace SZ := Lib.hid (Nat.le_trans SZ.out hb.size)
 replace RD := Lib.hid hp
 clear hb hp
 refine lnow 2 (.pointer (some ⟨z, 4, none⟩)) (some 43) ?_
 refine lin_putF 3 4 30 (.tmp 43) (.tmp 42) z 33 (nodeC K 4 0 (some l.length) s (.slice none 0 0) (.slice none 0 0)) (.slice la x lc) (by kernel_rfl) (by kernel_rfl) (by kernel_rfl) (by kernel_rfl) (by kernel_rfl) BX.out (by simp [nodeC]) sizeLvsP rfl rfl ?_
 intro w10 b9 u9
 rw [node_set4] at b9
 refine ldn 4 ?_
 generalize hact : Act.put _ none _ = act
 simp only [Act.put, sA, sC, sZ] at hact
 subst hact
 replace LVN := Lib.hid ((LVN.out.updS u9 (Nat.lt_succ_self z)).sub (G := List.range (B + 1)) (fun k hk => .inl (List.mem_range.2 (by have := List.mem_range.1 hk; have := ozBR.out; omega))))
 replace RD := Lib.hid (RD.out.upd u9 (by have := QB.out; have := ozBR.out; omega))
 replace BB : Hid (Bel [q] B w w10) := BB.out.newBlk u9 (by have := ozBR.out; omega) SZ.out
 replace SZ : Hid (B ≤ w10.heap.size) := Nat.le_trans SZ.out u9.size
 replace BR := Lib.hid (u9.blk BR.out (by have := ozBR.out; omega))
 replace BX := Lib.hid b9
 clear b9 u9
 have HN : Hid (RwAt K (List.range (B + 1)) w10 (.mk 4 0 (some l.length) s x []) (nodeC K 4 0 (some l.length) s (.slice la x lc) (.slice none 0 0))) := node_at (LVN.out) (RwsAt.nil _ _ _ _)
 go_upto_region 15 with (fail)
 refine lbeg (opsOf Try.f62 15) ?_
 refine lrl 0 (nodeC K 4 0 (some l.length) s (.slice la x lc) (.slice none 0 0)) (some 44) 33 5 z 0 BX.out.whole Try.underlying33 (rwSize HN.out.len) ?_
 refine lput 1 33 (.tmp 2) (.tmp 44) (B) _ z6R (nodeC K 4 0 (some l.length) s (.slice la x lc) (.slice none 0 0)) BR.out (HN.out.len.trans z6_len.symm) (rwSize HN.out.len) (by simpa using HN.out.one) ?_
 intro w99 b99 u99
 refine ldn 2 ?_
 generalize hact : Act.put _ none _ = act
 simp only [Act.put, sA, sC, sZ] at hact
 subst hact
 have C6 := Lib.hid HN.out.len
 have FIN : Hid (PP K q oo (RRw K) w (.returned (.agg (nodeC K 4 0 (some l.length) s (.slice la x lc) (.slice none 0 0)).toArray)) w99) := PP.yes (by rw [hB.out]; exact BB.out.newBlk u99 (Nat.le_refl _) SZ.out) EQ.out ⟨nodeC K 4 0 (some l.length) s (.slice la x lc) (.slice none 0 0), rfl, by rw [hB.out]; exact HN.out.fin u99⟩ (RD.out.upd u99 QB.out)
 have HB := Lib.hid b99
 clear b99 u99 HN
 go_wp2
 refine bodyPost_ret (v := .agg (nodeC K 4 0 (some l.length) s (.slice la x lc) (.slice none 0 0)).toArray) ?_ rfl FIN.out
 exact results_cell_row (g := B) (t := 33) (cs := (nodeC K 4 0 (some l.length) s (.slice la x lc) (.slice none 0 0)).toArray) (fr := (0, 0)) Try.results62 _ _ _ rfl HB.out Try.underlying33 rfl (rwSize C6.out)
set_option maxHeartbeats 16000000 in
theorem term_walkP (K : Nat → Nat) (q : Nat) (w : World) (l : List (List UInt8)) (h : PAt K q w l) (T A : List (List UInt8) → PR Rw) (hT2 : Lt2 T) (hA2 : Lt2 A) (n : Nat) (HT : ∀ (w : World) (l : List (List UInt8)), l.length + 1 ≤ n → PAt K q w l → Calls Try.prog 38 #[.pointer (some ⟨q, 0, none⟩)] w (PP K q (T l) (RRw K) w)) (HA : ∀ (w : World) (l : List (List UInt8)), l.length + 1 ≤ n + 1 → PAt K q w l → Calls Try.prog 62 #[.pointer (some ⟨q, 0, none⟩)] w (PP K q (A l) (RRw K) w)) (hn : l.length ≤ n) : Calls Try.prog 38 #[.pointer (some ⟨q, 0, none⟩)] w (PP K q (termG T A l) (RRw K) w) := by
 obtain ⟨oo, hoo⟩ : ∃ oo, Hid (termG T A l = oo) := ⟨_, rfl⟩
 rw [hoo.out]
 have EQ := hoo
 clear hoo
 unfold termG at EQ
 have LL := Lib.hid hn
 obtain ⟨B, hB⟩ : ∃ B, Hid (w.heap.size = B) := ⟨_, rfl⟩
 have RD := Lib.hid h
 have QB : Hid (q < B) := by rw [← hB.out]; exact h.lt
 have BB : Hid (Bel [q] B w w) := Bel.refl _ _ _
 have SZ : Hid (B ≤ w.heap.size) := by rw [Hid, hB.out]; exact Nat.le_refl _
 clear h
 go_enter Try.func38, Try.ntmps38
 go_upto_region 0 with (fail)
 refine lbeg (opsOf Try.f38 0) ?_
 refine lin_alloc 0 33 (z6R) (B) (some 2) (by kernel_rfl) (by kernel_rfl) (by kernel_rfl) zeroRw hB ?_
 intro w1 bx ex sx
 replace RD := Lib.hid (RD.out.below ex QB.out)
 replace BB : Hid (Bel [q] B w w1) := Bel.of ex
 replace SZ : Hid (B ≤ w1.heap.size) := Nat.le_of_lt bx.lt
 have BR := Lib.hid bx
 clear bx ex sx
 refine ldn 1 ?_
 generalize hact : Act.put _ (some 2) _ = act
 simp only [Act.put, sA, sC, sZ] at hact
 subst hact
 go_upto_region 1 with (fail)
 refine lbeg (opsOf Try.f38 1) ?_
 refine lnow 0 (.pointer (some ⟨q, 0, none⟩)) (some 4) ?_
 refine lcal 1 35 #[.pointer (some ⟨q, 0, none⟩)] (some 5) _ (at_walk K q w1 l RD.out) ?_
 rintro e w' ⟨rfl, hw'⟩
 obtain rfl := hw'.symm
 refine ⟨_, rfl, ?_⟩
 refine lnow 2 (.int .i64 (K l.length : Int)) (some 3) ?_
 refine ldn 3 ?_
 generalize hact : Act.put _ (some 3) _ = act
 simp only [Act.put, sA, sC, sZ] at hact
 subst hact
 by_cases c0 : nx l = [102, 117, 110]
 ·skip
  rw [if_pos c0] at EQ
  go_upto_region 2 with (fail)
  refine lbeg (opsOf Try.f38 2) ?_
  refine lnow 0 (.pointer (some ⟨q, 0, none⟩)) (some 7) ?_
  refine lcal 1 50 #[.pointer (some ⟨q, 0, none⟩), sT [102, 117, 110]] (some 8) _ (accept_yes K q w1 l RD.out [102, 117, 110] c0 (by decide)) ?_
  rintro e w2 ⟨rfl, hb, hp⟩
  refine ⟨_, rfl, ?_⟩
  obtain ⟨l3, hl3⟩ : ∃ y, Hid (l.tail = y) := ⟨_, rfl⟩
  rw [hl3.out] at hp
  try rw [hl3.out] at EQ
  replace BR := Lib.hid (bel_keep hb BR.out (by have := QB.out; omega) BR.out.lt)
  replace BB := Lib.hid (BB.out.trans (hb.mono SZ.out))
  replace SZ := Lib.hid (Nat.le_trans SZ.out hb.size)
  replace RD := Lib.hid hp
  clear hb hp
  refine lnow 2 (.bool true) (some 6) ?_
  refine ldn 3 ?_
  generalize hact : Act.put _ (some 6) _ = act
  simp only [Act.put, sA, sC, sZ] at hact
  subst hact
  replace LL : Hid (l3.length + 1 ≤ n) := by have := LL.out; have := tail_lt (l := l) (by rw [c0]; simp); rw [hl3.out] at this; rw [Hid]; omega
  replace EQ := PR.tail EQ
  go_upto_region 3 with (fail)
  refine lbeg (opsOf Try.f38 3) ?_
  refine lnow 0 (.pointer (some ⟨q, 0, none⟩)) (some 9) ?_
  refine lnow 1 (.int .i64 (K l.length : Int)) (some 10) ?_
  refine lin_callPP 2 54 #[.pointer (some ⟨q, 0, none⟩), .int .i64 ((6 : Nat) : Int), .int .i64 (K l.length : Int)] (some 11) (by kernel_rfl) (by kernel_rfl) (by kernel_rfl) (binder_walkY K q w2 l3 RD.out T hT2 6 l.length n HT LL.out) EQ (fun p c w' hb ho => ⟨rfl, PP.no (by rw [hB.out]; exact BB.out.trans (hb.mono SZ.out)) ho⟩) ?_
  intro x l5 vv w4 hx EQ1 hb hv hp
  replace EQ := EQ1
  clear EQ1
  obtain ⟨ca, rfl, hct⟩ := hv
  have TA := Lib.hid (hct.range (BR.out.lt : B + 1 ≤ _))
  clear hct hx
  replace BR := Lib.hid (bel_keep hb BR.out (by have := QB.out; omega) BR.out.lt)
  replace BB := Lib.hid (BB.out.trans (hb.mono SZ.out))
  replace SZ := Lib.hid (Nat.le_trans SZ.out hb.size)
  replace RD := Lib.hid hp
  clear hb hp
  refine lput 3 33 (.tmp 2) (.tmp 11) (B) _ z6R (ca) BR.out (TA.out.len.trans z6_len.symm) (rwSize TA.out.len) (by simpa using TA.out.one) ?_
  intro w99 b99 u99
  refine ldn 4 ?_
  generalize hact : Act.put _ none _ = act
  simp only [Act.put, sA, sC, sZ] at hact
  subst hact
  have C6 := Lib.hid TA.out.len
  have FIN : Hid (PP K q oo (RRw K) w (.returned (.agg (ca).toArray)) w99) := PP.yes (by rw [hB.out]; exact BB.out.newBlk u99 (Nat.le_refl _) SZ.out) EQ.out ⟨ca, rfl, by rw [hB.out]; exact TA.out.fin u99⟩ (RD.out.upd u99 QB.out)
  have HB := Lib.hid b99
  clear b99 u99 TA
  go_wp2
  refine bodyPost_ret (v := .agg (ca).toArray) ?_ rfl FIN.out
  exact results_cell_row (g := B) (t := 33) (cs := (ca).toArray) (fr := (0, 0)) Try.results38 _ _ _ rfl HB.out Try.underlying33 rfl (rwSize C6.out)
 rw [if_neg c0] at EQ
 go_upto_region 2 with (fail)
 refine lbeg (opsOf Try.f38 2) ?_
 refine lnow 0 (.pointer (some ⟨q, 0, none⟩)) (some 7) ?_
 refine lcal 1 50 #[.pointer (some ⟨q, 0, none⟩), sT [102, 117, 110]] (some 8) _ (accept_no K q w1 l RD.out [102, 117, 110] c0) ?_
 rintro e w' ⟨rfl, hw'⟩
 obtain rfl := hw'.symm
 refine ⟨_, rfl, ?_⟩
 refine lnow 2 (.bool false) (some 6) ?_
 refine ldn 3 ?_
 generalize hact : Act.put _ (some 6) _ = act
 simp only [Act.put, sA, sC, sZ] at hact
 subst hact
 by_cases c1 : nx l = [97, 108, 108]
 ·skip
  rw [if_pos c1] at EQ
  go_upto_region 4 with (fail)
  refine lbeg (opsOf Try.f38 4) ?_
  refine lnow 0 (.pointer (some ⟨q, 0, none⟩)) (some 13) ?_
  refine lcal 1 50 #[.pointer (some ⟨q, 0, none⟩), sT [97, 108, 108]] (some 14) _ (accept_yes K q w1 l RD.out [97, 108, 108] c1 (by decide)) ?_
  rintro e w2 ⟨rfl, hb, hp⟩
  refine ⟨_, rfl, ?_⟩
  obtain ⟨l3, hl3⟩ : ∃ y, Hid (l.tail = y) := ⟨_, rfl⟩
  rw [hl3.out] at hp
  try rw [hl3.out] at EQ
  replace BR := Lib.hid (bel_keep hb BR.out (by have := QB.out; omega) BR.out.lt)
  replace BB := Lib.hid (BB.out.trans (hb.mono SZ.out))
  replace SZ := Lib.hid (Nat.le_trans SZ.out hb.size)
  replace RD := Lib.hid hp
  clear hb hp
  refine lnow 2 (.bool true) (some 12) ?_
  refine ldn 3 ?_
  generalize hact : Act.put _ (some 12) _ = act
  simp only [Act.put, sA, sC, sZ] at hact
  subst hact
  replace LL : Hid (l3.length + 1 ≤ n) := by have := LL.out; have := tail_lt (l := l) (by rw [c1]; simp); rw [hl3.out] at this; rw [Hid]; omega
  replace EQ := PR.tail EQ
  go_upto_region 5 with (fail)
  refine lbeg (opsOf Try.f38 5) ?_
  refine lnow 0 (.pointer (some ⟨q, 0, none⟩)) (some 15) ?_
  refine lnow 1 (.int .i64 (K l.length : Int)) (some 16) ?_
  refine lin_callPP 2 54 #[.pointer (some ⟨q, 0, none⟩), .int .i64 ((7 : Nat) : Int), .int .i64 (K l.length : Int)] (some 17) (by kernel_rfl) (by kernel_rfl) (by kernel_rfl) (binder_walkY K q w2 l3 RD.out T hT2 7 l.length n HT LL.out) EQ (fun p c w' hb ho => ⟨rfl, PP.no (by rw [hB.out]; exact BB.out.trans (hb.mono SZ.out)) ho⟩) ?_
  intro x l5 vv w4 hx EQ1 hb hv hp
  replace EQ := EQ1
  clear EQ1
  obtain ⟨ca, rfl, hct⟩ := hv
  have TA := Lib.hid (hct.range (BR.out.lt : B + 1 ≤ _))
  clear hct hx
  replace BR := Lib.hid (bel_keep hb BR.out (by have := QB.out; omega) BR.out.lt)
  replace BB := Lib.hid (BB.out.trans (hb.mono SZ.out))
  replace SZ := Lib.hid (Nat.le_trans SZ.out hb.size)
  replace RD := Lib.hid hp
  clear hb hp
  refine lput 3 33 (.tmp 2) (.tmp 17) (B) _ z6R (ca) BR.out (TA.out.len.trans z6_len.symm) (rwSize TA.out.len) (by simpa using TA.out.one) ?_
  intro w99 b99 u99
  refine ldn 4 ?_
  generalize hact : Act.put _ none _ = act
  simp only [Act.put, sA, sC, sZ] at hact
  subst hact
  have C6 := Lib.hid TA.out.len
  have FIN : Hid (PP K q oo (RRw K) w (.returned (.agg (ca).toArray)) w99) := PP.yes (by rw [hB.out]; exact BB.out.newBlk u99 (Nat.le_refl _) SZ.out) EQ.out ⟨ca, rfl, by rw [hB.out]; exact TA.out.fin u99⟩ (RD.out.upd u99 QB.out)
  have HB := Lib.hid b99
  clear b99 u99 TA
  go_wp2
  refine bodyPost_ret (v := .agg (ca).toArray) ?_ rfl FIN.out
  exact results_cell_row (g := B) (t := 33) (cs := (ca).toArray) (fr := (0, 0)) Try.results38 _ _ _ rfl HB.out Try.underlying33 rfl (rwSize C6.out)
 rw [if_neg c1] at EQ
 go_upto_region 4 with (fail)
 refine lbeg (opsOf Try.f38 4) ?_
 refine lnow 0 (.pointer (some ⟨q, 0, none⟩)) (some 13) ?_
 refine lcal 1 50 #[.pointer (some ⟨q, 0, none⟩), sT [97, 108, 108]] (some 14) _ (accept_no K q w1 l RD.out [97, 108, 108] c1) ?_
 rintro e w' ⟨rfl, hw'⟩
 obtain rfl := hw'.symm
 refine ⟨_, rfl, ?_⟩
 refine lnow 2 (.bool false) (some 12) ?_
 refine ldn 3 ?_
 generalize hact : Act.put _ (some 12) _ = act
 simp only [Act.put, sA, sC, sZ] at hact
 subst hact
 by_cases c2 : nx l = [108, 101, 116]
 ·skip
  rw [if_pos c2] at EQ
  go_upto_region 6 with (fail)
  refine lbeg (opsOf Try.f38 6) ?_
  refine lnow 0 (.pointer (some ⟨q, 0, none⟩)) (some 19) ?_
  refine lcal 1 50 #[.pointer (some ⟨q, 0, none⟩), sT [108, 101, 116]] (some 20) _ (accept_yes K q w1 l RD.out [108, 101, 116] c2 (by decide)) ?_
  rintro e w2 ⟨rfl, hb, hp⟩
  refine ⟨_, rfl, ?_⟩
  obtain ⟨l3, hl3⟩ : ∃ y, Hid (l.tail = y) := ⟨_, rfl⟩
  rw [hl3.out] at hp
  try rw [hl3.out] at EQ
  replace BR := Lib.hid (bel_keep hb BR.out (by have := QB.out; omega) BR.out.lt)
  replace BB := Lib.hid (BB.out.trans (hb.mono SZ.out))
  replace SZ := Lib.hid (Nat.le_trans SZ.out hb.size)
  replace RD := Lib.hid hp
  clear hb hp
  refine lnow 2 (.bool true) (some 18) ?_
  refine ldn 3 ?_
  generalize hact : Act.put _ (some 18) _ = act
  simp only [Act.put, sA, sC, sZ] at hact
  subst hact
  replace LL : Hid (l3.length + 1 ≤ n) := by have := LL.out; have := tail_lt (l := l) (by rw [c2]; simp); rw [hl3.out] at this; rw [Hid]; omega
  replace EQ := PR.tail EQ
  go_upto_region 7 with (fail)
  refine lbeg (opsOf Try.f38 7) ?_
  refine lnow 0 (.pointer (some ⟨q, 0, none⟩)) (some 21) ?_
  refine lnow 1 (.int .i64 (K l.length : Int)) (some 22) ?_
  refine lin_callPP 2 55 #[.pointer (some ⟨q, 0, none⟩), .int .i64 (K l.length : Int)] (some 23) (by kernel_rfl) (by kernel_rfl) (by kernel_rfl) (let_walk K q w2 l3 RD.out T hT2 l.length n HT LL.out) EQ (fun p c w' hb ho => ⟨rfl, PP.no (by rw [hB.out]; exact BB.out.trans (hb.mono SZ.out)) ho⟩) ?_
  intro x l5 vv w4 hx EQ1 hb hv hp
  replace EQ := EQ1
  clear EQ1
  obtain ⟨ca, rfl, hct⟩ := hv
  have TA := Lib.hid (hct.range (BR.out.lt : B + 1 ≤ _))
  clear hct hx
  replace BR := Lib.hid (bel_keep hb BR.out (by have := QB.out; omega) BR.out.lt)
  replace BB := Lib.hid (BB.out.trans (hb.mono SZ.out))
  replace SZ := Lib.hid (Nat.le_trans SZ.out hb.size)
  replace RD := Lib.hid hp
  clear hb hp
  refine lput 3 33 (.tmp 2) (.tmp 23) (B) _ z6R (ca) BR.out (TA.out.len.trans z6_len.symm) (rwSize TA.out.len) (by simpa using TA.out.one) ?_
  intro w99 b99 u99
  refine ldn 4 ?_
  generalize hact : Act.put _ none _ = act
  simp only [Act.put, sA, sC, sZ] at hact
  subst hact
  have C6 := Lib.hid TA.out.len
  have FIN : Hid (PP K q oo (RRw K) w (.returned (.agg (ca).toArray)) w99) := PP.yes (by rw [hB.out]; exact BB.out.newBlk u99 (Nat.le_refl _) SZ.out) EQ.out ⟨ca, rfl, by rw [hB.out]; exact TA.out.fin u99⟩ (RD.out.upd u99 QB.out)
  have HB := Lib.hid b99
  clear b99 u99 TA
  go_wp2
  refine bodyPost_ret (v := .agg (ca).toArray) ?_ rfl FIN.out
  exact results_cell_row (g := B) (t := 33) (cs := (ca).toArray) (fr := (0, 0)) Try.results38 _ _ _ rfl HB.out Try.underlying33 rfl (rwSize C6.out)
 rw [if_neg c2] at EQ
 go_upto_region 6 with (fail)
 refine lbeg (opsOf Try.f38 6) ?_
 refine lnow 0 (.pointer (some ⟨q, 0, none⟩)) (some 19) ?_
 refine lcal 1 50 #[.pointer (some ⟨q, 0, none⟩), sT [108, 101, 116]] (some 20) _ (accept_no K q w1 l RD.out [108, 101, 116] c2) ?_
 rintro e w' ⟨rfl, hw'⟩
 obtain rfl := hw'.symm
 refine ⟨_, rfl, ?_⟩
 refine lnow 2 (.bool false) (some 18) ?_
 refine ldn 3 ?_
 generalize hact : Act.put _ (some 18) _ = act
 simp only [Act.put, sA, sC, sZ] at hact
 subst hact
 replace EQ := PR.tail EQ
 go_upto_region 8 with (fail)
 refine lbeg (opsOf Try.f38 8) ?_
 refine lnow 0 (.pointer (some ⟨q, 0, none⟩)) (some 24) ?_
 refine lin_callPP 1 56 #[.pointer (some ⟨q, 0, none⟩)] (some 25) (by kernel_rfl) (by kernel_rfl) (by kernel_rfl) (app_walkP K q w1 l RD.out A hA2 (n + 1) HA (by have := LL.out; omega)) EQ (fun p c w' hb ho => ⟨rfl, PP.no (by rw [hB.out]; exact BB.out.trans (hb.mono SZ.out)) ho⟩) ?_
 intro x l3 vv w2 hx EQ1 hb hv hp
 replace EQ := EQ1
 clear EQ1
 obtain ⟨ca, rfl, hct⟩ := hv
 have TA := Lib.hid (hct.range (BR.out.lt : B + 1 ≤ _))
 clear hct hx
 replace BR := Lib.hid (bel_keep hb BR.out (by have := QB.out; omega) BR.out.lt)
 replace BB := Lib.hid (BB.out.trans (hb.mono SZ.out))
 replace SZ := Lib.hid (Nat.le_trans SZ.out hb.size)
 replace RD := Lib.hid hp
 clear hb hp
 refine lput 2 33 (.tmp 2) (.tmp 25) (B) _ z6R (ca) BR.out (TA.out.len.trans z6_len.symm) (rwSize TA.out.len) (by simpa using TA.out.one) ?_
 intro w99 b99 u99
 refine ldn 3 ?_
 generalize hact : Act.put _ none _ = act
 simp only [Act.put, sA, sC, sZ] at hact
 subst hact
 have C6 := Lib.hid TA.out.len
 have FIN : Hid (PP K q oo (RRw K) w (.returned (.agg (ca).toArray)) w99) := PP.yes (by rw [hB.out]; exact BB.out.newBlk u99 (Nat.le_refl _) SZ.out) EQ.out ⟨ca, rfl, by rw [hB.out]; exact TA.out.fin u99⟩ (RD.out.upd u99 QB.out)
 have HB := Lib.hid b99
 clear b99 u99 TA
 go_wp2
 refine bodyPost_ret (v := .agg (ca).toArray) ?_ rfl FIN.out
 exact results_cell_row (g := B) (t := 33) (cs := (ca).toArray) (fr := (0, 0)) Try.results38 _ _ _ rfl HB.out Try.underlying33 rfl (rwSize C6.out)
/-- Both, by how much is left: a term may ask for an atom there, an atom for less. -/
theorem tf_walk (K : Nat → Nat) (q : Nat) : ∀ (n : Nat), (∀ (w : World) (l : List (List UInt8)), 2 * l.length + 2 ≤ n → PAt K q w l → Calls Try.prog 38 #[.pointer (some ⟨q, 0, none⟩)] w (PP K q (tf n true l) (RRw K) w)) ∧ (∀ (w : World) (l : List (List UInt8)), 2 * l.length + 1 ≤ n → PAt K q w l → Calls Try.prog 62 #[.pointer (some ⟨q, 0, none⟩)] w (PP K q (tf n false l) (RRw K) w))
 | 0 => ⟨fun _ _ h => by omega, fun _ _ h => by omega⟩
 | n + 1 => by
  obtain ⟨h1, h2⟩ := tf_walk K q n
  refine ⟨fun w l hl hp => ?_, fun w l hl hp => ?_⟩
  ·exact term_walkP K q w l hp (tf n true) (tf n false) (tf_lt n true) (tf_lt n false) l.length (fun w' l' h' hp' => h1 w' l' (by omega) hp') (fun w' l' h' hp' => h2 w' l' (by omega) hp') (Nat.le_refl _)
  ·exact atom_walkP K q w l hp (tf n true) (tf n false) l.length (fun w' l' h' hp' => h1 w' l' (by omega) hp') (fun w' l' h' hp' => h2 w' l' (by omega) hp') (Nat.le_refl _)
theorem term_all (K : Nat → Nat) (q : Nat) (w : World) (l : List (List UInt8)) (h : PAt K q w l) : Calls Try.prog 38 #[.pointer (some ⟨q, 0, none⟩)] w (PP K q (tf FU true l) (RRw K) w) := (tf_walk K q FU).1 w l (by have := h.len; unfold FU; omega) h
end Go.Proofs.Ytdacmogedchnaaa
