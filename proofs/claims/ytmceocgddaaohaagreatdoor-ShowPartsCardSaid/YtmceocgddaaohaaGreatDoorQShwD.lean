/- Package show: applications, binders, atoms. -/
import Derived.Test.YtmceocgddaaohaaGreatDoorQGenT
import Derived.Test.YtmceocgddaaohaaGreatDoorQShwC
namespace Go.Proofs.YtmceocgddaaohaaGreatDoor
open Go Go.RowKit
set_option maxRecDepth 100000
theorem LvsOff.into {F : List Nat} {w : World} {v : Value} {ls : List Lv} (h : LvsOff F w v ls) (hn : ls.length ≤ 1000000) : LvsIn w v ls := by
 obtain ⟨a, cap, h1, h2, h3, h4, h5⟩ := h
 refine ⟨a, cap, h1, h2, by omega, h4, fun hp => ?_⟩
 obtain ⟨pb, po, e, hF, hb, hr⟩ := h5 hp
 exact ⟨pb, po, e, hb, hr⟩
set_option maxHeartbeats 4000000 in
theorem app_app (B : Nat) (w0 : World) (b d : Nat) (nv : Value) (ns : List (List UInt8)) (cs : List Value) (n : Int) (s : List UInt8) (lv : Value) (pb po ac : Nat) (h5 : cs.length = 5) (hc : cs = [.int .i64 5, .int .i64 n, strT s, lv, .slice (some ⟨pb, po, none⟩) 2 ac]) (hpb : pb < B) (c0 : List Value) (r0 : w0.rangeAt pb (po + 5 * 0) c0) (l0 : c0.length = 5) (X0 : List UInt8) (c1 : List Value) (r1 : w0.rangeAt pb (po + 5 * 1) c1) (l1 : c1.length = 5) (X1 : List UInt8) (h0 : Writes B w0 b nv ns 82 #[.pointer (some ⟨b, 0, none⟩), .agg c0.toArray, .int .i64 (d : Int)] X0) (h1 : Writes B w0 b nv ns 105 #[.pointer (some ⟨b, 0, none⟩), .agg c1.toArray, .int .i64 (d : Int)] X1) : Writes B w0 b nv ns 82 #[.pointer (some ⟨b, 0, none⟩), .agg cs.toArray, .int .i64 (d : Int)] (X0 ++ ([32] ++ X1)) := by
 intro bs w hb hw hnm hm
 have BE0 : Hid (Below B w0 w) := hb
 have WB := Lib.hid hw
 have NM := Lib.hid hnm
 have HM := Lib.hid hm
 have WW : Hid (WS B b w w) := WS.refl _ _ _
 have SW : Hid (B ≤ w.heap.size) := Nat.le_trans hw.ge (Nat.le_of_lt hw.lt)
 have C5 := Lib.hid h5
 clear hb hw hnm hm h5
 have HC := Lib.hid hc
 clear hc
 go_enter Tryz.func82, Tryz.ntmps82
 go_upto_region 0 with (fail)
 refine lbeg (opsOf Tryz.f82 0) ?_
 obtain ⟨q1, hq1⟩ : ∃ y, Hid (w.heap.size = y) := ⟨_, rfl⟩
 refine lbox 0 25 (.tmp 1) (cs) q1 (some 4) hq1 ?_
 intro w2 b1 e1 s1
 rw [← hq1.out] at e1
 replace WB := Lib.hid (WB.out.below e1)
 replace NM := Lib.hid (NM.out.below e1)
 replace WW := Lib.hid (WW.out.trans (WS.of_below e1 SW.out))
 replace SW : Hid (B ≤ w2.heap.size) := Nat.le_trans SW.out e1.size
 have BX := Lib.hid b1
 clear b1 e1 s1 hq1
 refine ldn 1 ?_
 generalize hact : Act.put _ (some 4) _ = act
 simp only [Act.put, sA, sC, sZ] at hact
 subst hact
 go_upto_region 1 with (fail)
 refine lbeg (opsOf Tryz.f82 1) ?_
 refine lnow 0 (.pointer (some ⟨q1, 0, none⟩)) (some 6) ?_
 refine lcl 1 (.int .i64 5) (some 7) 3 6 q1 0 (BX.out.cell (by rw [HC.out]; rfl)) Tryz.underlying3 ?_
 refine lnow 2 (.bool false) (some 8) ?_
 refine ldn 3 ?_
 generalize hact : Act.put _ (some 8) _ = act
 simp only [Act.put, sA, sC, sZ] at hact
 subst hact
 go_upto_region 3 with (fail)
 refine lbeg (opsOf Tryz.f82 3) ?_
 refine lnow 0 (.pointer (some ⟨b, 0, none⟩)) (some 13) ?_
 refine lnow 1 (.pointer (some ⟨q1, 4, none⟩)) (some 14) ?_
 refine lcl 2 (.slice (some ⟨pb, po, none⟩) 2 ac) (some 15) 23 14 q1 4 (BX.out.cell (by rw [HC.out]; rfl)) Tryz.underlying23 ?_
 refine lnowP 3 (.pointer (some ⟨pb, po + 5 * 0, none⟩)) (some 16) (exec_indexAt 23 (.tmp 15) (.const (.int .i64 0)) (by kernel_rfl) _ _ _ (by kernel_rfl) (by kernel_rfl) (run_at_tm pb po 2 ac 0 (by omega) _)) ?_
 refine lrl 4 c0 (some 17) 25 16 pb (po + 5 * 0) (rng_low r0 (BE0.out.trans WW.out.low) hpb) Tryz.underlying25 (t5Size l0) ?_
 refine lnow 5 (.int .i64 (d : Int)) (some 18) ?_
 refine lcal 6 82 #[.pointer (some ⟨b, 0, none⟩), .agg c0.toArray, .int .i64 (d : Int)] (some 19) _ (h0 _ w2 (BE0.out.trans WW.out.low) WB.out NM.out (by have := HM.out; (try simp only [List.length_append, List.length_cons, List.length_nil] at this ⊢); omega)) ?_
 rintro e w3 ⟨rfl, hw, hs⟩
 refine ⟨_, rfl, ?_⟩
 replace BX := Lib.hid (hs.blk BX.out (WB.out.ne BX.out (by decide)) (by decide))
 replace NM := Lib.hid (NM.out.ws WB.out hs)
 replace WB := Lib.hid hw
 replace WW := Lib.hid (WW.out.trans hs)
 replace SW : Hid (B ≤ w3.heap.size) := Nat.le_trans SW.out hs.low.size
 clear hw hs
 refine ldn 7 ?_
 generalize hact : Act.put _ (some 19) _ = act
 simp only [Act.put, sA, sC, sZ] at hact
 subst hact
 go_upto_region 4 with (fail)
 refine lbeg (opsOf Tryz.f82 4) ?_
 refine lnow 0 (.pointer (some ⟨b, 0, none⟩)) (some 20) ?_
 obtain ⟨q4, hq4⟩ : ∃ y, Hid (w3.heap.size = y) := ⟨_, rfl⟩
 refine lin_row 1 9 ([[32]].map sT) q4 1 (some 21) (by kernel_rfl) (by kernel_rfl) hq4 (exec_of _ _ (by kernel_rfl) (run_bs1 ([32]) _)) ?_
 intro w5 b1 e1 s1
 rw [← hq4.out] at e1
 replace WB := Lib.hid (WB.out.below e1)
 replace NM := Lib.hid (NM.out.below e1)
 replace WW := Lib.hid (WW.out.trans (WS.of_below e1 SW.out))
 replace SW : Hid (B ≤ w5.heap.size) := Nat.le_trans SW.out e1.size
 replace BX := Lib.hid (BX.out.below e1 BX.out.lt)
 have RW := Lib.hid b1
 clear b1 e1 s1 hq4
 refine lcal 2 35 #[.pointer (some ⟨b, 0, none⟩), .slice (some ⟨q4, 0, none⟩) 1 1] (some 22) _ (put_here (xs := [[32]]) 1 ([32]) WB.out RW.out rfl (by simp) (by omega) (by have := HM.out; (try simp only [List.length_append, List.length_cons, List.length_nil] at this ⊢); omega)) ?_
 rintro e w6 ⟨rfl, hw, hs⟩
 refine ⟨_, rfl, ?_⟩
 clear RW
 replace BX := Lib.hid (hs.blk BX.out (WB.out.ne BX.out (by decide)) (by decide))
 replace NM := Lib.hid (NM.out.ws WB.out hs)
 replace WB := Lib.hid hw
 replace WW := Lib.hid (WW.out.trans hs)
 replace SW : Hid (B ≤ w6.heap.size) := Nat.le_trans SW.out hs.low.size
 clear hw hs
 refine ldn 3 ?_
 generalize hact : Act.put _ (some 22) _ = act
 simp only [Act.put, sA, sC, sZ] at hact
 subst hact
 go_upto_region 5 with (fail)
 refine lbeg (opsOf Tryz.f82 5) ?_
 refine lnow 0 (.pointer (some ⟨b, 0, none⟩)) (some 23) ?_
 refine lnow 1 (.pointer (some ⟨q1, 4, none⟩)) (some 24) ?_
 refine lcl 2 (.slice (some ⟨pb, po, none⟩) 2 ac) (some 25) 23 24 q1 4 (BX.out.cell (by rw [HC.out]; rfl)) Tryz.underlying23 ?_
 refine lnowP 3 (.pointer (some ⟨pb, po + 5 * 1, none⟩)) (some 26) (exec_indexAt 23 (.tmp 25) (.const (.int .i64 1)) (by kernel_rfl) _ _ _ (by kernel_rfl) (by kernel_rfl) (run_at_tm pb po 2 ac 1 (by omega) _)) ?_
 refine lrl 4 c1 (some 27) 25 26 pb (po + 5 * 1) (rng_low r1 (BE0.out.trans WW.out.low) hpb) Tryz.underlying25 (t5Size l1) ?_
 refine lnow 5 (.int .i64 (d : Int)) (some 28) ?_
 refine lcal 6 105 #[.pointer (some ⟨b, 0, none⟩), .agg c1.toArray, .int .i64 (d : Int)] (some 29) _ (h1 _ w6 (BE0.out.trans WW.out.low) WB.out NM.out (by have := HM.out; (try simp only [List.length_append, List.length_cons, List.length_nil] at this ⊢); omega)) ?_
 rintro e w7 ⟨rfl, hw, hs⟩
 refine ⟨_, rfl, ?_⟩
 replace BX := Lib.hid (hs.blk BX.out (WB.out.ne BX.out (by decide)) (by decide))
 replace NM := Lib.hid (NM.out.ws WB.out hs)
 replace WB := Lib.hid hw
 replace WW := Lib.hid (WW.out.trans hs)
 replace SW : Hid (B ≤ w7.heap.size) := Nat.le_trans SW.out hs.low.size
 clear hw hs
 refine ldn 7 ?_
 generalize hact : Act.put _ (some 29) _ = act
 simp only [Act.put, sA, sC, sZ] at hact
 subst hact
 have FIN : Hid (Wb B b (nv) (bs ++ (X0 ++ ([32] ++ X1))) w7 ∧ WS B b w w7) := ⟨by have := WB.out; (try simp only [List.append_assoc] at this ⊢); exact this, WW.out⟩
 clear WB
 go_wp2
 go_end0
 exact ⟨rfl, FIN.out⟩
set_option maxHeartbeats 4000000 in
theorem binder_writes (B : Nat) (w0 : World) (b d : Nat) (nv : Value) (ns : List (List UInt8)) (nm : List UInt8) (hd : d < ns.length) (hd2 : d ≤ 1000) (hnm1 : ns.getD d [] = nm) (cs : List Value) (k n : Int) (s : List UInt8) (lv : Value) (pb po ac : Nat) (h5 : cs.length = 5) (hc : cs = [.int .i64 k, .int .i64 n, strT s, lv, .slice (some ⟨pb, po, none⟩) 2 ac]) (hpb : pb < B) (c0 : List Value) (r0 : w0.rangeAt pb (po + 5 * 0) c0) (l0 : c0.length = 5) (X0 : List UInt8) (c1 : List Value) (r1 : w0.rangeAt pb (po + 5 * 1) c1) (l1 : c1.length = 5) (X1 : List UInt8) (wd : List UInt8) (h0 : Writes B w0 b nv ns 48 #[.pointer (some ⟨b, 0, none⟩), .agg c0.toArray, .int .i64 (d : Int)] X0) (h1 : Writes B w0 b nv ns 48 #[.pointer (some ⟨b, 0, none⟩), .agg c1.toArray, .int .i64 ((d + 1 : Nat) : Int)] X1) : Writes B w0 b nv ns 80 #[.pointer (some ⟨b, 0, none⟩), sT wd, .agg cs.toArray, .int .i64 (d : Int)] (wd ++ ([32, 40] ++ (nm ++ ([32, 58, 32] ++ (X0 ++ ([41, 44, 32] ++ X1)))))) := by
 intro bs w hb hw hnm hm
 obtain ⟨g, nc, hnv⟩ := hnm.slice
 subst hnv
 have BE0 : Hid (Below B w0 w) := hb
 have WB := Lib.hid hw
 have NM := Lib.hid hnm
 have HM := Lib.hid hm
 have WW : Hid (WS B b w w) := WS.refl _ _ _
 have SW : Hid (B ≤ w.heap.size) := Nat.le_trans hw.ge (Nat.le_of_lt hw.lt)
 have C5 := Lib.hid h5
 clear hb hw hnm hm h5
 have HC := Lib.hid hc
 clear hc
 have NMD := Lib.hid hnm1
 clear hnm1
 obtain ⟨nl, hnl⟩ : ∃ y, Hid (nm.length = y) := ⟨_, rfl⟩
 go_enter Tryz.func80, Tryz.ntmps80
 go_upto_region 0 with (fail)
 refine lbeg (opsOf Tryz.f80 0) ?_
 obtain ⟨q1, hq1⟩ : ∃ y, Hid (w.heap.size = y) := ⟨_, rfl⟩
 refine lbox 0 25 (.tmp 2) (cs) q1 (some 6) hq1 ?_
 intro w2 b1 e1 s1
 rw [← hq1.out] at e1
 replace WB := Lib.hid (WB.out.below e1)
 replace NM := Lib.hid (NM.out.below e1)
 replace WW := Lib.hid (WW.out.trans (WS.of_below e1 SW.out))
 replace SW : Hid (B ≤ w2.heap.size) := Nat.le_trans SW.out e1.size
 have BX := Lib.hid b1
 clear b1 e1 s1 hq1
 refine ldn 1 ?_
 generalize hact : Act.put _ (some 6) _ = act
 simp only [Act.put, sA, sC, sZ] at hact
 subst hact
 go_upto_region 1 with (fail)
 refine lbeg (opsOf Tryz.f80 1) ?_
 refine lnow 0 (.pointer (some ⟨b, 0, none⟩)) (some 8) ?_
 refine lnow 1 (sT wd) (some 9) ?_
 refine lnow 2 (.pointer (some ⟨b, 0, none⟩)) (some 10) ?_
 refine lnow 3 (.pointer (some ⟨b, 0, none⟩)) (some 11) ?_
 refine lnow 4 (.pointer (some ⟨b, 2, none⟩)) (some 12) ?_
 refine lcl 5 (.slice (some ⟨g, 0, none⟩) ns.length nc) (some 13) 62 12 b 2 WB.out.nv Tryz.underlying62 ?_
 refine lnow 6 (.int .i64 (d : Int)) (some 14) ?_
 refine lix 7 (.pointer (some ⟨g, 0 + d, none⟩)) (some 15) 62 13 14 (run_at_str g 0 ns.length nc d hd _) ?_
 refine lcl 8 (sT nm) (some 16) 9 15 g (0 + d) (by rw [← NMD.out]; exact NM.out.get hd) Tryz.underlying9 ?_
 obtain ⟨q3, hq3⟩ : ∃ y, Hid (w2.heap.size = y) := ⟨_, rfl⟩
 refine lin_row 9 9 ([wd, [32, 40], nm, [32, 58, 32]].map sT) q3 4 (some 17) (by kernel_rfl) (by kernel_rfl) hq3 (exec_of _ _ (by kernel_rfl) (run_bs4 (wd) ([32, 40]) (nm) ([32, 58, 32]) _)) ?_
 intro w4 b1 e1 s1
 rw [← hq3.out] at e1
 replace WB := Lib.hid (WB.out.below e1)
 replace NM := Lib.hid (NM.out.below e1)
 replace WW := Lib.hid (WW.out.trans (WS.of_below e1 SW.out))
 replace SW : Hid (B ≤ w4.heap.size) := Nat.le_trans SW.out e1.size
 replace BX := Lib.hid (BX.out.below e1 BX.out.lt)
 have RW := Lib.hid b1
 clear b1 e1 s1 hq3
 refine lcal 10 35 #[.pointer (some ⟨b, 0, none⟩), .slice (some ⟨q3, 0, none⟩) 4 4] (some 18) _ (put_here (xs := [wd, [32, 40], nm, [32, 58, 32]]) 4 (wd ++ ([32, 40] ++ (nm ++ ([32, 58, 32])))) WB.out RW.out rfl (by simp) (by omega) (by have := HM.out; (try simp only [List.length_append, List.length_cons, List.length_nil] at this ⊢); omega)) ?_
 rintro e w5 ⟨rfl, hw, hs⟩
 refine ⟨_, rfl, ?_⟩
 clear RW
 replace BX := Lib.hid (hs.blk BX.out (WB.out.ne BX.out (by decide)) (by decide))
 replace NM := Lib.hid (NM.out.ws WB.out hs)
 replace WB := Lib.hid hw
 replace WW := Lib.hid (WW.out.trans hs)
 replace SW : Hid (B ≤ w5.heap.size) := Nat.le_trans SW.out hs.low.size
 clear hw hs
 refine ldn 11 ?_
 generalize hact : Act.put _ (some 18) _ = act
 simp only [Act.put, sA, sC, sZ] at hact
 subst hact
 go_upto_region 2 with (fail)
 refine lbeg (opsOf Tryz.f80 2) ?_
 refine lnow 0 (.pointer (some ⟨b, 0, none⟩)) (some 19) ?_
 refine lnow 1 (.pointer (some ⟨q1, 4, none⟩)) (some 20) ?_
 refine lcl 2 (.slice (some ⟨pb, po, none⟩) 2 ac) (some 21) 23 20 q1 4 (BX.out.cell (by rw [HC.out]; rfl)) Tryz.underlying23 ?_
 refine lnowP 3 (.pointer (some ⟨pb, po + 5 * 0, none⟩)) (some 22) (exec_indexAt 23 (.tmp 21) (.const (.int .i64 0)) (by kernel_rfl) _ _ _ (by kernel_rfl) (by kernel_rfl) (run_at_tm pb po 2 ac 0 (by omega) _)) ?_
 refine lrl 4 c0 (some 23) 25 22 pb (po + 5 * 0) (rng_low r0 (BE0.out.trans WW.out.low) hpb) Tryz.underlying25 (t5Size l0) ?_
 refine lnow 5 (.int .i64 (d : Int)) (some 24) ?_
 refine lcal 6 48 #[.pointer (some ⟨b, 0, none⟩), .agg c0.toArray, .int .i64 (d : Int)] (some 25) _ (h0 _ w5 (BE0.out.trans WW.out.low) WB.out NM.out (by have := HM.out; (try simp only [List.length_append, List.length_cons, List.length_nil] at this ⊢); omega)) ?_
 rintro e w6 ⟨rfl, hw, hs⟩
 refine ⟨_, rfl, ?_⟩
 replace BX := Lib.hid (hs.blk BX.out (WB.out.ne BX.out (by decide)) (by decide))
 replace NM := Lib.hid (NM.out.ws WB.out hs)
 replace WB := Lib.hid hw
 replace WW := Lib.hid (WW.out.trans hs)
 replace SW : Hid (B ≤ w6.heap.size) := Nat.le_trans SW.out hs.low.size
 clear hw hs
 refine ldn 7 ?_
 generalize hact : Act.put _ (some 25) _ = act
 simp only [Act.put, sA, sC, sZ] at hact
 subst hact
 go_upto_region 3 with (fail)
 refine lbeg (opsOf Tryz.f80 3) ?_
 refine lnow 0 (.pointer (some ⟨b, 0, none⟩)) (some 26) ?_
 obtain ⟨q7, hq7⟩ : ∃ y, Hid (w6.heap.size = y) := ⟨_, rfl⟩
 refine lin_row 1 9 ([[41, 44, 32]].map sT) q7 1 (some 27) (by kernel_rfl) (by kernel_rfl) hq7 (exec_of _ _ (by kernel_rfl) (run_bs1 ([41, 44, 32]) _)) ?_
 intro w8 b1 e1 s1
 rw [← hq7.out] at e1
 replace WB := Lib.hid (WB.out.below e1)
 replace NM := Lib.hid (NM.out.below e1)
 replace WW := Lib.hid (WW.out.trans (WS.of_below e1 SW.out))
 replace SW : Hid (B ≤ w8.heap.size) := Nat.le_trans SW.out e1.size
 replace BX := Lib.hid (BX.out.below e1 BX.out.lt)
 have RW := Lib.hid b1
 clear b1 e1 s1 hq7
 refine lcal 2 35 #[.pointer (some ⟨b, 0, none⟩), .slice (some ⟨q7, 0, none⟩) 1 1] (some 28) _ (put_here (xs := [[41, 44, 32]]) 1 ([41, 44, 32]) WB.out RW.out rfl (by simp) (by omega) (by have := HM.out; (try simp only [List.length_append, List.length_cons, List.length_nil] at this ⊢); omega)) ?_
 rintro e w9 ⟨rfl, hw, hs⟩
 refine ⟨_, rfl, ?_⟩
 clear RW
 replace BX := Lib.hid (hs.blk BX.out (WB.out.ne BX.out (by decide)) (by decide))
 replace NM := Lib.hid (NM.out.ws WB.out hs)
 replace WB := Lib.hid hw
 replace WW := Lib.hid (WW.out.trans hs)
 replace SW : Hid (B ≤ w9.heap.size) := Nat.le_trans SW.out hs.low.size
 clear hw hs
 refine ldn 3 ?_
 generalize hact : Act.put _ (some 28) _ = act
 simp only [Act.put, sA, sC, sZ] at hact
 subst hact
 go_upto_region 4 with (fail)
 refine lbeg (opsOf Tryz.f80 4) ?_
 refine lnow 0 (.pointer (some ⟨b, 0, none⟩)) (some 29) ?_
 refine lnow 1 (.pointer (some ⟨q1, 4, none⟩)) (some 30) ?_
 refine lcl 2 (.slice (some ⟨pb, po, none⟩) 2 ac) (some 31) 23 30 q1 4 (BX.out.cell (by rw [HC.out]; rfl)) Tryz.underlying23 ?_
 refine lnowP 3 (.pointer (some ⟨pb, po + 5 * 1, none⟩)) (some 32) (exec_indexAt 23 (.tmp 31) (.const (.int .i64 1)) (by kernel_rfl) _ _ _ (by kernel_rfl) (by kernel_rfl) (run_at_tm pb po 2 ac 1 (by omega) _)) ?_
 refine lrl 4 c1 (some 33) 25 32 pb (po + 5 * 1) (rng_low r1 (BE0.out.trans WW.out.low) hpb) Tryz.underlying25 (t5Size l1) ?_
 refine lnow 5 (.int .i64 (d : Int)) (some 34) ?_
 refine lnow 6 (.int .i64 (IntKind.i64.wrap ((d : Int) + 1))) (some 35) ?_
 rw [show IntKind.i64.wrap ((d : Int) + 1) = ((d + 1 : Nat) : Int) from (IntWalk.i64_in _ (by omega)).trans (by omega)]
 refine lcal 7 48 #[.pointer (some ⟨b, 0, none⟩), .agg c1.toArray, .int .i64 ((d + 1 : Nat) : Int)] (some 36) _ (h1 _ w9 (BE0.out.trans WW.out.low) WB.out NM.out (by have := HM.out; (try simp only [List.length_append, List.length_cons, List.length_nil] at this ⊢); omega)) ?_
 rintro e w10 ⟨rfl, hw, hs⟩
 refine ⟨_, rfl, ?_⟩
 replace BX := Lib.hid (hs.blk BX.out (WB.out.ne BX.out (by decide)) (by decide))
 replace NM := Lib.hid (NM.out.ws WB.out hs)
 replace WB := Lib.hid hw
 replace WW := Lib.hid (WW.out.trans hs)
 replace SW : Hid (B ≤ w10.heap.size) := Nat.le_trans SW.out hs.low.size
 clear hw hs
 refine ldn 8 ?_
 generalize hact : Act.put _ (some 36) _ = act
 simp only [Act.put, sA, sC, sZ] at hact
 subst hact
 have FIN : Hid (Wb B b (.slice (some ⟨g, 0, none⟩) ns.length nc) (bs ++ (wd ++ ([32, 40] ++ (nm ++ ([32, 58, 32] ++ (X0 ++ ([41, 44, 32] ++ X1))))))) w10 ∧ WS B b w w10) := ⟨by have := WB.out; (try simp only [List.append_assoc] at this ⊢); exact this, WW.out⟩
 clear WB
 go_wp2
 go_end0
 exact ⟨rfl, FIN.out⟩
set_option maxHeartbeats 4000000 in
theorem let_writes (B : Nat) (w0 : World) (b d : Nat) (nv : Value) (ns : List (List UInt8)) (nm : List UInt8) (hd : d < ns.length) (hd2 : d ≤ 1000) (hnm1 : ns.getD d [] = nm) (cs : List Value) (k n : Int) (s : List UInt8) (lv : Value) (pb po ac : Nat) (h5 : cs.length = 5) (hc : cs = [.int .i64 k, .int .i64 n, strT s, lv, .slice (some ⟨pb, po, none⟩) 3 ac]) (hpb : pb < B) (c0 : List Value) (r0 : w0.rangeAt pb (po + 5 * 0) c0) (l0 : c0.length = 5) (X0 : List UInt8) (c1 : List Value) (r1 : w0.rangeAt pb (po + 5 * 1) c1) (l1 : c1.length = 5) (X1 : List UInt8) (c2 : List Value) (r2 : w0.rangeAt pb (po + 5 * 2) c2) (l2 : c2.length = 5) (X2 : List UInt8) (h0 : Writes B w0 b nv ns 48 #[.pointer (some ⟨b, 0, none⟩), .agg c0.toArray, .int .i64 (d : Int)] X0) (h1 : Writes B w0 b nv ns 48 #[.pointer (some ⟨b, 0, none⟩), .agg c1.toArray, .int .i64 (d : Int)] X1) (h2 : Writes B w0 b nv ns 48 #[.pointer (some ⟨b, 0, none⟩), .agg c2.toArray, .int .i64 ((d + 1 : Nat) : Int)] X2) : Writes B w0 b nv ns 81 #[.pointer (some ⟨b, 0, none⟩), .agg cs.toArray, .int .i64 (d : Int)] ([108, 101, 116, 32] ++ (nm ++ ([32, 58, 32] ++ (X0 ++ ([32, 58, 61, 32] ++ (X1 ++ ([32, 105, 110, 32] ++ X2))))))) := by
 intro bs w hb hw hnm hm
 obtain ⟨g, nc, hnv⟩ := hnm.slice
 subst hnv
 have BE0 : Hid (Below B w0 w) := hb
 have WB := Lib.hid hw
 have NM := Lib.hid hnm
 have HM := Lib.hid hm
 have WW : Hid (WS B b w w) := WS.refl _ _ _
 have SW : Hid (B ≤ w.heap.size) := Nat.le_trans hw.ge (Nat.le_of_lt hw.lt)
 have C5 := Lib.hid h5
 clear hb hw hnm hm h5
 have HC := Lib.hid hc
 clear hc
 have NMD := Lib.hid hnm1
 clear hnm1
 obtain ⟨nl, hnl⟩ : ∃ y, Hid (nm.length = y) := ⟨_, rfl⟩
 go_enter Tryz.func81, Tryz.ntmps81
 go_upto_region 0 with (fail)
 refine lbeg (opsOf Tryz.f81 0) ?_
 obtain ⟨q1, hq1⟩ : ∃ y, Hid (w.heap.size = y) := ⟨_, rfl⟩
 refine lbox 0 25 (.tmp 1) (cs) q1 (some 4) hq1 ?_
 intro w2 b1 e1 s1
 rw [← hq1.out] at e1
 replace WB := Lib.hid (WB.out.below e1)
 replace NM := Lib.hid (NM.out.below e1)
 replace WW := Lib.hid (WW.out.trans (WS.of_below e1 SW.out))
 replace SW : Hid (B ≤ w2.heap.size) := Nat.le_trans SW.out e1.size
 have BX := Lib.hid b1
 clear b1 e1 s1 hq1
 refine ldn 1 ?_
 generalize hact : Act.put _ (some 4) _ = act
 simp only [Act.put, sA, sC, sZ] at hact
 subst hact
 go_upto_region 1 with (fail)
 refine lbeg (opsOf Tryz.f81 1) ?_
 refine lnow 0 (.pointer (some ⟨b, 0, none⟩)) (some 6) ?_
 refine lnow 1 (.pointer (some ⟨b, 0, none⟩)) (some 7) ?_
 refine lnow 2 (.pointer (some ⟨b, 0, none⟩)) (some 8) ?_
 refine lnow 3 (.pointer (some ⟨b, 2, none⟩)) (some 9) ?_
 refine lcl 4 (.slice (some ⟨g, 0, none⟩) ns.length nc) (some 10) 62 9 b 2 WB.out.nv Tryz.underlying62 ?_
 refine lnow 5 (.int .i64 (d : Int)) (some 11) ?_
 refine lix 6 (.pointer (some ⟨g, 0 + d, none⟩)) (some 12) 62 10 11 (run_at_str g 0 ns.length nc d hd _) ?_
 refine lcl 7 (sT nm) (some 13) 9 12 g (0 + d) (by rw [← NMD.out]; exact NM.out.get hd) Tryz.underlying9 ?_
 obtain ⟨q3, hq3⟩ : ∃ y, Hid (w2.heap.size = y) := ⟨_, rfl⟩
 refine lin_row 8 9 ([[108, 101, 116, 32], nm, [32, 58, 32]].map sT) q3 3 (some 14) (by kernel_rfl) (by kernel_rfl) hq3 (exec_of _ _ (by kernel_rfl) (run_bs3 ([108, 101, 116, 32]) (nm) ([32, 58, 32]) _)) ?_
 intro w4 b1 e1 s1
 rw [← hq3.out] at e1
 replace WB := Lib.hid (WB.out.below e1)
 replace NM := Lib.hid (NM.out.below e1)
 replace WW := Lib.hid (WW.out.trans (WS.of_below e1 SW.out))
 replace SW : Hid (B ≤ w4.heap.size) := Nat.le_trans SW.out e1.size
 replace BX := Lib.hid (BX.out.below e1 BX.out.lt)
 have RW := Lib.hid b1
 clear b1 e1 s1 hq3
 refine lcal 9 35 #[.pointer (some ⟨b, 0, none⟩), .slice (some ⟨q3, 0, none⟩) 3 3] (some 15) _ (put_here (xs := [[108, 101, 116, 32], nm, [32, 58, 32]]) 3 ([108, 101, 116, 32] ++ (nm ++ ([32, 58, 32]))) WB.out RW.out rfl (by simp) (by omega) (by have := HM.out; (try simp only [List.length_append, List.length_cons, List.length_nil] at this ⊢); omega)) ?_
 rintro e w5 ⟨rfl, hw, hs⟩
 refine ⟨_, rfl, ?_⟩
 clear RW
 replace BX := Lib.hid (hs.blk BX.out (WB.out.ne BX.out (by decide)) (by decide))
 replace NM := Lib.hid (NM.out.ws WB.out hs)
 replace WB := Lib.hid hw
 replace WW := Lib.hid (WW.out.trans hs)
 replace SW : Hid (B ≤ w5.heap.size) := Nat.le_trans SW.out hs.low.size
 clear hw hs
 refine ldn 10 ?_
 generalize hact : Act.put _ (some 15) _ = act
 simp only [Act.put, sA, sC, sZ] at hact
 subst hact
 go_upto_region 2 with (fail)
 refine lbeg (opsOf Tryz.f81 2) ?_
 refine lnow 0 (.pointer (some ⟨b, 0, none⟩)) (some 16) ?_
 refine lnow 1 (.pointer (some ⟨q1, 4, none⟩)) (some 17) ?_
 refine lcl 2 (.slice (some ⟨pb, po, none⟩) 3 ac) (some 18) 23 17 q1 4 (BX.out.cell (by rw [HC.out]; rfl)) Tryz.underlying23 ?_
 refine lnowP 3 (.pointer (some ⟨pb, po + 5 * 0, none⟩)) (some 19) (exec_indexAt 23 (.tmp 18) (.const (.int .i64 0)) (by kernel_rfl) _ _ _ (by kernel_rfl) (by kernel_rfl) (run_at_tm pb po 3 ac 0 (by omega) _)) ?_
 refine lrl 4 c0 (some 20) 25 19 pb (po + 5 * 0) (rng_low r0 (BE0.out.trans WW.out.low) hpb) Tryz.underlying25 (t5Size l0) ?_
 refine lnow 5 (.int .i64 (d : Int)) (some 21) ?_
 refine lcal 6 48 #[.pointer (some ⟨b, 0, none⟩), .agg c0.toArray, .int .i64 (d : Int)] (some 22) _ (h0 _ w5 (BE0.out.trans WW.out.low) WB.out NM.out (by have := HM.out; (try simp only [List.length_append, List.length_cons, List.length_nil] at this ⊢); omega)) ?_
 rintro e w6 ⟨rfl, hw, hs⟩
 refine ⟨_, rfl, ?_⟩
 replace BX := Lib.hid (hs.blk BX.out (WB.out.ne BX.out (by decide)) (by decide))
 replace NM := Lib.hid (NM.out.ws WB.out hs)
 replace WB := Lib.hid hw
 replace WW := Lib.hid (WW.out.trans hs)
 replace SW : Hid (B ≤ w6.heap.size) := Nat.le_trans SW.out hs.low.size
 clear hw hs
 refine ldn 7 ?_
 generalize hact : Act.put _ (some 22) _ = act
 simp only [Act.put, sA, sC, sZ] at hact
 subst hact
 go_upto_region 3 with (fail)
 refine lbeg (opsOf Tryz.f81 3) ?_
 refine lnow 0 (.pointer (some ⟨b, 0, none⟩)) (some 23) ?_
 obtain ⟨q7, hq7⟩ : ∃ y, Hid (w6.heap.size = y) := ⟨_, rfl⟩
 refine lin_row 1 9 ([[32, 58, 61, 32]].map sT) q7 1 (some 24) (by kernel_rfl) (by kernel_rfl) hq7 (exec_of _ _ (by kernel_rfl) (run_bs1 ([32, 58, 61, 32]) _)) ?_
 intro w8 b1 e1 s1
 rw [← hq7.out] at e1
 replace WB := Lib.hid (WB.out.below e1)
 replace NM := Lib.hid (NM.out.below e1)
 replace WW := Lib.hid (WW.out.trans (WS.of_below e1 SW.out))
 replace SW : Hid (B ≤ w8.heap.size) := Nat.le_trans SW.out e1.size
 replace BX := Lib.hid (BX.out.below e1 BX.out.lt)
 have RW := Lib.hid b1
 clear b1 e1 s1 hq7
 refine lcal 2 35 #[.pointer (some ⟨b, 0, none⟩), .slice (some ⟨q7, 0, none⟩) 1 1] (some 25) _ (put_here (xs := [[32, 58, 61, 32]]) 1 ([32, 58, 61, 32]) WB.out RW.out rfl (by simp) (by omega) (by have := HM.out; (try simp only [List.length_append, List.length_cons, List.length_nil] at this ⊢); omega)) ?_
 rintro e w9 ⟨rfl, hw, hs⟩
 refine ⟨_, rfl, ?_⟩
 clear RW
 replace BX := Lib.hid (hs.blk BX.out (WB.out.ne BX.out (by decide)) (by decide))
 replace NM := Lib.hid (NM.out.ws WB.out hs)
 replace WB := Lib.hid hw
 replace WW := Lib.hid (WW.out.trans hs)
 replace SW : Hid (B ≤ w9.heap.size) := Nat.le_trans SW.out hs.low.size
 clear hw hs
 refine ldn 3 ?_
 generalize hact : Act.put _ (some 25) _ = act
 simp only [Act.put, sA, sC, sZ] at hact
 subst hact
 go_upto_region 4 with (fail)
 refine lbeg (opsOf Tryz.f81 4) ?_
 refine lnow 0 (.pointer (some ⟨b, 0, none⟩)) (some 26) ?_
 refine lnow 1 (.pointer (some ⟨q1, 4, none⟩)) (some 27) ?_
 refine lcl 2 (.slice (some ⟨pb, po, none⟩) 3 ac) (some 28) 23 27 q1 4 (BX.out.cell (by rw [HC.out]; rfl)) Tryz.underlying23 ?_
 refine lnowP 3 (.pointer (some ⟨pb, po + 5 * 1, none⟩)) (some 29) (exec_indexAt 23 (.tmp 28) (.const (.int .i64 1)) (by kernel_rfl) _ _ _ (by kernel_rfl) (by kernel_rfl) (run_at_tm pb po 3 ac 1 (by omega) _)) ?_
 refine lrl 4 c1 (some 30) 25 29 pb (po + 5 * 1) (rng_low r1 (BE0.out.trans WW.out.low) hpb) Tryz.underlying25 (t5Size l1) ?_
 refine lnow 5 (.int .i64 (d : Int)) (some 31) ?_
 refine lcal 6 48 #[.pointer (some ⟨b, 0, none⟩), .agg c1.toArray, .int .i64 (d : Int)] (some 32) _ (h1 _ w9 (BE0.out.trans WW.out.low) WB.out NM.out (by have := HM.out; (try simp only [List.length_append, List.length_cons, List.length_nil] at this ⊢); omega)) ?_
 rintro e w10 ⟨rfl, hw, hs⟩
 refine ⟨_, rfl, ?_⟩
 replace BX := Lib.hid (hs.blk BX.out (WB.out.ne BX.out (by decide)) (by decide))
 replace NM := Lib.hid (NM.out.ws WB.out hs)
 replace WB := Lib.hid hw
 replace WW := Lib.hid (WW.out.trans hs)
 replace SW : Hid (B ≤ w10.heap.size) := Nat.le_trans SW.out hs.low.size
 clear hw hs
 refine ldn 7 ?_
 generalize hact : Act.put _ (some 32) _ = act
 simp only [Act.put, sA, sC, sZ] at hact
 subst hact
 go_upto_region 5 with (fail)
 refine lbeg (opsOf Tryz.f81 5) ?_
 refine lnow 0 (.pointer (some ⟨b, 0, none⟩)) (some 33) ?_
 obtain ⟨q11, hq11⟩ : ∃ y, Hid (w10.heap.size = y) := ⟨_, rfl⟩
 refine lin_row 1 9 ([[32, 105, 110, 32]].map sT) q11 1 (some 34) (by kernel_rfl) (by kernel_rfl) hq11 (exec_of _ _ (by kernel_rfl) (run_bs1 ([32, 105, 110, 32]) _)) ?_
 intro w12 b1 e1 s1
 rw [← hq11.out] at e1
 replace WB := Lib.hid (WB.out.below e1)
 replace NM := Lib.hid (NM.out.below e1)
 replace WW := Lib.hid (WW.out.trans (WS.of_below e1 SW.out))
 replace SW : Hid (B ≤ w12.heap.size) := Nat.le_trans SW.out e1.size
 replace BX := Lib.hid (BX.out.below e1 BX.out.lt)
 have RW := Lib.hid b1
 clear b1 e1 s1 hq11
 refine lcal 2 35 #[.pointer (some ⟨b, 0, none⟩), .slice (some ⟨q11, 0, none⟩) 1 1] (some 35) _ (put_here (xs := [[32, 105, 110, 32]]) 1 ([32, 105, 110, 32]) WB.out RW.out rfl (by simp) (by omega) (by have := HM.out; (try simp only [List.length_append, List.length_cons, List.length_nil] at this ⊢); omega)) ?_
 rintro e w13 ⟨rfl, hw, hs⟩
 refine ⟨_, rfl, ?_⟩
 clear RW
 replace BX := Lib.hid (hs.blk BX.out (WB.out.ne BX.out (by decide)) (by decide))
 replace NM := Lib.hid (NM.out.ws WB.out hs)
 replace WB := Lib.hid hw
 replace WW := Lib.hid (WW.out.trans hs)
 replace SW : Hid (B ≤ w13.heap.size) := Nat.le_trans SW.out hs.low.size
 clear hw hs
 refine ldn 3 ?_
 generalize hact : Act.put _ (some 35) _ = act
 simp only [Act.put, sA, sC, sZ] at hact
 subst hact
 go_upto_region 6 with (fail)
 refine lbeg (opsOf Tryz.f81 6) ?_
 refine lnow 0 (.pointer (some ⟨b, 0, none⟩)) (some 36) ?_
 refine lnow 1 (.pointer (some ⟨q1, 4, none⟩)) (some 37) ?_
 refine lcl 2 (.slice (some ⟨pb, po, none⟩) 3 ac) (some 38) 23 37 q1 4 (BX.out.cell (by rw [HC.out]; rfl)) Tryz.underlying23 ?_
 refine lnowP 3 (.pointer (some ⟨pb, po + 5 * 2, none⟩)) (some 39) (exec_indexAt 23 (.tmp 38) (.const (.int .i64 2)) (by kernel_rfl) _ _ _ (by kernel_rfl) (by kernel_rfl) (run_at_tm pb po 3 ac 2 (by omega) _)) ?_
 refine lrl 4 c2 (some 40) 25 39 pb (po + 5 * 2) (rng_low r2 (BE0.out.trans WW.out.low) hpb) Tryz.underlying25 (t5Size l2) ?_
 refine lnow 5 (.int .i64 (d : Int)) (some 41) ?_
 refine lnow 6 (.int .i64 (IntKind.i64.wrap ((d : Int) + 1))) (some 42) ?_
 rw [show IntKind.i64.wrap ((d : Int) + 1) = ((d + 1 : Nat) : Int) from (IntWalk.i64_in _ (by omega)).trans (by omega)]
 refine lcal 7 48 #[.pointer (some ⟨b, 0, none⟩), .agg c2.toArray, .int .i64 ((d + 1 : Nat) : Int)] (some 43) _ (h2 _ w13 (BE0.out.trans WW.out.low) WB.out NM.out (by have := HM.out; (try simp only [List.length_append, List.length_cons, List.length_nil] at this ⊢); omega)) ?_
 rintro e w14 ⟨rfl, hw, hs⟩
 refine ⟨_, rfl, ?_⟩
 replace BX := Lib.hid (hs.blk BX.out (WB.out.ne BX.out (by decide)) (by decide))
 replace NM := Lib.hid (NM.out.ws WB.out hs)
 replace WB := Lib.hid hw
 replace WW := Lib.hid (WW.out.trans hs)
 replace SW : Hid (B ≤ w14.heap.size) := Nat.le_trans SW.out hs.low.size
 clear hw hs
 refine ldn 8 ?_
 generalize hact : Act.put _ (some 43) _ = act
 simp only [Act.put, sA, sC, sZ] at hact
 subst hact
 have FIN : Hid (Wb B b (.slice (some ⟨g, 0, none⟩) ns.length nc) (bs ++ ([108, 101, 116, 32] ++ (nm ++ ([32, 58, 32] ++ (X0 ++ ([32, 58, 61, 32] ++ (X1 ++ ([32, 105, 110, 32] ++ X2)))))))) w14 ∧ WS B b w w14) := ⟨by have := WB.out; (try simp only [List.append_assoc] at this ⊢); exact this, WW.out⟩
 clear WB
 go_wp2
 go_end0
 exact ⟨rfl, FIN.out⟩
set_option maxHeartbeats 4000000 in
theorem atom_var (B : Nat) (w0 : World) (b d v i : Nat) (hd2 : d ≤ 1000) (hiv : i + v + 1 = d) (nv : Value) (ns : List (List UInt8)) (nm : List UInt8) (hi : i < ns.length) (hnm1 : ns.getD i [] = nm) (cs : List Value) (s : List UInt8) (lv av : Value) (h5 : cs.length = 5) (hc : cs = [.int .i64 1, .int .i64 (v : Int), strT s, lv, av]) : Writes B w0 b nv ns 105 #[.pointer (some ⟨b, 0, none⟩), .agg cs.toArray, .int .i64 (d : Int)] nm := by
 intro bs w hb hw hnm hm
 obtain ⟨g, nc, hnv⟩ := hnm.slice
 subst hnv
 have BE0 : Hid (Below B w0 w) := hb
 have WB := Lib.hid hw
 have NM := Lib.hid hnm
 have HM := Lib.hid hm
 have WW : Hid (WS B b w w) := WS.refl _ _ _
 have SW : Hid (B ≤ w.heap.size) := Nat.le_trans hw.ge (Nat.le_of_lt hw.lt)
 have C5 := Lib.hid h5
 clear hb hw hnm hm h5
 have HC := Lib.hid hc
 clear hc
 have NMD := Lib.hid hnm1
 clear hnm1
 go_enter Tryz.func105, Tryz.ntmps105
 go_upto_region 0 with (fail)
 refine lbeg (opsOf Tryz.f105 0) ?_
 obtain ⟨q1, hq1⟩ : ∃ y, Hid (w.heap.size = y) := ⟨_, rfl⟩
 refine lbox 0 25 (.tmp 1) (cs) q1 (some 4) hq1 ?_
 intro w2 b1 e1 s1
 rw [← hq1.out] at e1
 replace WB := Lib.hid (WB.out.below e1)
 replace NM := Lib.hid (NM.out.below e1)
 replace WW := Lib.hid (WW.out.trans (WS.of_below e1 SW.out))
 replace SW : Hid (B ≤ w2.heap.size) := Nat.le_trans SW.out e1.size
 have BX := Lib.hid b1
 clear b1 e1 s1 hq1
 refine ldn 1 ?_
 generalize hact : Act.put _ (some 4) _ = act
 simp only [Act.put, sA, sC, sZ] at hact
 subst hact
 go_upto_region 1 with (fail)
 refine lbeg (opsOf Tryz.f105 1) ?_
 refine lnow 0 (.pointer (some ⟨q1, 0, none⟩)) (some 6) ?_
 refine lcl 1 (.int .i64 1) (some 7) 3 6 q1 0 (BX.out.cell (by rw [HC.out]; rfl)) Tryz.underlying3 ?_
 refine ldn 2 ?_
 generalize hact : Act.put _ (some 7) _ = act
 simp only [Act.put, sA, sC, sZ] at hact
 subst hact
 go_upto_region 5 with (fail)
 refine lbeg (opsOf Tryz.f105 5) ?_
 refine lnow 0 (.bool true) (some 19) ?_
 refine lnow 1 (.bool true) (some 18) ?_
 refine ldn 2 ?_
 generalize hact : Act.put _ (some 18) _ = act
 simp only [Act.put, sA, sC, sZ] at hact
 subst hact
 go_upto_region 6 with (fail)
 refine region_begin (opsOf Tryz.f105 6) (fun w' => w'.cell? ⟨b, 2, none⟩ = some (.slice (some ⟨g, 0, none⟩) ns.length nc) ∧ w'.cell? ⟨g, 0 + i, none⟩ = some (sT nm) ∧ w'.cell? ⟨q1, 1, none⟩ = some (.int .i64 (v : Int))) (by kernel_rfl) (by kernel_rfl) 14 (by kernel_rfl) ?_
 intro Q' hQN hN
 have HB9 : Below w2.heap.size w2 (World.drew w2) := Below.drew (Below.refl _ _)
 generalize World.drew w2 = wd3 at HB9 ⊢
 replace WB := Lib.hid (WB.out.below HB9)
 replace NM := Lib.hid (NM.out.below HB9)
 replace WW := Lib.hid (WW.out.trans (WS.of_below HB9 SW.out))
 replace SW : Hid (B ≤ wd3.heap.size) := Nat.le_trans SW.out HB9.size
 replace BX := Lib.hid (BX.out.below HB9 BX.out.lt)
 clear HB9
 have HS : (fun w' => w'.cell? ⟨b, 2, none⟩ = some (.slice (some ⟨g, 0, none⟩) ns.length nc) ∧ w'.cell? ⟨g, 0 + i, none⟩ = some (sT nm) ∧ w'.cell? ⟨q1, 1, none⟩ = some (.int .i64 (v : Int))) wd3 := ⟨WB.out.nv, by rw [← NMD.out]; exact NM.out.get hi, BX.out.cell (by rw [HC.out]; rfl)⟩
 refine reg_now 0 (.pointer (some ⟨b, 0, none⟩)) (some 20) hQN HS (by kernel_rfl) (by kernel_rfl) (fun w => by kernel_rfl) ?_
 refine reg_now 1 (.pointer (some ⟨b, 0, none⟩)) (some 21) hQN HS (by kernel_rfl) (by kernel_rfl) (fun w => by kernel_rfl) ?_
 refine reg_now 2 (.pointer (some ⟨b, 0, none⟩)) (some 22) hQN HS (by kernel_rfl) (by kernel_rfl) (fun w => by kernel_rfl) ?_
 refine reg_now 3 (.pointer (some ⟨b, 2, none⟩)) (some 23) hQN HS (by kernel_rfl) (by kernel_rfl) (fun w => by kernel_rfl) ?_
 refine reg_nowIf 4 (.slice (some ⟨g, 0, none⟩) ns.length nc) (some 24) hQN HS (by kernel_rfl) (by kernel_rfl) (fun w' hw => exec_load_cell 62 (.tmp 23) (by kernel_rfl) b 2 (by kernel_rfl) _ hw.1 _ Tryz.underlying62 rfl) ?_
 refine reg_now 5 (.int .i64 (d : Int)) (some 25) hQN HS (by kernel_rfl) (by kernel_rfl) (fun w => by kernel_rfl) ?_
 refine reg_now 6 (.int .i64 (IntKind.i64.wrap ((d : Int) - 1))) (some 26) hQN HS (by kernel_rfl) (by kernel_rfl) (fun w => by kernel_rfl) ?_
 rw [show IntKind.i64.wrap ((d : Int) - 1) = (d : Int) - 1 from IntWalk.i64_in _ (by omega)]
 refine reg_now 7 (.pointer (some ⟨q1, 1, none⟩)) (some 27) hQN HS (by kernel_rfl) (by kernel_rfl) (fun w => by kernel_rfl) ?_
 refine reg_nowIf 8 (.int .i64 (v : Int)) (some 28) hQN HS (by kernel_rfl) (by kernel_rfl) (fun w' hw => exec_load_cell 3 (.tmp 27) (by kernel_rfl) q1 1 (by kernel_rfl) _ hw.2.2 _ Tryz.underlying3 rfl) ?_
 refine reg_now 9 (.int .i64 (IntKind.i64.wrap ((d : Int) - 1 - (v : Int)))) (some 29) hQN HS (by kernel_rfl) (by kernel_rfl) (fun w => by kernel_rfl) ?_
 rw [show IntKind.i64.wrap ((d : Int) - 1 - (v : Int)) = (i : Int) from (IntWalk.i64_in _ (by omega)).trans (by omega)]
 refine reg_now 10 (.pointer (some ⟨g, 0 + i, none⟩)) (some 30) hQN HS (by kernel_rfl) (by kernel_rfl) (fun w' => exec_indexAt 62 (.tmp 24) (.tmp 29) (by kernel_rfl) _ _ _ (by kernel_rfl) (by kernel_rfl) (run_at_str g 0 ns.length nc i hi w')) ?_
 refine reg_nowIf 11 (sT nm) (some 31) hQN HS (by kernel_rfl) (by kernel_rfl) (fun w' hw => exec_load_cell 9 (.tmp 30) (by kernel_rfl) g (0 + i) (by kernel_rfl) _ hw.2.1 _ Tryz.underlying9 rfl) ?_
 obtain ⟨q4, hq4⟩ : ∃ y, Hid (wd3.heap.size = y) := ⟨_, rfl⟩
 refine reg_row 12 9 ([nm].map sT) q4 1 (some 32) (by kernel_rfl) (by kernel_rfl) hq4 (exec_of _ _ (by kernel_rfl) (run_bs1 (nm) _)) ?_
 intro w5 b1 e1 s1
 rw [← hq4.out] at e1
 replace WB := Lib.hid (WB.out.below e1)
 replace NM := Lib.hid (NM.out.below e1)
 replace WW := Lib.hid (WW.out.trans (WS.of_below e1 SW.out))
 replace SW : Hid (B ≤ w5.heap.size) := Nat.le_trans SW.out e1.size
 replace BX := Lib.hid (BX.out.below e1 BX.out.lt)
 have RW := Lib.hid b1
 clear b1 e1 s1 hq4
 refine ⟨⟨WB.out.nv, by rw [← NMD.out]; exact NM.out.get hi, BX.out.cell (by rw [HC.out]; rfl)⟩, ?_⟩
 refine reg_call 13 35 #[.pointer (some ⟨b, 0, none⟩), .slice (some ⟨q4, 0, none⟩) 1 1] (some 33) _ (by kernel_rfl) (by kernel_rfl) (by kernel_rfl) (put_here (xs := [nm]) 1 (nm) WB.out RW.out rfl (by simp) (by omega) (by have := HM.out; (try simp only [List.length_append, List.length_cons, List.length_nil] at this ⊢); omega)) ?_
 rintro e w6 ⟨rfl, hw, hs⟩
 clear RW
 replace BX := Lib.hid (hs.blk BX.out (WB.out.ne BX.out (by decide)) (by decide))
 replace NM := Lib.hid (NM.out.ws WB.out hs)
 replace WB := Lib.hid hw
 replace WW := Lib.hid (WW.out.trans hs)
 replace SW : Hid (B ≤ w6.heap.size) := Nat.le_trans SW.out hs.low.size
 clear hw hs
 refine ⟨_, rfl, ⟨WB.out.nv, by rw [← NMD.out]; exact NM.out.get hi, BX.out.cell (by rw [HC.out]; rfl)⟩, ?_⟩
 refine reg_done (by kernel_rfl) (hN _ _ ?_)
 generalize hact : Act.put _ (some 33) _ = act
 simp only [Act.put, sA, sC, sZ] at hact
 subst hact
 have FIN : Hid (Wb B b (.slice (some ⟨g, 0, none⟩) ns.length nc) (bs ++ (nm)) w6 ∧ WS B b w w6) := ⟨by have := WB.out; (try simp only [List.append_assoc] at this ⊢); exact this, WW.out⟩
 clear WB
 go_wp2
 go_end0
 exact ⟨rfl, FIN.out⟩
set_option maxHeartbeats 4000000 in
theorem atom_prop (B : Nat) (w0 : World) (b d : Nat) (nv : Value) (ns : List (List UInt8)) (cs : List Value) (n : Int) (s : List UInt8) (lv av : Value) (h5 : cs.length = 5) (hc : cs = [.int .i64 2, .int .i64 n, strT s, lv, av]) : Writes B w0 b nv ns 105 #[.pointer (some ⟨b, 0, none⟩), .agg cs.toArray, .int .i64 (d : Int)] [80, 114, 111, 112] := by
 intro bs w hb hw hnm hm
 have BE0 : Hid (Below B w0 w) := hb
 have WB := Lib.hid hw
 have NM := Lib.hid hnm
 have HM := Lib.hid hm
 have WW : Hid (WS B b w w) := WS.refl _ _ _
 have SW : Hid (B ≤ w.heap.size) := Nat.le_trans hw.ge (Nat.le_of_lt hw.lt)
 have C5 := Lib.hid h5
 clear hb hw hnm hm h5
 have HC := Lib.hid hc
 clear hc
 go_enter Tryz.func105, Tryz.ntmps105
 go_upto_region 0 with (fail)
 refine lbeg (opsOf Tryz.f105 0) ?_
 obtain ⟨q1, hq1⟩ : ∃ y, Hid (w.heap.size = y) := ⟨_, rfl⟩
 refine lbox 0 25 (.tmp 1) (cs) q1 (some 4) hq1 ?_
 intro w2 b1 e1 s1
 rw [← hq1.out] at e1
 replace WB := Lib.hid (WB.out.below e1)
 replace NM := Lib.hid (NM.out.below e1)
 replace WW := Lib.hid (WW.out.trans (WS.of_below e1 SW.out))
 replace SW : Hid (B ≤ w2.heap.size) := Nat.le_trans SW.out e1.size
 have BX := Lib.hid b1
 clear b1 e1 s1 hq1
 refine ldn 1 ?_
 generalize hact : Act.put _ (some 4) _ = act
 simp only [Act.put, sA, sC, sZ] at hact
 subst hact
 go_upto_region 1 with (fail)
 refine lbeg (opsOf Tryz.f105 1) ?_
 refine lnow 0 (.pointer (some ⟨q1, 0, none⟩)) (some 6) ?_
 refine lcl 1 (.int .i64 2) (some 7) 3 6 q1 0 (BX.out.cell (by rw [HC.out]; rfl)) Tryz.underlying3 ?_
 refine ldn 2 ?_
 generalize hact : Act.put _ (some 7) _ = act
 simp only [Act.put, sA, sC, sZ] at hact
 subst hact
 go_upto_region 5 with (fail)
 refine lbeg (opsOf Tryz.f105 5) ?_
 refine lnow 0 (.bool false) (some 19) ?_
 refine lnow 1 (.bool false) (some 18) ?_
 refine ldn 2 ?_
 generalize hact : Act.put _ (some 18) _ = act
 simp only [Act.put, sA, sC, sZ] at hact
 subst hact
 go_upto_region 7 with (fail)
 refine lbeg (opsOf Tryz.f105 7) ?_
 refine lnow 0 (.bool true) (some 35) ?_
 refine lnow 1 (.bool true) (some 34) ?_
 refine ldn 2 ?_
 generalize hact : Act.put _ (some 34) _ = act
 simp only [Act.put, sA, sC, sZ] at hact
 subst hact
 go_upto_region 8 with (fail)
 refine lbeg (opsOf Tryz.f105 8) ?_
 refine lnow 0 (.pointer (some ⟨b, 0, none⟩)) (some 36) ?_
 obtain ⟨q3, hq3⟩ : ∃ y, Hid (w2.heap.size = y) := ⟨_, rfl⟩
 refine lin_row 1 9 ([[80, 114, 111, 112]].map sT) q3 1 (some 37) (by kernel_rfl) (by kernel_rfl) hq3 (exec_of _ _ (by kernel_rfl) (run_bs1 ([80, 114, 111, 112]) _)) ?_
 intro w4 b1 e1 s1
 rw [← hq3.out] at e1
 replace WB := Lib.hid (WB.out.below e1)
 replace NM := Lib.hid (NM.out.below e1)
 replace WW := Lib.hid (WW.out.trans (WS.of_below e1 SW.out))
 replace SW : Hid (B ≤ w4.heap.size) := Nat.le_trans SW.out e1.size
 replace BX := Lib.hid (BX.out.below e1 BX.out.lt)
 have RW := Lib.hid b1
 clear b1 e1 s1 hq3
 refine lcal 2 35 #[.pointer (some ⟨b, 0, none⟩), .slice (some ⟨q3, 0, none⟩) 1 1] (some 38) _ (put_here (xs := [[80, 114, 111, 112]]) 1 ([80, 114, 111, 112]) WB.out RW.out rfl (by simp) (by omega) (by have := HM.out; (try simp only [List.length_append, List.length_cons, List.length_nil] at this ⊢); omega)) ?_
 rintro e w5 ⟨rfl, hw, hs⟩
 refine ⟨_, rfl, ?_⟩
 clear RW
 replace BX := Lib.hid (hs.blk BX.out (WB.out.ne BX.out (by decide)) (by decide))
 replace NM := Lib.hid (NM.out.ws WB.out hs)
 replace WB := Lib.hid hw
 replace WW := Lib.hid (WW.out.trans hs)
 replace SW : Hid (B ≤ w5.heap.size) := Nat.le_trans SW.out hs.low.size
 clear hw hs
 refine ldn 3 ?_
 generalize hact : Act.put _ (some 38) _ = act
 simp only [Act.put, sA, sC, sZ] at hact
 subst hact
 have FIN : Hid (Wb B b (nv) (bs ++ ([80, 114, 111, 112])) w5 ∧ WS B b w w5) := ⟨by have := WB.out; (try simp only [List.append_assoc] at this ⊢); exact this, WW.out⟩
 clear WB
 go_wp2
 go_end0
 exact ⟨rfl, FIN.out⟩
set_option maxHeartbeats 4000000 in
theorem atom_type (B : Nat) (w0 : World) (hB : w0.heap.size = B) (hT : TabW w0) (b d : Nat) (nv : Value) (ns : List (List UInt8)) (cs : List Value) (n : Int) (s : List UInt8) (av : Value) (l : Lv) (lb lo lc : Nat) (hl4 : l.p.length = 4) (hlr : w0.rangeAt lb (lo + 5 * 0) (ints .i64 l.zs)) (hlb : lb < B) (h5 : cs.length = 5) (hc : cs = [.int .i64 3, .int .i64 n, strT s, .slice (some ⟨lb, lo, none⟩) 1 lc, av]) : Writes B w0 b nv ns 105 #[.pointer (some ⟨b, 0, none⟩), .agg cs.toArray, .int .i64 (d : Int)] ([84, 121, 112, 101, 32] ++ tlT l) := by
 intro bs w hb hw hnm hm
 have BE0 : Hid (Below B w0 w) := hb
 have WB := Lib.hid hw
 have NM := Lib.hid hnm
 have HM := Lib.hid hm
 have WW : Hid (WS B b w w) := WS.refl _ _ _
 have SW : Hid (B ≤ w.heap.size) := Nat.le_trans hw.ge (Nat.le_of_lt hw.lt)
 have C5 := Lib.hid h5
 clear hb hw hnm hm h5
 have HC := Lib.hid hc
 clear hc
 have L4 := Lib.hid hl4
 have RL := Lib.hid hlr
 obtain ⟨X, hX⟩ : ∃ y, Hid (tlT l = y) := ⟨_, rfl⟩
 rw [hX.out] at HM ⊢
 go_enter Tryz.func105, Tryz.ntmps105
 go_upto_region 0 with (fail)
 refine lbeg (opsOf Tryz.f105 0) ?_
 obtain ⟨q1, hq1⟩ : ∃ y, Hid (w.heap.size = y) := ⟨_, rfl⟩
 refine lbox 0 25 (.tmp 1) (cs) q1 (some 4) hq1 ?_
 intro w2 b1 e1 s1
 rw [← hq1.out] at e1
 replace WB := Lib.hid (WB.out.below e1)
 replace NM := Lib.hid (NM.out.below e1)
 replace WW := Lib.hid (WW.out.trans (WS.of_below e1 SW.out))
 replace SW : Hid (B ≤ w2.heap.size) := Nat.le_trans SW.out e1.size
 have BX := Lib.hid b1
 clear b1 e1 s1 hq1
 refine ldn 1 ?_
 generalize hact : Act.put _ (some 4) _ = act
 simp only [Act.put, sA, sC, sZ] at hact
 subst hact
 go_upto_region 1 with (fail)
 refine lbeg (opsOf Tryz.f105 1) ?_
 refine lnow 0 (.pointer (some ⟨q1, 0, none⟩)) (some 6) ?_
 refine lcl 1 (.int .i64 3) (some 7) 3 6 q1 0 (BX.out.cell (by rw [HC.out]; rfl)) Tryz.underlying3 ?_
 refine ldn 2 ?_
 generalize hact : Act.put _ (some 7) _ = act
 simp only [Act.put, sA, sC, sZ] at hact
 subst hact
 go_upto_region 5 with (fail)
 refine lbeg (opsOf Tryz.f105 5) ?_
 refine lnow 0 (.bool false) (some 19) ?_
 refine lnow 1 (.bool false) (some 18) ?_
 refine ldn 2 ?_
 generalize hact : Act.put _ (some 18) _ = act
 simp only [Act.put, sA, sC, sZ] at hact
 subst hact
 go_upto_region 7 with (fail)
 refine lbeg (opsOf Tryz.f105 7) ?_
 refine lnow 0 (.bool false) (some 35) ?_
 refine lnow 1 (.bool false) (some 34) ?_
 refine ldn 2 ?_
 generalize hact : Act.put _ (some 34) _ = act
 simp only [Act.put, sA, sC, sZ] at hact
 subst hact
 go_upto_region 9 with (fail)
 refine lbeg (opsOf Tryz.f105 9) ?_
 refine lnow 0 (.bool true) (some 40) ?_
 refine lnow 1 (.bool true) (some 39) ?_
 refine ldn 2 ?_
 generalize hact : Act.put _ (some 39) _ = act
 simp only [Act.put, sA, sC, sZ] at hact
 subst hact
 go_upto_region 10 with (fail)
 refine lbeg (opsOf Tryz.f105 10) ?_
 refine lnow 0 (.pointer (some ⟨b, 0, none⟩)) (some 41) ?_
 refine lnow 1 (.pointer (some ⟨q1, 3, none⟩)) (some 42) ?_
 refine lcl 2 (.slice (some ⟨lb, lo, none⟩) 1 lc) (some 43) 22 42 q1 3 (BX.out.cell (by rw [HC.out]; rfl)) Tryz.underlying22 ?_
 refine lnowP 3 (.pointer (some ⟨lb, lo + 5 * 0, none⟩)) (some 44) (exec_indexAt 22 (.tmp 43) (.const (.int .i64 0)) (by kernel_rfl) _ _ _ (by kernel_rfl) (by kernel_rfl) (run_at_lv lb lo 1 lc 0 (by omega) _)) ?_
 refine lrl 4 (ints .i64 l.zs) (some 45) 80 44 lb (lo + 5 * 0) (rng_low RL.out (BE0.out.trans WW.out.low) hlb) Tryz.underlying80 (lvSize L4.out) ?_
 refine lcal 5 133 #[.agg (ints .i64 l.zs).toArray] (some 46) _ (tlT_walk l L4.out w2 (hT.below (by rw [hB]; exact BE0.out.trans WW.out.low))) ?_
 rintro e w3 ⟨rfl, hb⟩
 refine ⟨_, rfl, ?_⟩
 rw [hX.out]
 replace WB := Lib.hid (WB.out.below hb)
 replace NM := Lib.hid (NM.out.below hb)
 replace WW := Lib.hid (WW.out.trans (WS.of_below hb SW.out))
 replace SW : Hid (B ≤ w3.heap.size) := Nat.le_trans SW.out hb.size
 replace BX := Lib.hid (BX.out.below hb BX.out.lt)
 clear hb
 obtain ⟨q4, hq4⟩ : ∃ y, Hid (w3.heap.size = y) := ⟨_, rfl⟩
 refine lin_row 6 9 ([[84, 121, 112, 101, 32], X].map sT) q4 2 (some 47) (by kernel_rfl) (by kernel_rfl) hq4 (exec_of _ _ (by kernel_rfl) (run_bs2 ([84, 121, 112, 101, 32]) (X) _)) ?_
 intro w5 b1 e1 s1
 rw [← hq4.out] at e1
 replace WB := Lib.hid (WB.out.below e1)
 replace NM := Lib.hid (NM.out.below e1)
 replace WW := Lib.hid (WW.out.trans (WS.of_below e1 SW.out))
 replace SW : Hid (B ≤ w5.heap.size) := Nat.le_trans SW.out e1.size
 replace BX := Lib.hid (BX.out.below e1 BX.out.lt)
 have RW := Lib.hid b1
 clear b1 e1 s1 hq4
 refine lcal 7 35 #[.pointer (some ⟨b, 0, none⟩), .slice (some ⟨q4, 0, none⟩) 2 2] (some 48) _ (put_here (xs := [[84, 121, 112, 101, 32], X]) 2 ([84, 121, 112, 101, 32] ++ (X)) WB.out RW.out rfl (by simp) (by omega) (by have := HM.out; (try simp only [List.length_append, List.length_cons, List.length_nil] at this ⊢); omega)) ?_
 rintro e w6 ⟨rfl, hw, hs⟩
 refine ⟨_, rfl, ?_⟩
 clear RW
 replace BX := Lib.hid (hs.blk BX.out (WB.out.ne BX.out (by decide)) (by decide))
 replace NM := Lib.hid (NM.out.ws WB.out hs)
 replace WB := Lib.hid hw
 replace WW := Lib.hid (WW.out.trans hs)
 replace SW : Hid (B ≤ w6.heap.size) := Nat.le_trans SW.out hs.low.size
 clear hw hs
 refine ldn 8 ?_
 generalize hact : Act.put _ (some 48) _ = act
 simp only [Act.put, sA, sC, sZ] at hact
 subst hact
 have FIN : Hid (Wb B b (nv) (bs ++ ([84, 121, 112, 101, 32] ++ X)) w6 ∧ WS B b w w6) := ⟨by have := WB.out; (try simp only [List.append_assoc] at this ⊢); exact this, WW.out⟩
 clear WB
 go_wp2
 go_end0
 exact ⟨rfl, FIN.out⟩
theorem LvsOff.below {F : List Nat} {w w' : World} {v : Value} {ls : List Lv} (h : LvsOff F w v ls) (hb : Below w.heap.size w w') : LvsOff F w' v ls := h.step (Step.of_below hb (Nat.le_refl _))
set_option maxHeartbeats 4000000 in
theorem atom_const (B : Nat) (w0 : World) (hB : w0.heap.size = B) (hT : TabW w0) (b d : Nat) (nv : Value) (ns : List (List UInt8)) (cs : List Value) (n : Int) (s : List UInt8) (lv av : Value) (h5 : cs.length = 5) (hc : cs = [.int .i64 4, .int .i64 n, strT s, lv, av]) (ls : List Lv) (hlo : LvsOff [] w0 lv ls) (hln : ls.length ≤ 4) : Writes B w0 b nv ns 105 #[.pointer (some ⟨b, 0, none⟩), .agg cs.toArray, .int .i64 (d : Int)] (s ++ lvsT ls) := by
 intro bs w hb hw hnm hm
 have BE0 : Hid (Below B w0 w) := hb
 have WB := Lib.hid hw
 have NM := Lib.hid hnm
 have HM := Lib.hid hm
 have WW : Hid (WS B b w w) := WS.refl _ _ _
 have SW : Hid (B ≤ w.heap.size) := Nat.le_trans hw.ge (Nat.le_of_lt hw.lt)
 have C5 := Lib.hid h5
 clear hb hw hnm hm h5
 have HC := Lib.hid hc
 clear hc
 have LO := Lib.hid hlo
 obtain ⟨X, hX⟩ : ∃ y, Hid (lvsT ls = y) := ⟨_, rfl⟩
 rw [hX.out] at HM ⊢
 go_enter Tryz.func105, Tryz.ntmps105
 go_upto_region 0 with (fail)
 refine lbeg (opsOf Tryz.f105 0) ?_
 obtain ⟨q1, hq1⟩ : ∃ y, Hid (w.heap.size = y) := ⟨_, rfl⟩
 refine lbox 0 25 (.tmp 1) (cs) q1 (some 4) hq1 ?_
 intro w2 b1 e1 s1
 rw [← hq1.out] at e1
 replace WB := Lib.hid (WB.out.below e1)
 replace NM := Lib.hid (NM.out.below e1)
 replace WW := Lib.hid (WW.out.trans (WS.of_below e1 SW.out))
 replace SW : Hid (B ≤ w2.heap.size) := Nat.le_trans SW.out e1.size
 have BX := Lib.hid b1
 clear b1 e1 s1 hq1
 refine ldn 1 ?_
 generalize hact : Act.put _ (some 4) _ = act
 simp only [Act.put, sA, sC, sZ] at hact
 subst hact
 go_upto_region 1 with (fail)
 refine lbeg (opsOf Tryz.f105 1) ?_
 refine lnow 0 (.pointer (some ⟨q1, 0, none⟩)) (some 6) ?_
 refine lcl 1 (.int .i64 4) (some 7) 3 6 q1 0 (BX.out.cell (by rw [HC.out]; rfl)) Tryz.underlying3 ?_
 refine ldn 2 ?_
 generalize hact : Act.put _ (some 7) _ = act
 simp only [Act.put, sA, sC, sZ] at hact
 subst hact
 go_upto_region 5 with (fail)
 refine lbeg (opsOf Tryz.f105 5) ?_
 refine lnow 0 (.bool false) (some 19) ?_
 refine lnow 1 (.bool false) (some 18) ?_
 refine ldn 2 ?_
 generalize hact : Act.put _ (some 18) _ = act
 simp only [Act.put, sA, sC, sZ] at hact
 subst hact
 go_upto_region 7 with (fail)
 refine lbeg (opsOf Tryz.f105 7) ?_
 refine lnow 0 (.bool false) (some 35) ?_
 refine lnow 1 (.bool false) (some 34) ?_
 refine ldn 2 ?_
 generalize hact : Act.put _ (some 34) _ = act
 simp only [Act.put, sA, sC, sZ] at hact
 subst hact
 go_upto_region 9 with (fail)
 refine lbeg (opsOf Tryz.f105 9) ?_
 refine lnow 0 (.bool false) (some 40) ?_
 refine lnow 1 (.bool false) (some 39) ?_
 refine ldn 2 ?_
 generalize hact : Act.put _ (some 39) _ = act
 simp only [Act.put, sA, sC, sZ] at hact
 subst hact
 go_upto_region 11 with (fail)
 refine lbeg (opsOf Tryz.f105 11) ?_
 refine lnow 0 (.bool true) (some 50) ?_
 refine lnow 1 (.bool true) (some 49) ?_
 refine ldn 2 ?_
 generalize hact : Act.put _ (some 49) _ = act
 simp only [Act.put, sA, sC, sZ] at hact
 subst hact
 go_upto_region 12 with (fail)
 refine region_begin (opsOf Tryz.f105 12) (fun w' => w'.cell? ⟨q1, 2, none⟩ = some (sT s) ∧ w'.cell? ⟨q1, 3, none⟩ = some lv) (by kernel_rfl) (by kernel_rfl) 8 (by kernel_rfl) ?_
 intro Q' hQN hN
 have HB9 : Below w2.heap.size w2 (World.drew w2) := Below.drew (Below.refl _ _)
 generalize World.drew w2 = wd3 at HB9 ⊢
 replace WB := Lib.hid (WB.out.below HB9)
 replace NM := Lib.hid (NM.out.below HB9)
 replace WW := Lib.hid (WW.out.trans (WS.of_below HB9 SW.out))
 replace SW : Hid (B ≤ wd3.heap.size) := Nat.le_trans SW.out HB9.size
 replace BX := Lib.hid (BX.out.below HB9 BX.out.lt)
 clear HB9
 have HS : (fun w' => w'.cell? ⟨q1, 2, none⟩ = some (sT s) ∧ w'.cell? ⟨q1, 3, none⟩ = some lv) wd3 := ⟨BX.out.cell (by rw [HC.out]; rfl), BX.out.cell (by rw [HC.out]; rfl)⟩
 refine reg_now 0 (.pointer (some ⟨b, 0, none⟩)) (some 51) hQN HS (by kernel_rfl) (by kernel_rfl) (fun w => by kernel_rfl) ?_
 refine reg_now 1 (.pointer (some ⟨q1, 2, none⟩)) (some 52) hQN HS (by kernel_rfl) (by kernel_rfl) (fun w => by kernel_rfl) ?_
 refine reg_nowIf 2 (sT s) (some 53) hQN HS (by kernel_rfl) (by kernel_rfl) (fun w' hw => exec_load_cell 9 (.tmp 52) (by kernel_rfl) q1 2 (by kernel_rfl) _ hw.1 _ Tryz.underlying9 rfl) ?_
 refine reg_now 3 (.pointer (some ⟨q1, 3, none⟩)) (some 54) hQN HS (by kernel_rfl) (by kernel_rfl) (fun w => by kernel_rfl) ?_
 refine reg_nowIf 4 (lv) (some 55) hQN HS (by kernel_rfl) (by kernel_rfl) (fun w' hw => exec_load_cell 22 (.tmp 54) (by kernel_rfl) q1 3 (by kernel_rfl) _ hw.2 _ Tryz.underlying22 rfl) ?_
 refine reg_call 5 134 #[lv] (some 56) _ (by kernel_rfl) (by kernel_rfl) (by kernel_rfl) (lvsT_walk ls lv wd3 ((LO.out.below (by rw [hB]; exact BE0.out.trans WW.out.low)).into (by omega)) (by omega) (hT.below (by rw [hB]; exact BE0.out.trans WW.out.low))) ?_
 rintro e w4 ⟨rfl, hb⟩
 rw [hX.out]
 replace WB := Lib.hid (WB.out.below hb)
 replace NM := Lib.hid (NM.out.below hb)
 replace WW := Lib.hid (WW.out.trans (WS.of_below hb SW.out))
 replace SW : Hid (B ≤ w4.heap.size) := Nat.le_trans SW.out hb.size
 replace BX := Lib.hid (BX.out.below hb BX.out.lt)
 clear hb
 refine ⟨_, rfl, ⟨BX.out.cell (by rw [HC.out]; rfl), BX.out.cell (by rw [HC.out]; rfl)⟩, ?_⟩
 obtain ⟨q5, hq5⟩ : ∃ y, Hid (w4.heap.size = y) := ⟨_, rfl⟩
 refine reg_row 6 9 ([s, X].map sT) q5 2 (some 57) (by kernel_rfl) (by kernel_rfl) hq5 (exec_of _ _ (by kernel_rfl) (run_bs2 (s) (X) _)) ?_
 intro w6 b1 e1 s1
 rw [← hq5.out] at e1
 replace WB := Lib.hid (WB.out.below e1)
 replace NM := Lib.hid (NM.out.below e1)
 replace WW := Lib.hid (WW.out.trans (WS.of_below e1 SW.out))
 replace SW : Hid (B ≤ w6.heap.size) := Nat.le_trans SW.out e1.size
 replace BX := Lib.hid (BX.out.below e1 BX.out.lt)
 have RW := Lib.hid b1
 clear b1 e1 s1 hq5
 refine ⟨⟨BX.out.cell (by rw [HC.out]; rfl), BX.out.cell (by rw [HC.out]; rfl)⟩, ?_⟩
 refine reg_call 7 35 #[.pointer (some ⟨b, 0, none⟩), .slice (some ⟨q5, 0, none⟩) 2 2] (some 58) _ (by kernel_rfl) (by kernel_rfl) (by kernel_rfl) (put_here (xs := [s, X]) 2 (s ++ (X)) WB.out RW.out rfl (by simp) (by omega) (by have := HM.out; (try simp only [List.length_append, List.length_cons, List.length_nil] at this ⊢); omega)) ?_
 rintro e w7 ⟨rfl, hw, hs⟩
 clear RW
 replace BX := Lib.hid (hs.blk BX.out (WB.out.ne BX.out (by decide)) (by decide))
 replace NM := Lib.hid (NM.out.ws WB.out hs)
 replace WB := Lib.hid hw
 replace WW := Lib.hid (WW.out.trans hs)
 replace SW : Hid (B ≤ w7.heap.size) := Nat.le_trans SW.out hs.low.size
 clear hw hs
 refine ⟨_, rfl, ⟨BX.out.cell (by rw [HC.out]; rfl), BX.out.cell (by rw [HC.out]; rfl)⟩, ?_⟩
 refine reg_done (by kernel_rfl) (hN _ _ ?_)
 generalize hact : Act.put _ (some 58) _ = act
 simp only [Act.put, sA, sC, sZ] at hact
 subst hact
 have FIN : Hid (Wb B b (nv) (bs ++ (s ++ X)) w7 ∧ WS B b w w7) := ⟨by have := WB.out; (try simp only [List.append_assoc] at this ⊢); exact this, WW.out⟩
 clear WB
 go_wp2
 go_end0
 exact ⟨rfl, FIN.out⟩
set_option maxHeartbeats 4000000 in
theorem atom_proj (B : Nat) (w0 : World) (hB : w0.heap.size = B) (hT : TabW w0) (b d : Nat) (nv : Value) (ns : List (List UInt8)) (cs : List Value) (n : Int) (s : List UInt8) (lv : Value) (pb po ac : Nat) (h5 : cs.length = 5) (hc : cs = [.int .i64 9, .int .i64 n, strT s, lv, .slice (some ⟨pb, po, none⟩) 1 ac]) (hn0 : 0 ≤ n) (hn1 : n ≤ 100000) (hpb : pb < B) (c0 : List Value) (r0 : w0.rangeAt pb (po + 5 * 0) c0) (l0 : c0.length = 5) (X0 : List UInt8) (h0 : Writes B w0 b nv ns 105 #[.pointer (some ⟨b, 0, none⟩), .agg c0.toArray, .int .i64 (d : Int)] X0) : Writes B w0 b nv ns 105 #[.pointer (some ⟨b, 0, none⟩), .agg cs.toArray, .int .i64 (d : Int)] ([91] ++ (Lib.itoa n ++ ([32, 111, 102, 32] ++ (s ++ ([32] ++ (X0 ++ [93])))))) := by
 intro bs w hb hw hnm hm
 have BE0 : Hid (Below B w0 w) := hb
 have WB := Lib.hid hw
 have NM := Lib.hid hnm
 have HM := Lib.hid hm
 have WW : Hid (WS B b w w) := WS.refl _ _ _
 have SW : Hid (B ≤ w.heap.size) := Nat.le_trans hw.ge (Nat.le_of_lt hw.lt)
 have C5 := Lib.hid h5
 clear hb hw hnm hm h5
 have HC := Lib.hid hc
 clear hc
 obtain ⟨X, hX⟩ : ∃ y, Hid (Lib.itoa n = y) := ⟨_, rfl⟩
 rw [hX.out] at HM ⊢
 go_enter Tryz.func105, Tryz.ntmps105
 go_upto_region 0 with (fail)
 refine lbeg (opsOf Tryz.f105 0) ?_
 obtain ⟨q1, hq1⟩ : ∃ y, Hid (w.heap.size = y) := ⟨_, rfl⟩
 refine lbox 0 25 (.tmp 1) (cs) q1 (some 4) hq1 ?_
 intro w2 b1 e1 s1
 rw [← hq1.out] at e1
 replace WB := Lib.hid (WB.out.below e1)
 replace NM := Lib.hid (NM.out.below e1)
 replace WW := Lib.hid (WW.out.trans (WS.of_below e1 SW.out))
 replace SW : Hid (B ≤ w2.heap.size) := Nat.le_trans SW.out e1.size
 have BX := Lib.hid b1
 clear b1 e1 s1 hq1
 refine ldn 1 ?_
 generalize hact : Act.put _ (some 4) _ = act
 simp only [Act.put, sA, sC, sZ] at hact
 subst hact
 go_upto_region 1 with (fail)
 refine lbeg (opsOf Tryz.f105 1) ?_
 refine lnow 0 (.pointer (some ⟨q1, 0, none⟩)) (some 6) ?_
 refine lcl 1 (.int .i64 9) (some 7) 3 6 q1 0 (BX.out.cell (by rw [HC.out]; rfl)) Tryz.underlying3 ?_
 refine ldn 2 ?_
 generalize hact : Act.put _ (some 7) _ = act
 simp only [Act.put, sA, sC, sZ] at hact
 subst hact
 go_upto_region 5 with (fail)
 refine lbeg (opsOf Tryz.f105 5) ?_
 refine lnow 0 (.bool false) (some 19) ?_
 refine lnow 1 (.bool false) (some 18) ?_
 refine ldn 2 ?_
 generalize hact : Act.put _ (some 18) _ = act
 simp only [Act.put, sA, sC, sZ] at hact
 subst hact
 go_upto_region 7 with (fail)
 refine lbeg (opsOf Tryz.f105 7) ?_
 refine lnow 0 (.bool false) (some 35) ?_
 refine lnow 1 (.bool false) (some 34) ?_
 refine ldn 2 ?_
 generalize hact : Act.put _ (some 34) _ = act
 simp only [Act.put, sA, sC, sZ] at hact
 subst hact
 go_upto_region 9 with (fail)
 refine lbeg (opsOf Tryz.f105 9) ?_
 refine lnow 0 (.bool false) (some 40) ?_
 refine lnow 1 (.bool false) (some 39) ?_
 refine ldn 2 ?_
 generalize hact : Act.put _ (some 39) _ = act
 simp only [Act.put, sA, sC, sZ] at hact
 subst hact
 go_upto_region 11 with (fail)
 refine lbeg (opsOf Tryz.f105 11) ?_
 refine lnow 0 (.bool false) (some 50) ?_
 refine lnow 1 (.bool false) (some 49) ?_
 refine ldn 2 ?_
 generalize hact : Act.put _ (some 49) _ = act
 simp only [Act.put, sA, sC, sZ] at hact
 subst hact
 go_upto_region 13 with (fail)
 refine lbeg (opsOf Tryz.f105 13) ?_
 refine lnow 0 (.bool true) (some 60) ?_
 refine lnow 1 (.bool true) (some 59) ?_
 refine ldn 2 ?_
 generalize hact : Act.put _ (some 59) _ = act
 simp only [Act.put, sA, sC, sZ] at hact
 subst hact
 go_upto_region 14 with (fail)
 refine region_begin (opsOf Tryz.f105 14) (fun w' => w'.cell? ⟨q1, 1, none⟩ = some (.int .i64 n) ∧ w'.cell? ⟨q1, 2, none⟩ = some (sT s)) (by kernel_rfl) (by kernel_rfl) 8 (by kernel_rfl) ?_
 intro Q' hQN hN
 have HB9 : Below w2.heap.size w2 (World.drew w2) := Below.drew (Below.refl _ _)
 generalize World.drew w2 = wd3 at HB9 ⊢
 replace WB := Lib.hid (WB.out.below HB9)
 replace NM := Lib.hid (NM.out.below HB9)
 replace WW := Lib.hid (WW.out.trans (WS.of_below HB9 SW.out))
 replace SW : Hid (B ≤ wd3.heap.size) := Nat.le_trans SW.out HB9.size
 replace BX := Lib.hid (BX.out.below HB9 BX.out.lt)
 clear HB9
 have HS : (fun w' => w'.cell? ⟨q1, 1, none⟩ = some (.int .i64 n) ∧ w'.cell? ⟨q1, 2, none⟩ = some (sT s)) wd3 := ⟨BX.out.cell (by rw [HC.out]; rfl), BX.out.cell (by rw [HC.out]; rfl)⟩
 refine reg_now 0 (.pointer (some ⟨b, 0, none⟩)) (some 61) hQN HS (by kernel_rfl) (by kernel_rfl) (fun w => by kernel_rfl) ?_
 refine reg_now 1 (.pointer (some ⟨q1, 1, none⟩)) (some 62) hQN HS (by kernel_rfl) (by kernel_rfl) (fun w => by kernel_rfl) ?_
 refine reg_nowIf 2 (.int .i64 n) (some 63) hQN HS (by kernel_rfl) (by kernel_rfl) (fun w' hw => exec_load_cell 3 (.tmp 62) (by kernel_rfl) q1 1 (by kernel_rfl) _ hw.1 _ Tryz.underlying3 rfl) ?_
 refine reg_now 4 (.pointer (some ⟨q1, 2, none⟩)) (some 65) hQN HS (by kernel_rfl) (by kernel_rfl) (fun w => by kernel_rfl) ?_
 refine reg_nowIf 5 (sT s) (some 66) hQN HS (by kernel_rfl) (by kernel_rfl) (fun w' hw => exec_load_cell 9 (.tmp 65) (by kernel_rfl) q1 2 (by kernel_rfl) _ hw.2 _ Tryz.underlying9 rfl) ?_
 refine reg_call 3 63 #[.int .i64 n] (some 64) _ (by kernel_rfl) (by kernel_rfl) (by kernel_rfl) (itoa_walk n hn0 hn1 wd3 (hT.below (by rw [hB]; exact BE0.out.trans WW.out.low))) ?_
 rintro e w4 ⟨rfl, hb⟩
 rw [hX.out]
 replace WB := Lib.hid (WB.out.below hb)
 replace NM := Lib.hid (NM.out.below hb)
 replace WW := Lib.hid (WW.out.trans (WS.of_below hb SW.out))
 replace SW : Hid (B ≤ w4.heap.size) := Nat.le_trans SW.out hb.size
 replace BX := Lib.hid (BX.out.below hb BX.out.lt)
 clear hb
 refine ⟨_, rfl, ⟨BX.out.cell (by rw [HC.out]; rfl), BX.out.cell (by rw [HC.out]; rfl)⟩, ?_⟩
 obtain ⟨q5, hq5⟩ : ∃ y, Hid (w4.heap.size = y) := ⟨_, rfl⟩
 refine reg_row 6 9 ([[91], X, [32, 111, 102, 32], s, [32]].map sT) q5 5 (some 67) (by kernel_rfl) (by kernel_rfl) hq5 (exec_of _ _ (by kernel_rfl) (run_bs5 ([91]) (X) ([32, 111, 102, 32]) (s) ([32]) _)) ?_
 intro w6 b1 e1 s1
 rw [← hq5.out] at e1
 replace WB := Lib.hid (WB.out.below e1)
 replace NM := Lib.hid (NM.out.below e1)
 replace WW := Lib.hid (WW.out.trans (WS.of_below e1 SW.out))
 replace SW : Hid (B ≤ w6.heap.size) := Nat.le_trans SW.out e1.size
 replace BX := Lib.hid (BX.out.below e1 BX.out.lt)
 have RW := Lib.hid b1
 clear b1 e1 s1 hq5
 refine ⟨⟨BX.out.cell (by rw [HC.out]; rfl), BX.out.cell (by rw [HC.out]; rfl)⟩, ?_⟩
 refine reg_call 7 35 #[.pointer (some ⟨b, 0, none⟩), .slice (some ⟨q5, 0, none⟩) 5 5] (some 68) _ (by kernel_rfl) (by kernel_rfl) (by kernel_rfl) (put_here (xs := [[91], X, [32, 111, 102, 32], s, [32]]) 5 ([91] ++ (X ++ ([32, 111, 102, 32] ++ (s ++ ([32]))))) WB.out RW.out rfl (by simp) (by omega) (by have := HM.out; (try simp only [List.length_append, List.length_cons, List.length_nil] at this ⊢); omega)) ?_
 rintro e w7 ⟨rfl, hw, hs⟩
 clear RW
 replace BX := Lib.hid (hs.blk BX.out (WB.out.ne BX.out (by decide)) (by decide))
 replace NM := Lib.hid (NM.out.ws WB.out hs)
 replace WB := Lib.hid hw
 replace WW := Lib.hid (WW.out.trans hs)
 replace SW : Hid (B ≤ w7.heap.size) := Nat.le_trans SW.out hs.low.size
 clear hw hs
 refine ⟨_, rfl, ⟨BX.out.cell (by rw [HC.out]; rfl), BX.out.cell (by rw [HC.out]; rfl)⟩, ?_⟩
 refine reg_done (by kernel_rfl) (hN _ _ ?_)
 generalize hact : Act.put _ (some 68) _ = act
 simp only [Act.put, sA, sC, sZ] at hact
 subst hact
 go_upto_region 15 with (fail)
 refine lbeg (opsOf Tryz.f105 15) ?_
 refine lnow 0 (.pointer (some ⟨b, 0, none⟩)) (some 69) ?_
 refine lnow 1 (.pointer (some ⟨q1, 4, none⟩)) (some 70) ?_
 refine lcl 2 (.slice (some ⟨pb, po, none⟩) 1 ac) (some 71) 23 70 q1 4 (BX.out.cell (by rw [HC.out]; rfl)) Tryz.underlying23 ?_
 refine lnowP 3 (.pointer (some ⟨pb, po + 5 * 0, none⟩)) (some 72) (exec_indexAt 23 (.tmp 71) (.const (.int .i64 0)) (by kernel_rfl) _ _ _ (by kernel_rfl) (by kernel_rfl) (run_at_tm pb po 1 ac 0 (by omega) _)) ?_
 refine lrl 4 c0 (some 73) 25 72 pb (po + 5 * 0) (rng_low r0 (BE0.out.trans WW.out.low) hpb) Tryz.underlying25 (t5Size l0) ?_
 refine lnow 5 (.int .i64 (d : Int)) (some 74) ?_
 refine lcal 6 105 #[.pointer (some ⟨b, 0, none⟩), .agg c0.toArray, .int .i64 (d : Int)] (some 75) _ (h0 _ w7 (BE0.out.trans WW.out.low) WB.out NM.out (by have := HM.out; (try simp only [List.length_append, List.length_cons, List.length_nil] at this ⊢); omega)) ?_
 rintro e w8 ⟨rfl, hw, hs⟩
 refine ⟨_, rfl, ?_⟩
 replace BX := Lib.hid (hs.blk BX.out (WB.out.ne BX.out (by decide)) (by decide))
 replace NM := Lib.hid (NM.out.ws WB.out hs)
 replace WB := Lib.hid hw
 replace WW := Lib.hid (WW.out.trans hs)
 replace SW : Hid (B ≤ w8.heap.size) := Nat.le_trans SW.out hs.low.size
 clear hw hs
 refine ldn 7 ?_
 generalize hact : Act.put _ (some 75) _ = act
 simp only [Act.put, sA, sC, sZ] at hact
 subst hact
 go_upto_region 16 with (fail)
 refine lbeg (opsOf Tryz.f105 16) ?_
 refine lnow 0 (.pointer (some ⟨b, 0, none⟩)) (some 76) ?_
 obtain ⟨q9, hq9⟩ : ∃ y, Hid (w8.heap.size = y) := ⟨_, rfl⟩
 refine lin_row 1 9 ([[93]].map sT) q9 1 (some 77) (by kernel_rfl) (by kernel_rfl) hq9 (exec_of _ _ (by kernel_rfl) (run_bs1 ([93]) _)) ?_
 intro w10 b1 e1 s1
 rw [← hq9.out] at e1
 replace WB := Lib.hid (WB.out.below e1)
 replace NM := Lib.hid (NM.out.below e1)
 replace WW := Lib.hid (WW.out.trans (WS.of_below e1 SW.out))
 replace SW : Hid (B ≤ w10.heap.size) := Nat.le_trans SW.out e1.size
 replace BX := Lib.hid (BX.out.below e1 BX.out.lt)
 have RW := Lib.hid b1
 clear b1 e1 s1 hq9
 refine lcal 2 35 #[.pointer (some ⟨b, 0, none⟩), .slice (some ⟨q9, 0, none⟩) 1 1] (some 78) _ (put_here (xs := [[93]]) 1 ([93]) WB.out RW.out rfl (by simp) (by omega) (by have := HM.out; (try simp only [List.length_append, List.length_cons, List.length_nil] at this ⊢); omega)) ?_
 rintro e w11 ⟨rfl, hw, hs⟩
 refine ⟨_, rfl, ?_⟩
 clear RW
 replace BX := Lib.hid (hs.blk BX.out (WB.out.ne BX.out (by decide)) (by decide))
 replace NM := Lib.hid (NM.out.ws WB.out hs)
 replace WB := Lib.hid hw
 replace WW := Lib.hid (WW.out.trans hs)
 replace SW : Hid (B ≤ w11.heap.size) := Nat.le_trans SW.out hs.low.size
 clear hw hs
 refine ldn 3 ?_
 generalize hact : Act.put _ (some 78) _ = act
 simp only [Act.put, sA, sC, sZ] at hact
 subst hact
 have FIN : Hid (Wb B b (nv) (bs ++ ([91] ++ (X ++ ([32, 111, 102, 32] ++ (s ++ ([32] ++ (X0 ++ [93]))))))) w11 ∧ WS B b w w11) := ⟨by have := WB.out; (try simp only [List.append_assoc] at this ⊢); exact this, WW.out⟩
 clear WB
 go_wp2
 go_end0
 exact ⟨rfl, FIN.out⟩
end Go.Proofs.YtmceocgddaaohaaGreatDoor
