/- Package show: terms as a writer writes them. -/
import Derived.Test.YtmceocgddaaohaaGreatDoorQGenT
import Derived.Test.YtmceocgddaaohaaGreatDoorQShwB
import Derived.Test.YtmceocgddaaohaaGreatDoorQTrmR
namespace Go.Proofs.YtmceocgddaaohaaGreatDoor
open Go Go.RowKit
set_option maxRecDepth 100000
/-- So many bytes at most. -/
def MB : Nat := 100000000000
def wdX (k : Int) : List UInt8 := if k = 6 then [102, 117, 110] else [97, 108, 108]
def atX (k : Int) (x : List UInt8) : List UInt8 := if k = 5 ∨ k = 6 ∨ k = 7 ∨ k = 8 then [40] ++ (x ++ [41]) else x
def apX (k : Int) (x : List UInt8) : List UInt8 := if k = 6 ∨ k = 7 ∨ k = 8 then [40] ++ (x ++ [41]) else x
abbrev Px := List (Int × List UInt8)
def px (ps : Px) (i : Nat) : List UInt8 := (ps.getD i (0, [])).2
def pk (ps : Px) (i : Nat) : Int := (ps.getD i (0, [])).1
/-- A node's text out of its parts' (kind and text of each). -/
def ndX (ns : List (List UInt8)) (d : Nat) (k n : Int) (s : List UInt8) (l : List Lv) (ps : Px) : List UInt8 :=
 if k = 1 then ns.getD (d - 1 - n.toNat) []
 else if k = 2 then [80, 114, 111, 112]
 else if k = 3 then [84, 121, 112, 101, 32] ++ tlT (l.headD zeroL)
 else if k = 4 then s ++ lvsT l
 else if k = 5 then apX (pk ps 0) (px ps 0) ++ ([32] ++ atX (pk ps 1) (px ps 1))
 else if k = 8 then [108, 101, 116, 32] ++ (ns.getD d [] ++ ([32, 58, 32] ++ (px ps 0 ++ ([32, 58, 61, 32] ++ (px ps 1 ++ ([32, 105, 110, 32] ++ px ps 2))))))
 else if k = 9 then [91] ++ (Lib.itoa n ++ ([32, 111, 102, 32] ++ (s ++ ([32] ++ (atX (pk ps 0) (px ps 0) ++ [93])))))
 else wdX k ++ ([32, 40] ++ (ns.getD d [] ++ ([32, 58, 32] ++ (px ps 0 ++ ([41, 44, 32] ++ px ps 1)))))
mutual
/-- A term's text with d binders around it; ns: the binders' names. -/
def txT (ns : List (List UInt8)) (d : Nat) : Tm → List UInt8
 | .mk k n s l a => ndX ns d k n s l (txP ns d k 0 a)
def txP (ns : List (List UInt8)) (d : Nat) (k : Int) (i : Nat) : List Tm → Px
 | [] => []
 | t :: ts => (t.kind, txT ns (d + (moreT k i).toNat) t) :: txP ns d k (i + 1) ts
end
/-- The names of a writer in memory. -/
def NmR (w : World) (nv : Value) (ns : List (List UInt8)) : Prop := ∃ g c cur, nv = .slice (some ⟨g, 0, none⟩) ns.length c ∧ w.heap[g]? = some (.cells cur 9 (0, 0)) ∧ cur.toList.take ns.length = ns.map sT
theorem NmR.below {w w' : World} {nv : Value} {ns : List (List UInt8)} (h : NmR w nv ns) (hb : Below w.heap.size w w') : NmR w' nv ns := by
 obtain ⟨g, c, cur, h1, h2, h3⟩ := h
 exact ⟨g, c, cur, h1, by rw [hb.block g (Array.getElem?_eq_some_iff.1 h2).1]; exact h2, h3⟩
theorem NmR.ws {B b : Nat} {w w' : World} {nv nv' : Value} {bs : List UInt8} {ns : List (List UInt8)} (h : NmR w nv ns) (hw : Wb B b nv' bs w) (hs : WS B b w w') : NmR w' nv ns := by
 obtain ⟨g, c, cur, h1, h2, h3⟩ := h
 refine ⟨g, c, cur, h1, hs.same g _ h2 (fun e => ?_) (fun c fz e => absurd (Obj.cells.inj e).2.1 (by decide)), h3⟩
 obtain ⟨p, v, hb, -⟩ := hw
 obtain rfl := Option.some.inj e
 exact absurd (Obj.cells.inj (Option.some.inj (h2.symm.trans hb))).2.1 (by decide)
theorem NmR.slice {w : World} {nv : Value} {ns : List (List UInt8)} (h : NmR w nv ns) : ∃ g c, nv = .slice (some ⟨g, 0, none⟩) ns.length c := by
 obtain ⟨g, c, cur, h1, -⟩ := h
 exact ⟨g, c, h1⟩
theorem NmR.get {w : World} {g n c i : Nat} {ns : List (List UInt8)} (h : NmR w (.slice (some ⟨g, 0, none⟩) n c) ns) (hi : i < ns.length) : w.cell? ⟨g, 0 + i, none⟩ = some (sT (ns.getD i [])) := by
 obtain ⟨g', c', cur, h1, h2, h3⟩ := h
 obtain ⟨e1, -, -⟩ := Value.slice.inj h1
 obtain ⟨rfl, -, -⟩ := Addr.mk.inj (Option.some.inj e1)
 refine cell?_cells h2 ?_
 have h4 : (cur.toList.take ns.length)[i]? = some (sT (ns.getD i [])) := by
  rw [h3, List.getElem?_map, List.getD_eq_getElem?_getD, List.getElem?_eq_getElem hi]
  rfl
 rw [List.getElem?_take, if_pos hi] at h4
 rw [Nat.zero_add]
 simpa using h4
theorem Wb.nv {B b : Nat} {nv : Value} {bs : List UInt8} {w : World} (h : Wb B b nv bs w) : w.cell? ⟨b, 2, none⟩ = some nv := by
 obtain ⟨p, v, hb, -⟩ := h
 exact hb.cell rfl
theorem Wb.ne {B b k : Nat} {nv : Value} {bs : List UInt8} {w : World} {t : TypeId} {cs : List Value} (h : Wb B b nv bs w) (hk : Blk w k t cs) (ht : t ≠ 69) : k ≠ b := fun e => by
 subst e
 obtain ⟨p, v, hb, -⟩ := h
 exact absurd (Obj.cells.inj (Option.some.inj (hk.symm.trans hb))).2.1 ht
/-- A call that writes X, made in any world in which the writer stands. -/
def Writes (B : Nat) (w0 : World) (b : Nat) (nv : Value) (ns : List (List UInt8)) (f : FuncId) (args : Array Value) (X : List UInt8) : Prop :=
 ∀ (bs : List UInt8) (w : World), Below B w0 w → Wb B b nv bs w → NmR w nv ns → bs.length + X.length ≤ MB → Calls Tryz.prog f args w fun e w' => e = .returned (.tuple #[]) ∧ Wb B b nv (bs ++ X) w' ∧ WS B b w w'
theorem run_bs1 (a : List UInt8) (w : World) : (Instr.buildSlice 62 1 #[(0, sT a)]).run Tryz.prog w = .ok (.slice (some ⟨w.heap.size, 0, none⟩) 1 1) (w.alloc (.cells ([a].map sT).toArray 9)) := by kernel_rfl
theorem run_bs2 (a b : List UInt8) (w : World) : (Instr.buildSlice 62 2 #[(0, sT a), (1, sT b)]).run Tryz.prog w = .ok (.slice (some ⟨w.heap.size, 0, none⟩) 2 2) (w.alloc (.cells ([a, b].map sT).toArray 9)) := by kernel_rfl
theorem run_bs3 (a b c : List UInt8) (w : World) : (Instr.buildSlice 62 3 #[(0, sT a), (1, sT b), (2, sT c)]).run Tryz.prog w = .ok (.slice (some ⟨w.heap.size, 0, none⟩) 3 3) (w.alloc (.cells ([a, b, c].map sT).toArray 9)) := by kernel_rfl
theorem run_bs4 (a b c d : List UInt8) (w : World) : (Instr.buildSlice 62 4 #[(0, sT a), (1, sT b), (2, sT c), (3, sT d)]).run Tryz.prog w = .ok (.slice (some ⟨w.heap.size, 0, none⟩) 4 4) (w.alloc (.cells ([a, b, c, d].map sT).toArray 9)) := by kernel_rfl
theorem run_bs5 (a b c d e : List UInt8) (w : World) : (Instr.buildSlice 62 5 #[(0, sT a), (1, sT b), (2, sT c), (3, sT d), (4, sT e)]).run Tryz.prog w = .ok (.slice (some ⟨w.heap.size, 0, none⟩) 5 5) (w.alloc (.cells ([a, b, c, d, e].map sT).toArray 9)) := by kernel_rfl
theorem put_here {B b g : Nat} {nv : Value} {bs : List UInt8} {xs : List (List UInt8)} {w : World} (n : Nat) (X : List UInt8) (h : Wb B b nv bs w) (hg : Blk w g 9 (xs.map sT)) (hn : xs.length = n) (hX : xs.flatten = X) (hx : n ≤ 1000) (hm : bs.length + X.length ≤ MB) : Calls Tryz.prog 35 #[.pointer (some ⟨b, 0, none⟩), .slice (some ⟨g, 0, none⟩) n n] w fun e w' => e = .returned (.tuple #[]) ∧ Wb B b nv (bs ++ X) w' ∧ WS B b w w' := by
 subst hn
 subst hX
 exact put_walkW B b g nv bs xs w h hg hx hm
set_option maxHeartbeats 4000000 in
theorem term_app (B : Nat) (w0 : World) (b d : Nat) (nv : Value) (ns : List (List UInt8)) (cs : List Value) (k : Int) (r : List Value) (h5 : cs.length = 5) (hc : cs = .int .i64 k :: r) (X : List UInt8) (hk : ¬ k = 6 ∧ ¬ k = 7 ∧ ¬ k = 8) (hA : Writes B w0 b nv ns 82 #[.pointer (some ⟨b, 0, none⟩), .agg cs.toArray, .int .i64 (d : Int)] X) : Writes B w0 b nv ns 48 #[.pointer (some ⟨b, 0, none⟩), .agg cs.toArray, .int .i64 (d : Int)] X := by
 intro bs w hb hw hnm hm
 have BE0 : Hid (Below B w0 w) := hb
 have WB := Lib.hid hw
 have NM := Lib.hid hnm
 have HM := Lib.hid hm
 have WW : Hid (WS B b w w) := WS.refl _ _ _
 have SW : Hid (B ≤ w.heap.size) := Nat.le_trans hw.ge (Nat.le_of_lt hw.lt)
 have C5 := Lib.hid h5
 clear hb hw hnm hm h5
 have HC := Lib.hid hc
 clear hc
 go_enter Tryz.func48, Tryz.ntmps48
 go_upto_region 0 with (fail)
 refine lbeg (opsOf Tryz.f48 0) ?_
 obtain ⟨q1, hq1⟩ : ∃ y, Hid (w.heap.size = y) := ⟨_, rfl⟩
 refine lbox 0 25 (.tmp 1) (cs) q1 (some 4) hq1 ?_
 intro w2 b1 e1 s1
 rw [← hq1.out] at e1
 replace WB := Lib.hid (WB.out.below e1)
 replace NM := Lib.hid (NM.out.below e1)
 replace WW := Lib.hid (WW.out.trans (WS.of_below e1 SW.out))
 replace SW : Hid (B ≤ w2.heap.size) := Nat.le_trans SW.out e1.size
 have BX := Lib.hid b1
 clear b1 e1 s1 hq1
 refine ldn 1 ?_
 generalize hact : Act.put _ (some 4) _ = act
 simp only [Act.put, sA, sC, sZ] at hact
 subst hact
 go_upto_region 1 with (fail)
 refine lbeg (opsOf Tryz.f48 1) ?_
 refine lnow 0 (.pointer (some ⟨q1, 0, none⟩)) (some 6) ?_
 refine lcl 1 (.int .i64 k) (some 7) 3 6 q1 0 (BX.out.cell (by rw [HC.out]; rfl)) Tryz.underlying3 ?_
 refine ldn 2 ?_
 generalize hact : Act.put _ (some 7) _ = act
 simp only [Act.put, sA, sC, sZ] at hact
 subst hact
 go_upto_region 3 with (fail)
 refine lbeg (opsOf Tryz.f48 3) ?_
 refine lnow 0 (.bool (decide (k = 6))) (some 13) ?_
 rw [decide_eq_false hk.1]
 refine lnow 1 (.bool false) (some 12) ?_
 refine ldn 2 ?_
 generalize hact : Act.put _ (some 12) _ = act
 simp only [Act.put, sA, sC, sZ] at hact
 subst hact
 go_upto_region 5 with (fail)
 refine lbeg (opsOf Tryz.f48 5) ?_
 refine lnow 0 (.bool (decide (k = 7))) (some 19) ?_
 rw [decide_eq_false hk.2.1]
 refine lnow 1 (.bool false) (some 18) ?_
 refine ldn 2 ?_
 generalize hact : Act.put _ (some 18) _ = act
 simp only [Act.put, sA, sC, sZ] at hact
 subst hact
 go_upto_region 7 with (fail)
 refine lbeg (opsOf Tryz.f48 7) ?_
 refine lnow 0 (.bool (decide (k = 8))) (some 25) ?_
 rw [decide_eq_false hk.2.2]
 refine lnow 1 (.bool false) (some 24) ?_
 refine ldn 2 ?_
 generalize hact : Act.put _ (some 24) _ = act
 simp only [Act.put, sA, sC, sZ] at hact
 subst hact
 go_upto_region 2 with (fail)
 refine lbeg (opsOf Tryz.f48 2) ?_
 refine lnow 0 (.pointer (some ⟨b, 0, none⟩)) (some 8) ?_
 refine lrl 1 (cs) (some 9) 25 4 q1 0 BX.out.whole Tryz.underlying25 (t5Size C5.out) ?_
 refine lnow 2 (.int .i64 (d : Int)) (some 10) ?_
 refine lcal 3 82 #[.pointer (some ⟨b, 0, none⟩), .agg cs.toArray, .int .i64 (d : Int)] (some 11) _ (hA _ w2 (BE0.out.trans WW.out.low) WB.out NM.out (by have := HM.out; (try simp only [List.length_append, List.length_cons, List.length_nil] at this ⊢); omega)) ?_
 rintro e w3 ⟨rfl, hw, hs⟩
 refine ⟨_, rfl, ?_⟩
 replace BX := Lib.hid (hs.blk BX.out (WB.out.ne BX.out (by decide)) (by decide))
 replace NM := Lib.hid (NM.out.ws WB.out hs)
 replace WB := Lib.hid hw
 replace WW := Lib.hid (WW.out.trans hs)
 replace SW : Hid (B ≤ w3.heap.size) := Nat.le_trans SW.out hs.low.size
 clear hw hs
 refine ldn 4 ?_
 generalize hact : Act.put _ (some 11) _ = act
 simp only [Act.put, sA, sC, sZ] at hact
 subst hact
 have FIN : Hid (Wb B b (nv) (bs ++ (X)) w3 ∧ WS B b w w3) := ⟨by have := WB.out; (try simp only [List.append_assoc] at this ⊢); exact this, WW.out⟩
 clear WB
 go_wp2
 go_end0
 exact ⟨rfl, FIN.out⟩
set_option maxHeartbeats 4000000 in
theorem term_bind6 (B : Nat) (w0 : World) (b d : Nat) (nv : Value) (ns : List (List UInt8)) (cs : List Value) (k : Int) (r : List Value) (h5 : cs.length = 5) (hc : cs = .int .i64 k :: r) (X : List UInt8) (hk : k = 6) (hA : Writes B w0 b nv ns 80 #[.pointer (some ⟨b, 0, none⟩), sT [102, 117, 110], .agg cs.toArray, .int .i64 (d : Int)] X) : Writes B w0 b nv ns 48 #[.pointer (some ⟨b, 0, none⟩), .agg cs.toArray, .int .i64 (d : Int)] X := by
 intro bs w hb hw hnm hm
 have BE0 : Hid (Below B w0 w) := hb
 have WB := Lib.hid hw
 have NM := Lib.hid hnm
 have HM := Lib.hid hm
 have WW : Hid (WS B b w w) := WS.refl _ _ _
 have SW : Hid (B ≤ w.heap.size) := Nat.le_trans hw.ge (Nat.le_of_lt hw.lt)
 have C5 := Lib.hid h5
 clear hb hw hnm hm h5
 have HC := Lib.hid hc
 clear hc
 subst hk
 go_enter Tryz.func48, Tryz.ntmps48
 go_upto_region 0 with (fail)
 refine lbeg (opsOf Tryz.f48 0) ?_
 obtain ⟨q1, hq1⟩ : ∃ y, Hid (w.heap.size = y) := ⟨_, rfl⟩
 refine lbox 0 25 (.tmp 1) (cs) q1 (some 4) hq1 ?_
 intro w2 b1 e1 s1
 rw [← hq1.out] at e1
 replace WB := Lib.hid (WB.out.below e1)
 replace NM := Lib.hid (NM.out.below e1)
 replace WW := Lib.hid (WW.out.trans (WS.of_below e1 SW.out))
 replace SW : Hid (B ≤ w2.heap.size) := Nat.le_trans SW.out e1.size
 have BX := Lib.hid b1
 clear b1 e1 s1 hq1
 refine ldn 1 ?_
 generalize hact : Act.put _ (some 4) _ = act
 simp only [Act.put, sA, sC, sZ] at hact
 subst hact
 go_upto_region 1 with (fail)
 refine lbeg (opsOf Tryz.f48 1) ?_
 refine lnow 0 (.pointer (some ⟨q1, 0, none⟩)) (some 6) ?_
 refine lcl 1 (.int .i64 6) (some 7) 3 6 q1 0 (BX.out.cell (by rw [HC.out]; rfl)) Tryz.underlying3 ?_
 refine ldn 2 ?_
 generalize hact : Act.put _ (some 7) _ = act
 simp only [Act.put, sA, sC, sZ] at hact
 subst hact
 go_upto_region 3 with (fail)
 refine lbeg (opsOf Tryz.f48 3) ?_
 refine lnow 0 (.bool true) (some 13) ?_
 refine lnow 1 (.bool true) (some 12) ?_
 refine ldn 2 ?_
 generalize hact : Act.put _ (some 12) _ = act
 simp only [Act.put, sA, sC, sZ] at hact
 subst hact
 go_upto_region 4 with (fail)
 refine lbeg (opsOf Tryz.f48 4) ?_
 refine lnow 0 (.pointer (some ⟨b, 0, none⟩)) (some 14) ?_
 refine lrl 1 (cs) (some 15) 25 4 q1 0 BX.out.whole Tryz.underlying25 (t5Size C5.out) ?_
 refine lnow 2 (.int .i64 (d : Int)) (some 16) ?_
 refine lcal 3 80 #[.pointer (some ⟨b, 0, none⟩), sT [102, 117, 110], .agg cs.toArray, .int .i64 (d : Int)] (some 17) _ (hA _ w2 (BE0.out.trans WW.out.low) WB.out NM.out (by have := HM.out; (try simp only [List.length_append, List.length_cons, List.length_nil] at this ⊢); omega)) ?_
 rintro e w3 ⟨rfl, hw, hs⟩
 refine ⟨_, rfl, ?_⟩
 replace BX := Lib.hid (hs.blk BX.out (WB.out.ne BX.out (by decide)) (by decide))
 replace NM := Lib.hid (NM.out.ws WB.out hs)
 replace WB := Lib.hid hw
 replace WW := Lib.hid (WW.out.trans hs)
 replace SW : Hid (B ≤ w3.heap.size) := Nat.le_trans SW.out hs.low.size
 clear hw hs
 refine ldn 4 ?_
 generalize hact : Act.put _ (some 17) _ = act
 simp only [Act.put, sA, sC, sZ] at hact
 subst hact
 have FIN : Hid (Wb B b (nv) (bs ++ (X)) w3 ∧ WS B b w w3) := ⟨by have := WB.out; (try simp only [List.append_assoc] at this ⊢); exact this, WW.out⟩
 clear WB
 go_wp2
 go_end0
 exact ⟨rfl, FIN.out⟩
set_option maxHeartbeats 4000000 in
theorem term_bind7 (B : Nat) (w0 : World) (b d : Nat) (nv : Value) (ns : List (List UInt8)) (cs : List Value) (k : Int) (r : List Value) (h5 : cs.length = 5) (hc : cs = .int .i64 k :: r) (X : List UInt8) (hk : k = 7) (hA : Writes B w0 b nv ns 80 #[.pointer (some ⟨b, 0, none⟩), sT [97, 108, 108], .agg cs.toArray, .int .i64 (d : Int)] X) : Writes B w0 b nv ns 48 #[.pointer (some ⟨b, 0, none⟩), .agg cs.toArray, .int .i64 (d : Int)] X := by
 intro bs w hb hw hnm hm
 have BE0 : Hid (Below B w0 w) := hb
 have WB := Lib.hid hw
 have NM := Lib.hid hnm
 have HM := Lib.hid hm
 have WW : Hid (WS B b w w) := WS.refl _ _ _
 have SW : Hid (B ≤ w.heap.size) := Nat.le_trans hw.ge (Nat.le_of_lt hw.lt)
 have C5 := Lib.hid h5
 clear hb hw hnm hm h5
 have HC := Lib.hid hc
 clear hc
 subst hk
 go_enter Tryz.func48, Tryz.ntmps48
 go_upto_region 0 with (fail)
 refine lbeg (opsOf Tryz.f48 0) ?_
 obtain ⟨q1, hq1⟩ : ∃ y, Hid (w.heap.size = y) := ⟨_, rfl⟩
 refine lbox 0 25 (.tmp 1) (cs) q1 (some 4) hq1 ?_
 intro w2 b1 e1 s1
 rw [← hq1.out] at e1
 replace WB := Lib.hid (WB.out.below e1)
 replace NM := Lib.hid (NM.out.below e1)
 replace WW := Lib.hid (WW.out.trans (WS.of_below e1 SW.out))
 replace SW : Hid (B ≤ w2.heap.size) := Nat.le_trans SW.out e1.size
 have BX := Lib.hid b1
 clear b1 e1 s1 hq1
 refine ldn 1 ?_
 generalize hact : Act.put _ (some 4) _ = act
 simp only [Act.put, sA, sC, sZ] at hact
 subst hact
 go_upto_region 1 with (fail)
 refine lbeg (opsOf Tryz.f48 1) ?_
 refine lnow 0 (.pointer (some ⟨q1, 0, none⟩)) (some 6) ?_
 refine lcl 1 (.int .i64 7) (some 7) 3 6 q1 0 (BX.out.cell (by rw [HC.out]; rfl)) Tryz.underlying3 ?_
 refine ldn 2 ?_
 generalize hact : Act.put _ (some 7) _ = act
 simp only [Act.put, sA, sC, sZ] at hact
 subst hact
 go_upto_region 3 with (fail)
 refine lbeg (opsOf Tryz.f48 3) ?_
 refine lnow 0 (.bool false) (some 13) ?_
 refine lnow 1 (.bool false) (some 12) ?_
 refine ldn 2 ?_
 generalize hact : Act.put _ (some 12) _ = act
 simp only [Act.put, sA, sC, sZ] at hact
 subst hact
 go_upto_region 5 with (fail)
 refine lbeg (opsOf Tryz.f48 5) ?_
 refine lnow 0 (.bool true) (some 19) ?_
 refine lnow 1 (.bool true) (some 18) ?_
 refine ldn 2 ?_
 generalize hact : Act.put _ (some 18) _ = act
 simp only [Act.put, sA, sC, sZ] at hact
 subst hact
 go_upto_region 6 with (fail)
 refine lbeg (opsOf Tryz.f48 6) ?_
 refine lnow 0 (.pointer (some ⟨b, 0, none⟩)) (some 20) ?_
 refine lrl 1 (cs) (some 21) 25 4 q1 0 BX.out.whole Tryz.underlying25 (t5Size C5.out) ?_
 refine lnow 2 (.int .i64 (d : Int)) (some 22) ?_
 refine lcal 3 80 #[.pointer (some ⟨b, 0, none⟩), sT [97, 108, 108], .agg cs.toArray, .int .i64 (d : Int)] (some 23) _ (hA _ w2 (BE0.out.trans WW.out.low) WB.out NM.out (by have := HM.out; (try simp only [List.length_append, List.length_cons, List.length_nil] at this ⊢); omega)) ?_
 rintro e w3 ⟨rfl, hw, hs⟩
 refine ⟨_, rfl, ?_⟩
 replace BX := Lib.hid (hs.blk BX.out (WB.out.ne BX.out (by decide)) (by decide))
 replace NM := Lib.hid (NM.out.ws WB.out hs)
 replace WB := Lib.hid hw
 replace WW := Lib.hid (WW.out.trans hs)
 replace SW : Hid (B ≤ w3.heap.size) := Nat.le_trans SW.out hs.low.size
 clear hw hs
 refine ldn 4 ?_
 generalize hact : Act.put _ (some 23) _ = act
 simp only [Act.put, sA, sC, sZ] at hact
 subst hact
 have FIN : Hid (Wb B b (nv) (bs ++ (X)) w3 ∧ WS B b w w3) := ⟨by have := WB.out; (try simp only [List.append_assoc] at this ⊢); exact this, WW.out⟩
 clear WB
 go_wp2
 go_end0
 exact ⟨rfl, FIN.out⟩
set_option maxHeartbeats 4000000 in
theorem term_let (B : Nat) (w0 : World) (b d : Nat) (nv : Value) (ns : List (List UInt8)) (cs : List Value) (k : Int) (r : List Value) (h5 : cs.length = 5) (hc : cs = .int .i64 k :: r) (X : List UInt8) (hk : k = 8) (hA : Writes B w0 b nv ns 81 #[.pointer (some ⟨b, 0, none⟩), .agg cs.toArray, .int .i64 (d : Int)] X) : Writes B w0 b nv ns 48 #[.pointer (some ⟨b, 0, none⟩), .agg cs.toArray, .int .i64 (d : Int)] X := by
 intro bs w hb hw hnm hm
 have BE0 : Hid (Below B w0 w) := hb
 have WB := Lib.hid hw
 have NM := Lib.hid hnm
 have HM := Lib.hid hm
 have WW : Hid (WS B b w w) := WS.refl _ _ _
 have SW : Hid (B ≤ w.heap.size) := Nat.le_trans hw.ge (Nat.le_of_lt hw.lt)
 have C5 := Lib.hid h5
 clear hb hw hnm hm h5
 have HC := Lib.hid hc
 clear hc
 subst hk
 go_enter Tryz.func48, Tryz.ntmps48
 go_upto_region 0 with (fail)
 refine lbeg (opsOf Tryz.f48 0) ?_
 obtain ⟨q1, hq1⟩ : ∃ y, Hid (w.heap.size = y) := ⟨_, rfl⟩
 refine lbox 0 25 (.tmp 1) (cs) q1 (some 4) hq1 ?_
 intro w2 b1 e1 s1
 rw [← hq1.out] at e1
 replace WB := Lib.hid (WB.out.below e1)
 replace NM := Lib.hid (NM.out.below e1)
 replace WW := Lib.hid (WW.out.trans (WS.of_below e1 SW.out))
 replace SW : Hid (B ≤ w2.heap.size) := Nat.le_trans SW.out e1.size
 have BX := Lib.hid b1
 clear b1 e1 s1 hq1
 refine ldn 1 ?_
 generalize hact : Act.put _ (some 4) _ = act
 simp only [Act.put, sA, sC, sZ] at hact
 subst hact
 go_upto_region 1 with (fail)
 refine lbeg (opsOf Tryz.f48 1) ?_
 refine lnow 0 (.pointer (some ⟨q1, 0, none⟩)) (some 6) ?_
 refine lcl 1 (.int .i64 8) (some 7) 3 6 q1 0 (BX.out.cell (by rw [HC.out]; rfl)) Tryz.underlying3 ?_
 refine ldn 2 ?_
 generalize hact : Act.put _ (some 7) _ = act
 simp only [Act.put, sA, sC, sZ] at hact
 subst hact
 go_upto_region 3 with (fail)
 refine lbeg (opsOf Tryz.f48 3) ?_
 refine lnow 0 (.bool false) (some 13) ?_
 refine lnow 1 (.bool false) (some 12) ?_
 refine ldn 2 ?_
 generalize hact : Act.put _ (some 12) _ = act
 simp only [Act.put, sA, sC, sZ] at hact
 subst hact
 go_upto_region 5 with (fail)
 refine lbeg (opsOf Tryz.f48 5) ?_
 refine lnow 0 (.bool false) (some 19) ?_
 refine lnow 1 (.bool false) (some 18) ?_
 refine ldn 2 ?_
 generalize hact : Act.put _ (some 18) _ = act
 simp only [Act.put, sA, sC, sZ] at hact
 subst hact
 go_upto_region 7 with (fail)
 refine lbeg (opsOf Tryz.f48 7) ?_
 refine lnow 0 (.bool true) (some 25) ?_
 refine lnow 1 (.bool true) (some 24) ?_
 refine ldn 2 ?_
 generalize hact : Act.put _ (some 24) _ = act
 simp only [Act.put, sA, sC, sZ] at hact
 subst hact
 go_upto_region 8 with (fail)
 refine lbeg (opsOf Tryz.f48 8) ?_
 refine lnow 0 (.pointer (some ⟨b, 0, none⟩)) (some 26) ?_
 refine lrl 1 (cs) (some 27) 25 4 q1 0 BX.out.whole Tryz.underlying25 (t5Size C5.out) ?_
 refine lnow 2 (.int .i64 (d : Int)) (some 28) ?_
 refine lcal 3 81 #[.pointer (some ⟨b, 0, none⟩), .agg cs.toArray, .int .i64 (d : Int)] (some 29) _ (hA _ w2 (BE0.out.trans WW.out.low) WB.out NM.out (by have := HM.out; (try simp only [List.length_append, List.length_cons, List.length_nil] at this ⊢); omega)) ?_
 rintro e w3 ⟨rfl, hw, hs⟩
 refine ⟨_, rfl, ?_⟩
 replace BX := Lib.hid (hs.blk BX.out (WB.out.ne BX.out (by decide)) (by decide))
 replace NM := Lib.hid (NM.out.ws WB.out hs)
 replace WB := Lib.hid hw
 replace WW := Lib.hid (WW.out.trans hs)
 replace SW : Hid (B ≤ w3.heap.size) := Nat.le_trans SW.out hs.low.size
 clear hw hs
 refine ldn 4 ?_
 generalize hact : Act.put _ (some 29) _ = act
 simp only [Act.put, sA, sC, sZ] at hact
 subst hact
 have FIN : Hid (Wb B b (nv) (bs ++ (X)) w3 ∧ WS B b w w3) := ⟨by have := WB.out; (try simp only [List.append_assoc] at this ⊢); exact this, WW.out⟩
 clear WB
 go_wp2
 go_end0
 exact ⟨rfl, FIN.out⟩
set_option maxHeartbeats 4000000 in
theorem app_atom (B : Nat) (w0 : World) (b d : Nat) (nv : Value) (ns : List (List UInt8)) (cs : List Value) (k : Int) (r : List Value) (h5 : cs.length = 5) (hc : cs = .int .i64 k :: r) (X : List UInt8) (hk : ¬ k = 5) (hA : Writes B w0 b nv ns 105 #[.pointer (some ⟨b, 0, none⟩), .agg cs.toArray, .int .i64 (d : Int)] X) : Writes B w0 b nv ns 82 #[.pointer (some ⟨b, 0, none⟩), .agg cs.toArray, .int .i64 (d : Int)] X := by
 intro bs w hb hw hnm hm
 have BE0 : Hid (Below B w0 w) := hb
 have WB := Lib.hid hw
 have NM := Lib.hid hnm
 have HM := Lib.hid hm
 have WW : Hid (WS B b w w) := WS.refl _ _ _
 have SW : Hid (B ≤ w.heap.size) := Nat.le_trans hw.ge (Nat.le_of_lt hw.lt)
 have C5 := Lib.hid h5
 clear hb hw hnm hm h5
 have HC := Lib.hid hc
 clear hc
 go_enter Tryz.func82, Tryz.ntmps82
 go_upto_region 0 with (fail)
 refine lbeg (opsOf Tryz.f82 0) ?_
 obtain ⟨q1, hq1⟩ : ∃ y, Hid (w.heap.size = y) := ⟨_, rfl⟩
 refine lbox 0 25 (.tmp 1) (cs) q1 (some 4) hq1 ?_
 intro w2 b1 e1 s1
 rw [← hq1.out] at e1
 replace WB := Lib.hid (WB.out.below e1)
 replace NM := Lib.hid (NM.out.below e1)
 replace WW := Lib.hid (WW.out.trans (WS.of_below e1 SW.out))
 replace SW : Hid (B ≤ w2.heap.size) := Nat.le_trans SW.out e1.size
 have BX := Lib.hid b1
 clear b1 e1 s1 hq1
 refine ldn 1 ?_
 generalize hact : Act.put _ (some 4) _ = act
 simp only [Act.put, sA, sC, sZ] at hact
 subst hact
 go_upto_region 1 with (fail)
 refine lbeg (opsOf Tryz.f82 1) ?_
 refine lnow 0 (.pointer (some ⟨q1, 0, none⟩)) (some 6) ?_
 refine lcl 1 (.int .i64 k) (some 7) 3 6 q1 0 (BX.out.cell (by rw [HC.out]; rfl)) Tryz.underlying3 ?_
 refine lnow 2 (.bool (!decide (k = 5))) (some 8) ?_
 rw [decide_eq_false hk]
 refine ldn 3 ?_
 generalize hact : Act.put _ (some 8) _ = act
 simp only [Act.put, sA, sC, sZ] at hact
 subst hact
 go_upto_region 2 with (fail)
 refine lbeg (opsOf Tryz.f82 2) ?_
 refine lnow 0 (.pointer (some ⟨b, 0, none⟩)) (some 9) ?_
 refine lrl 1 (cs) (some 10) 25 4 q1 0 BX.out.whole Tryz.underlying25 (t5Size C5.out) ?_
 refine lnow 2 (.int .i64 (d : Int)) (some 11) ?_
 refine lcal 3 105 #[.pointer (some ⟨b, 0, none⟩), .agg cs.toArray, .int .i64 (d : Int)] (some 12) _ (hA _ w2 (BE0.out.trans WW.out.low) WB.out NM.out (by have := HM.out; (try simp only [List.length_append, List.length_cons, List.length_nil] at this ⊢); omega)) ?_
 rintro e w3 ⟨rfl, hw, hs⟩
 refine ⟨_, rfl, ?_⟩
 replace BX := Lib.hid (hs.blk BX.out (WB.out.ne BX.out (by decide)) (by decide))
 replace NM := Lib.hid (NM.out.ws WB.out hs)
 replace WB := Lib.hid hw
 replace WW := Lib.hid (WW.out.trans hs)
 replace SW : Hid (B ≤ w3.heap.size) := Nat.le_trans SW.out hs.low.size
 clear hw hs
 refine ldn 4 ?_
 generalize hact : Act.put _ (some 12) _ = act
 simp only [Act.put, sA, sC, sZ] at hact
 subst hact
 have FIN : Hid (Wb B b (nv) (bs ++ (X)) w3 ∧ WS B b w w3) := ⟨by have := WB.out; (try simp only [List.append_assoc] at this ⊢); exact this, WW.out⟩
 clear WB
 go_wp2
 exact bodyPost_ret (results_none rfl _ _ _) rfl ⟨rfl, FIN.out⟩
set_option maxHeartbeats 4000000 in
theorem atom_paren (B : Nat) (w0 : World) (b d : Nat) (nv : Value) (ns : List (List UInt8)) (cs : List Value) (k : Int) (r : List Value) (h5 : cs.length = 5) (hc : cs = .int .i64 k :: r) (X : List UInt8) (hk : ¬ k = 1 ∧ ¬ k = 2 ∧ ¬ k = 3 ∧ ¬ k = 4 ∧ ¬ k = 9) (hA : Writes B w0 b nv ns 48 #[.pointer (some ⟨b, 0, none⟩), .agg cs.toArray, .int .i64 (d : Int)] X) : Writes B w0 b nv ns 105 #[.pointer (some ⟨b, 0, none⟩), .agg cs.toArray, .int .i64 (d : Int)] ([40] ++ (X ++ [41])) := by
 intro bs w hb hw hnm hm
 have BE0 : Hid (Below B w0 w) := hb
 have WB := Lib.hid hw
 have NM := Lib.hid hnm
 have HM := Lib.hid hm
 have WW : Hid (WS B b w w) := WS.refl _ _ _
 have SW : Hid (B ≤ w.heap.size) := Nat.le_trans hw.ge (Nat.le_of_lt hw.lt)
 have C5 := Lib.hid h5
 clear hb hw hnm hm h5
 have HC := Lib.hid hc
 clear hc
 go_enter Tryz.func105, Tryz.ntmps105
 go_upto_region 0 with (fail)
 refine lbeg (opsOf Tryz.f105 0) ?_
 obtain ⟨q1, hq1⟩ : ∃ y, Hid (w.heap.size = y) := ⟨_, rfl⟩
 refine lbox 0 25 (.tmp 1) (cs) q1 (some 4) hq1 ?_
 intro w2 b1 e1 s1
 rw [← hq1.out] at e1
 replace WB := Lib.hid (WB.out.below e1)
 replace NM := Lib.hid (NM.out.below e1)
 replace WW := Lib.hid (WW.out.trans (WS.of_below e1 SW.out))
 replace SW : Hid (B ≤ w2.heap.size) := Nat.le_trans SW.out e1.size
 have BX := Lib.hid b1
 clear b1 e1 s1 hq1
 refine ldn 1 ?_
 generalize hact : Act.put _ (some 4) _ = act
 simp only [Act.put, sA, sC, sZ] at hact
 subst hact
 go_upto_region 1 with (fail)
 refine lbeg (opsOf Tryz.f105 1) ?_
 refine lnow 0 (.pointer (some ⟨q1, 0, none⟩)) (some 6) ?_
 refine lcl 1 (.int .i64 k) (some 7) 3 6 q1 0 (BX.out.cell (by rw [HC.out]; rfl)) Tryz.underlying3 ?_
 refine ldn 2 ?_
 generalize hact : Act.put _ (some 7) _ = act
 simp only [Act.put, sA, sC, sZ] at hact
 subst hact
 go_upto_region 5 with (fail)
 refine lbeg (opsOf Tryz.f105 5) ?_
 refine lnow 0 (.bool (decide (k = 1))) (some 19) ?_
 rw [decide_eq_false hk.1]
 refine lnow 1 (.bool false) (some 18) ?_
 refine ldn 2 ?_
 generalize hact : Act.put _ (some 18) _ = act
 simp only [Act.put, sA, sC, sZ] at hact
 subst hact
 go_upto_region 7 with (fail)
 refine lbeg (opsOf Tryz.f105 7) ?_
 refine lnow 0 (.bool (decide (k = 2))) (some 35) ?_
 rw [decide_eq_false hk.2.1]
 refine lnow 1 (.bool false) (some 34) ?_
 refine ldn 2 ?_
 generalize hact : Act.put _ (some 34) _ = act
 simp only [Act.put, sA, sC, sZ] at hact
 subst hact
 go_upto_region 9 with (fail)
 refine lbeg (opsOf Tryz.f105 9) ?_
 refine lnow 0 (.bool (decide (k = 3))) (some 40) ?_
 rw [decide_eq_false hk.2.2.1]
 refine lnow 1 (.bool false) (some 39) ?_
 refine ldn 2 ?_
 generalize hact : Act.put _ (some 39) _ = act
 simp only [Act.put, sA, sC, sZ] at hact
 subst hact
 go_upto_region 11 with (fail)
 refine lbeg (opsOf Tryz.f105 11) ?_
 refine lnow 0 (.bool (decide (k = 4))) (some 50) ?_
 rw [decide_eq_false hk.2.2.2.1]
 refine lnow 1 (.bool false) (some 49) ?_
 refine ldn 2 ?_
 generalize hact : Act.put _ (some 49) _ = act
 simp only [Act.put, sA, sC, sZ] at hact
 subst hact
 go_upto_region 13 with (fail)
 refine lbeg (opsOf Tryz.f105 13) ?_
 refine lnow 0 (.bool (decide (k = 9))) (some 60) ?_
 rw [decide_eq_false hk.2.2.2.2]
 refine lnow 1 (.bool false) (some 59) ?_
 refine ldn 2 ?_
 generalize hact : Act.put _ (some 59) _ = act
 simp only [Act.put, sA, sC, sZ] at hact
 subst hact
 go_upto_region 2 with (fail)
 refine lbeg (opsOf Tryz.f105 2) ?_
 refine lnow 0 (.pointer (some ⟨b, 0, none⟩)) (some 8) ?_
 obtain ⟨q3, hq3⟩ : ∃ y, Hid (w2.heap.size = y) := ⟨_, rfl⟩
 refine lin_row 1 9 ([[40]].map sT) q3 1 (some 9) (by kernel_rfl) (by kernel_rfl) hq3 (exec_of _ _ (by kernel_rfl) (run_bs1 ([40]) _)) ?_
 intro w4 b1 e1 s1
 rw [← hq3.out] at e1
 replace WB := Lib.hid (WB.out.below e1)
 replace NM := Lib.hid (NM.out.below e1)
 replace WW := Lib.hid (WW.out.trans (WS.of_below e1 SW.out))
 replace SW : Hid (B ≤ w4.heap.size) := Nat.le_trans SW.out e1.size
 replace BX := Lib.hid (BX.out.below e1 BX.out.lt)
 have RW := Lib.hid b1
 clear b1 e1 s1 hq3
 refine lcal 2 35 #[.pointer (some ⟨b, 0, none⟩), .slice (some ⟨q3, 0, none⟩) 1 1] (some 10) _ (put_here (xs := [[40]]) 1 ([40]) WB.out RW.out rfl (by simp) (by omega) (by have := HM.out; (try simp only [List.length_append, List.length_cons, List.length_nil] at this ⊢); omega)) ?_
 rintro e w5 ⟨rfl, hw, hs⟩
 refine ⟨_, rfl, ?_⟩
 clear RW
 replace BX := Lib.hid (hs.blk BX.out (WB.out.ne BX.out (by decide)) (by decide))
 replace NM := Lib.hid (NM.out.ws WB.out hs)
 replace WB := Lib.hid hw
 replace WW := Lib.hid (WW.out.trans hs)
 replace SW : Hid (B ≤ w5.heap.size) := Nat.le_trans SW.out hs.low.size
 clear hw hs
 refine ldn 3 ?_
 generalize hact : Act.put _ (some 10) _ = act
 simp only [Act.put, sA, sC, sZ] at hact
 subst hact
 go_upto_region 3 with (fail)
 refine lbeg (opsOf Tryz.f105 3) ?_
 refine lnow 0 (.pointer (some ⟨b, 0, none⟩)) (some 11) ?_
 refine lrl 1 (cs) (some 12) 25 4 q1 0 BX.out.whole Tryz.underlying25 (t5Size C5.out) ?_
 refine lnow 2 (.int .i64 (d : Int)) (some 13) ?_
 refine lcal 3 48 #[.pointer (some ⟨b, 0, none⟩), .agg cs.toArray, .int .i64 (d : Int)] (some 14) _ (hA _ w5 (BE0.out.trans WW.out.low) WB.out NM.out (by have := HM.out; (try simp only [List.length_append, List.length_cons, List.length_nil] at this ⊢); omega)) ?_
 rintro e w6 ⟨rfl, hw, hs⟩
 refine ⟨_, rfl, ?_⟩
 replace BX := Lib.hid (hs.blk BX.out (WB.out.ne BX.out (by decide)) (by decide))
 replace NM := Lib.hid (NM.out.ws WB.out hs)
 replace WB := Lib.hid hw
 replace WW := Lib.hid (WW.out.trans hs)
 replace SW : Hid (B ≤ w6.heap.size) := Nat.le_trans SW.out hs.low.size
 clear hw hs
 refine ldn 4 ?_
 generalize hact : Act.put _ (some 14) _ = act
 simp only [Act.put, sA, sC, sZ] at hact
 subst hact
 go_upto_region 4 with (fail)
 refine lbeg (opsOf Tryz.f105 4) ?_
 refine lnow 0 (.pointer (some ⟨b, 0, none⟩)) (some 15) ?_
 obtain ⟨q7, hq7⟩ : ∃ y, Hid (w6.heap.size = y) := ⟨_, rfl⟩
 refine lin_row 1 9 ([[41]].map sT) q7 1 (some 16) (by kernel_rfl) (by kernel_rfl) hq7 (exec_of _ _ (by kernel_rfl) (run_bs1 ([41]) _)) ?_
 intro w8 b1 e1 s1
 rw [← hq7.out] at e1
 replace WB := Lib.hid (WB.out.below e1)
 replace NM := Lib.hid (NM.out.below e1)
 replace WW := Lib.hid (WW.out.trans (WS.of_below e1 SW.out))
 replace SW : Hid (B ≤ w8.heap.size) := Nat.le_trans SW.out e1.size
 replace BX := Lib.hid (BX.out.below e1 BX.out.lt)
 have RW := Lib.hid b1
 clear b1 e1 s1 hq7
 refine lcal 2 35 #[.pointer (some ⟨b, 0, none⟩), .slice (some ⟨q7, 0, none⟩) 1 1] (some 17) _ (put_here (xs := [[41]]) 1 ([41]) WB.out RW.out rfl (by simp) (by omega) (by have := HM.out; (try simp only [List.length_append, List.length_cons, List.length_nil] at this ⊢); omega)) ?_
 rintro e w9 ⟨rfl, hw, hs⟩
 refine ⟨_, rfl, ?_⟩
 clear RW
 replace BX := Lib.hid (hs.blk BX.out (WB.out.ne BX.out (by decide)) (by decide))
 replace NM := Lib.hid (NM.out.ws WB.out hs)
 replace WB := Lib.hid hw
 replace WW := Lib.hid (WW.out.trans hs)
 replace SW : Hid (B ≤ w9.heap.size) := Nat.le_trans SW.out hs.low.size
 clear hw hs
 refine ldn 3 ?_
 generalize hact : Act.put _ (some 17) _ = act
 simp only [Act.put, sA, sC, sZ] at hact
 subst hact
 have FIN : Hid (Wb B b (nv) (bs ++ ([40] ++ (X ++ [41]))) w9 ∧ WS B b w w9) := ⟨by have := WB.out; (try simp only [List.append_assoc] at this ⊢); exact this, WW.out⟩
 clear WB
 go_wp2
 go_end0
 exact ⟨rfl, FIN.out⟩
end Go.Proofs.YtmceocgddaaohaaGreatDoor
