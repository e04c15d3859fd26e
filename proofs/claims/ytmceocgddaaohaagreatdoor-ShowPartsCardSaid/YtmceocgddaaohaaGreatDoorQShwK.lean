/- Package show: declarations and libraries. -/
import Derived.Test.YtmceocgddaaohaaGreatDoorQGenT
import Derived.Test.YtmceocgddaaohaaGreatDoorQShwJ
import Derived.Test.YtmceocgddaaohaaGreatDoorQCodL
import Derived.Deep.CutRange
import Derived.Deep.DeepCutAuto
namespace Go.Proofs.YtmceocgddaaohaaGreatDoor
open Go Go.RowKit
set_option maxRecDepth 100000
def kwT (k : Int) : List UInt8 := if k = 1 then [97, 120, 105, 111, 109] else if k = 2 then [100, 101, 102] else if k = 3 then [116, 104, 101, 111, 114, 101, 109] else [102, 97, 109, 105, 108, 121]
def ahT (i : Nat) : List UInt8 := if i = 0 then [32, 119, 105, 116, 104, 32] else [32, 124, 32]
def ctT (i : Nat) (c : List UInt8 × Tm) : List UInt8 := ahT i ++ (c.1 ++ ([32, 58, 32] ++ wlT c.2))
def ctsF (i : Nat) : List (List UInt8 × Tm) → List UInt8
 | [] => []
 | c :: r => ctT i c ++ ctsF (i + 1) r
theorem ctsF_snoc : ∀ (i : Nat) (l : List (List UInt8 × Tm)) (c : List UInt8 × Tm), ctsF i (l ++ [c]) = ctsF i l ++ ctT (i + l.length) c
 | i, [], c => by simp [ctsF]
 | i, x :: l, c => by
  rw [List.cons_append, ctsF, ctsF, ctsF_snoc (i + 1) l c, List.append_assoc, List.length_cons, show i + 1 + l.length = i + (l.length + 1) by omega]
def parT (p : Int) : List UInt8 := if p = 0 then [] else [32, 64] ++ Lib.itoa p
def fixT (k f : Int) : List UInt8 := if k = 4 then [32, 111, 102, 32] ++ Lib.itoa f else []
def valT (k : Int) (t : Tm) : List UInt8 := if k = 2 ∨ k = 3 then [32, 58, 61, 32] ++ wlT t else []
/-- A declaration's text. -/
def dlT (d : Dc) : List UInt8 := (kwT d.kind ++ ([32] ++ d.name)) ++ (parT d.params ++ (fixT d.kind d.fixed ++ ([32, 58, 32] ++ (wlT d.ty ++ (valT d.kind d.val ++ (ctsF 0 d.ctors ++ [59]))))))
/-- What is known of a declaration that is well formed. -/
structure FmD (d : Dc) : Prop where
 k1 : 1 ≤ d.kind
 k4 : d.kind ≤ 4
 word : wordB d.name = true
 p0 : 0 ≤ d.params
 p4 : d.params ≤ 4
 ty : rightP 4 0 d.ty = true
 val : d.kind = 2 ∨ d.kind = 3 → rightP 4 0 d.val = true
 fix : 0 ≤ d.fixed ∧ d.fixed ≤ 16
 num : d.ctors.length ≤ 8
 ctors : ∀ c ∈ d.ctors, wordB c.1 = true ∧ rightP 4 0 c.2 = true
theorem rightP_four {p : Int} {t : Tm} (h : rightP p 0 t = true) : 0 ≤ p ∧ p ≤ 4 ∧ rightP 4 0 t = true := by
 simp only [rightP, Bool.and_eq_true, decide_eq_true_eq] at h ⊢
 obtain ⟨⟨⟨⟨h1, h2⟩, h3⟩, h4⟩, h5, h6⟩ := h
 exact ⟨h1, h2, ⟨⟨⟨by omega, by omega⟩, h3⟩, h4⟩, h5, right_mono h2 t 0 0 0 (Int.le_refl _) h6⟩
theorem formed_is {d : Dc} (h : formB d = true) : FmD d := by
 unfold formB at h
 rw [Bool.and_eq_true, Bool.and_eq_true] at h
 obtain ⟨⟨h1, h2⟩, h3⟩ := h
 obtain ⟨p0, p4, ht⟩ := rightP_four h2
 by_cases k1 : d.kind = 1
 ·rw [if_pos k1, Bool.and_eq_true, noFam_iff] at h3
  obtain ⟨-, h5, h6⟩ := h3
  exact ⟨by omega, by omega, h1, p0, p4, ht, fun h => by omega, by omega, by rw [h6]; simp, fun c hc => by rw [h6] at hc; cases hc⟩
 rw [if_neg k1] at h3
 by_cases k2 : d.kind = 2 ∨ d.kind = 3
 ·rw [if_pos k2, Bool.and_eq_true, noFam_iff] at h3
  obtain ⟨h4, h5, h6⟩ := h3
  exact ⟨by omega, by omega, h1, p0, p4, ht, fun _ => (rightP_four h4).2.2, by omega, by rw [h6]; simp, fun c hc => by rw [h6] at hc; cases hc⟩
 rw [if_neg k2] at h3
 by_cases k3 : d.kind = 4
 ·rw [if_pos k3, Bool.and_eq_true] at h3
  obtain ⟨-, h4⟩ := h3
  simp only [famB, famH, Bool.and_eq_true, decide_eq_true_eq, List.all_eq_true, ctOk] at h4
  exact ⟨by omega, by omega, h1, p0, p4, ht, fun h => absurd h k2, h4.1.1, h4.1.2, fun c hc => ⟨(h4.2 c hc).1, (rightP_four (h4.2 c hc).2).2.2⟩⟩
 ·rw [if_neg k3] at h3
  cases h3
theorem infoCtS {cs : List Value} (h : cs.length = 6) : (Tryz.prog.info? 56).map (·.size) = some cs.length := ctSizeC h
set_option maxHeartbeats 1000000 in
theorem keyword_1 (w : World) : Calls Tryz.prog 62 #[.int .i64 1] w fun e w' => e = .returned (sT [97, 120, 105, 111, 109]) ∧ w = w' := by
 go_enter Tryz.func62, Tryz.ntmps62
 go_upto_region 0 with (fail)
 refine lbeg (opsOf Tryz.f62 0) ?_
 refine lnow 0 (sT []) (some 2) ?_
 refine ldn 1 ?_
 generalize hact : Act.put _ (some 2) _ = act
 simp only [Act.put, sA, sC, sZ] at hact
 subst hact
 go_upto_region 1 with (fail)
 refine lbeg (opsOf Tryz.f62 1) ?_
 refine lnow 0 (.int .i64 1) (some 3) ?_
 refine ldn 1 ?_
 generalize hact : Act.put _ (some 3) _ = act
 simp only [Act.put, sA, sC, sZ] at hact
 subst hact
 go_upto_region 2 with (fail)
 refine lbeg (opsOf Tryz.f62 2) ?_
 refine lnow 0 (.bool true) (some 5) ?_
 refine lnow 1 (.bool true) (some 4) ?_
 refine ldn 2 ?_
 generalize hact : Act.put _ (some 4) _ = act
 simp only [Act.put, sA, sC, sZ] at hact
 subst hact
 go_upto_region 3 with (fail)
 refine lbeg (opsOf Tryz.f62 3) ?_
 refine lnow 0 (sT [97, 120, 105, 111, 109]) (some 2) ?_
 refine ldn 1 ?_
 generalize hact : Act.put _ (some 2) _ = act
 simp only [Act.put, sA, sC, sZ] at hact
 subst hact
 go_wp2
 go_ret
 exact ⟨rfl, rfl⟩
set_option maxHeartbeats 1000000 in
theorem keyword_2 (w : World) : Calls Tryz.prog 62 #[.int .i64 2] w fun e w' => e = .returned (sT [100, 101, 102]) ∧ w = w' := by
 go_enter Tryz.func62, Tryz.ntmps62
 go_upto_region 0 with (fail)
 refine lbeg (opsOf Tryz.f62 0) ?_
 refine lnow 0 (sT []) (some 2) ?_
 refine ldn 1 ?_
 generalize hact : Act.put _ (some 2) _ = act
 simp only [Act.put, sA, sC, sZ] at hact
 subst hact
 go_upto_region 1 with (fail)
 refine lbeg (opsOf Tryz.f62 1) ?_
 refine lnow 0 (.int .i64 2) (some 3) ?_
 refine ldn 1 ?_
 generalize hact : Act.put _ (some 3) _ = act
 simp only [Act.put, sA, sC, sZ] at hact
 subst hact
 go_upto_region 2 with (fail)
 refine lbeg (opsOf Tryz.f62 2) ?_
 refine lnow 0 (.bool false) (some 5) ?_
 refine lnow 1 (.bool false) (some 4) ?_
 refine ldn 2 ?_
 generalize hact : Act.put _ (some 4) _ = act
 simp only [Act.put, sA, sC, sZ] at hact
 subst hact
 go_upto_region 4 with (fail)
 refine lbeg (opsOf Tryz.f62 4) ?_
 refine lnow 0 (.bool true) (some 7) ?_
 refine lnow 1 (.bool true) (some 6) ?_
 refine ldn 2 ?_
 generalize hact : Act.put _ (some 6) _ = act
 simp only [Act.put, sA, sC, sZ] at hact
 subst hact
 go_upto_region 5 with (fail)
 refine lbeg (opsOf Tryz.f62 5) ?_
 refine lnow 0 (sT [100, 101, 102]) (some 2) ?_
 refine ldn 1 ?_
 generalize hact : Act.put _ (some 2) _ = act
 simp only [Act.put, sA, sC, sZ] at hact
 subst hact
 go_wp2
 go_ret
 exact ⟨rfl, rfl⟩
set_option maxHeartbeats 1000000 in
theorem keyword_3 (w : World) : Calls Tryz.prog 62 #[.int .i64 3] w fun e w' => e = .returned (sT [116, 104, 101, 111, 114, 101, 109]) ∧ w = w' := by
 go_enter Tryz.func62, Tryz.ntmps62
 go_upto_region 0 with (fail)
 refine lbeg (opsOf Tryz.f62 0) ?_
 refine lnow 0 (sT []) (some 2) ?_
 refine ldn 1 ?_
 generalize hact : Act.put _ (some 2) _ = act
 simp only [Act.put, sA, sC, sZ] at hact
 subst hact
 go_upto_region 1 with (fail)
 refine lbeg (opsOf Tryz.f62 1) ?_
 refine lnow 0 (.int .i64 3) (some 3) ?_
 refine ldn 1 ?_
 generalize hact : Act.put _ (some 3) _ = act
 simp only [Act.put, sA, sC, sZ] at hact
 subst hact
 go_upto_region 2 with (fail)
 refine lbeg (opsOf Tryz.f62 2) ?_
 refine lnow 0 (.bool false) (some 5) ?_
 refine lnow 1 (.bool false) (some 4) ?_
 refine ldn 2 ?_
 generalize hact : Act.put _ (some 4) _ = act
 simp only [Act.put, sA, sC, sZ] at hact
 subst hact
 go_upto_region 4 with (fail)
 refine lbeg (opsOf Tryz.f62 4) ?_
 refine lnow 0 (.bool false) (some 7) ?_
 refine lnow 1 (.bool false) (some 6) ?_
 refine ldn 2 ?_
 generalize hact : Act.put _ (some 6) _ = act
 simp only [Act.put, sA, sC, sZ] at hact
 subst hact
 go_upto_region 6 with (fail)
 refine lbeg (opsOf Tryz.f62 6) ?_
 refine lnow 0 (.bool true) (some 9) ?_
 refine lnow 1 (.bool true) (some 8) ?_
 refine ldn 2 ?_
 generalize hact : Act.put _ (some 8) _ = act
 simp only [Act.put, sA, sC, sZ] at hact
 subst hact
 go_upto_region 7 with (fail)
 refine lbeg (opsOf Tryz.f62 7) ?_
 refine lnow 0 (sT [116, 104, 101, 111, 114, 101, 109]) (some 2) ?_
 refine ldn 1 ?_
 generalize hact : Act.put _ (some 2) _ = act
 simp only [Act.put, sA, sC, sZ] at hact
 subst hact
 go_wp2
 go_ret
 exact ⟨rfl, rfl⟩
set_option maxHeartbeats 1000000 in
theorem keyword_4 (w : World) : Calls Tryz.prog 62 #[.int .i64 4] w fun e w' => e = .returned (sT [102, 97, 109, 105, 108, 121]) ∧ w = w' := by
 go_enter Tryz.func62, Tryz.ntmps62
 go_upto_region 0 with (fail)
 refine lbeg (opsOf Tryz.f62 0) ?_
 refine lnow 0 (sT []) (some 2) ?_
 refine ldn 1 ?_
 generalize hact : Act.put _ (some 2) _ = act
 simp only [Act.put, sA, sC, sZ] at hact
 subst hact
 go_upto_region 1 with (fail)
 refine lbeg (opsOf Tryz.f62 1) ?_
 refine lnow 0 (.int .i64 4) (some 3) ?_
 refine ldn 1 ?_
 generalize hact : Act.put _ (some 3) _ = act
 simp only [Act.put, sA, sC, sZ] at hact
 subst hact
 go_upto_region 2 with (fail)
 refine lbeg (opsOf Tryz.f62 2) ?_
 refine lnow 0 (.bool false) (some 5) ?_
 refine lnow 1 (.bool false) (some 4) ?_
 refine ldn 2 ?_
 generalize hact : Act.put _ (some 4) _ = act
 simp only [Act.put, sA, sC, sZ] at hact
 subst hact
 go_upto_region 4 with (fail)
 refine lbeg (opsOf Tryz.f62 4) ?_
 refine lnow 0 (.bool false) (some 7) ?_
 refine lnow 1 (.bool false) (some 6) ?_
 refine ldn 2 ?_
 generalize hact : Act.put _ (some 6) _ = act
 simp only [Act.put, sA, sC, sZ] at hact
 subst hact
 go_upto_region 6 with (fail)
 refine lbeg (opsOf Tryz.f62 6) ?_
 refine lnow 0 (.bool false) (some 9) ?_
 refine lnow 1 (.bool false) (some 8) ?_
 refine ldn 2 ?_
 generalize hact : Act.put _ (some 8) _ = act
 simp only [Act.put, sA, sC, sZ] at hact
 subst hact
 go_upto_region 8 with (fail)
 refine lbeg (opsOf Tryz.f62 8) ?_
 refine lnow 0 (sT [102, 97, 109, 105, 108, 121]) (some 2) ?_
 refine ldn 1 ?_
 generalize hact : Act.put _ (some 2) _ = act
 simp only [Act.put, sA, sC, sZ] at hact
 subst hact
 go_wp2
 go_ret
 exact ⟨rfl, rfl⟩
theorem keyword_walk (k : Int) (h1 : 1 ≤ k) (h4 : k ≤ 4) (w : World) : Calls Tryz.prog 62 #[.int .i64 k] w fun e w' => e = .returned (sT (kwT k)) ∧ w = w' := by
 have hk : k = 1 ∨ k = 2 ∨ k = 3 ∨ k = 4 := by omega
 rcases hk with rfl | rfl | rfl | rfl
 ·exact keyword_1 w
 ·exact keyword_2 w
 ·exact keyword_3 w
 ·exact keyword_4 w
/-- What stands while a declaration is written. -/
structure DlSt (B b q : Nat) (cs : List Value) (wa : World) (E : List UInt8) (w : World) : Prop where
 wb : ∃ nv, Wb B b nv E w
 ws : WS B b wa w
 bx : Blk w q 46 cs
def zCt : List Value := [sT [], .int .i64 0, .int .i64 0, sT [], .slice none 0 0, .slice none 0 0]
theorem cons_range {w : World} {z : Nat} {t : TypeId} {x : Value} {xs : List Value} (h : Blk w z t (x :: xs)) : w.rangeAt z 1 xs := fun j u hj => h.cell (by rw [Nat.add_comm, List.getElem?_cons_succ]; exact hj)
theorem run_at_ctr (g u n c k : Nat) (hk : k < n) (w : World) : (Instr.indexAt 44 (.slice (some ⟨g, u, none⟩) n c) (.int .i64 (k : Int))).run Tryz.prog w = .ok (.pointer (some ⟨g, u + 6 * k, none⟩)) w := by
 rw [run_indexAt_slice w 44 _ _ _ _ _ elemCts]
 have hz : (sizeOf (Tryz.prog.elem 44)).run Tryz.prog w = .ok 6 w := by kernel_rfl
 rw [if_pos (by omega), hz, Result.andThen_ok, Addr.add_mid, Int.toNat_natCast, Nat.mul_comm]
theorem ctsF_le : ∀ (l : List (List UInt8 × Tm)) (n j : Nat), (ctsF j (l.take n)).length ≤ (ctsF j l).length
 | [], n, j => by simp [ctsF]
 | c :: l, 0, j => by simp [ctsF]
 | c :: l, n + 1, j => by
  rw [List.take_succ_cons, ctsF, ctsF, List.length_append, List.length_append]
  have := ctsF_le l n (j + 1)
  omega
set_option maxHeartbeats 16000000 in
theorem decl_walkH (B : Nat) (w0 : World) (hB : w0.heap.size = B) (hT : TabW w0) (b : Nat) (nv : Value) (d : Dc) (cs : List Value) (hd : DcAt [] w0 d cs) (hs : SmD d) (hfm : FmD d) (bs : List UInt8) (w : World) (hb : Below B w0 w) (hw : Wb B b nv bs w) (hm : bs.length + (dlT d).length ≤ MB) : Calls Tryz.prog 34 #[.pointer (some ⟨b, 0, none⟩), .agg cs.toArray] w fun e w' => e = .returned (.tuple #[]) ∧ ∃ nv', Wb B b nv' (bs ++ dlT d) w' ∧ WS B b w w' := by
 obtain ⟨tc, vc, cv, hf, hty, hvl, hct⟩ := hd
 have FO := Lib.hid hf
 have C15 := Lib.hid hf.len
 have HTY := Lib.hid hty
 have HVL := Lib.hid hvl
 have HCT := Lib.hid hct
 have BE0 : Hid (Below B w0 w) := hb
 have WB := Lib.hid hw
 have WW : Hid (WS B b w w) := WS.refl _ _ _
 have SW : Hid (B ≤ w.heap.size) := Nat.le_trans hw.ge (Nat.le_of_lt hw.lt)
 have FM := Lib.hid hfm
 have SM := Lib.hid hs
 obtain ⟨A1, hA1⟩ : ∃ y, Hid (kwT d.kind ++ ([32] ++ d.name) = y) := ⟨_, Lib.hid rfl⟩
 obtain ⟨A2, hA2⟩ : ∃ y, Hid (parT d.params = y) := ⟨_, rfl⟩
 obtain ⟨A3, hA3⟩ : ∃ y, Hid (fixT d.kind d.fixed = y) := ⟨_, rfl⟩
 obtain ⟨A5, hA5⟩ : ∃ y, Hid (wlT d.ty = y) := ⟨_, rfl⟩
 obtain ⟨A6, hA6⟩ : ∃ y, Hid (valT d.kind d.val = y) := ⟨_, rfl⟩
 obtain ⟨A7, hA7⟩ : ∃ y, Hid (ctsF 0 d.ctors = y) := ⟨_, rfl⟩
 have ET : Hid (dlT d = A1 ++ (A2 ++ (A3 ++ ([32, 58, 32] ++ (A5 ++ (A6 ++ (A7 ++ [59]))))))) := by rw [Hid, dlT, hA1.out, hA2.out, hA3.out, hA5.out, hA6.out, hA7.out]
 rw [ET.out] at hm ⊢
 have HM := Lib.hid hm
 clear hf hty hvl hct hb hw hfm hs hm ET
 go_enter Tryz.func34, Tryz.ntmps34
 go_upto_region 0 with (fail)
 refine lbeg (opsOf Tryz.f34 0) ?_
 obtain ⟨q1, hq1⟩ : ∃ y, Hid (w.heap.size = y) := ⟨_, rfl⟩
 refine lbox 0 46 (.tmp 1) (cs) q1 (some 3) hq1 ?_
 intro w2 b1 e1 s1
 rw [← hq1.out] at e1
 replace WB := Lib.hid (WB.out.below e1)
 replace WW := Lib.hid (WW.out.trans (WS.of_below e1 SW.out))
 replace SW : Hid (B ≤ w2.heap.size) := Nat.le_trans SW.out e1.size
 have BX := Lib.hid b1
 clear b1 e1 s1 hq1
 refine ldn 1 ?_
 generalize hact : Act.put _ (some 3) _ = act
 simp only [Act.put, sA, sC, sZ] at hact
 subst hact
 obtain ⟨kk, hkk⟩ : ∃ y, Hid (d.kind = y) := ⟨_, rfl⟩
 obtain ⟨dn, hdn⟩ : ∃ y, Hid (d.name = y) := ⟨_, rfl⟩
 obtain ⟨kw, hkw⟩ : ∃ y, Hid (kwT kk = y) := ⟨_, rfl⟩
 have LK : Hid (A1.length = kw.length + (1 + dn.length)) := by rw [← hA1.out, hkk.out, hkw.out, hdn.out]; rw [Hid, List.length_append, List.length_append]; rfl
 have K1 : Hid (1 ≤ kk ∧ kk ≤ 4) := by rw [← hkk.out]; exact ⟨FM.out.k1, FM.out.k4⟩
 go_upto_region 1 with (fail)
 refine region_begin (opsOf Tryz.f34 1) (fun w' => w'.cell? ⟨q1, 0, none⟩ = some (.int .i64 kk) ∧ w'.cell? ⟨q1, 2, none⟩ = some (sT dn)) (by kernel_rfl) (by kernel_rfl) 8 (by kernel_rfl) ?_
 intro Q' hQN hN
 have HB9 : Below w2.heap.size w2 (World.drew w2) := Below.drew (Below.refl _ _)
 generalize World.drew w2 = wd3 at HB9 ⊢
 replace WB := Lib.hid (WB.out.below HB9)
 replace WW := Lib.hid (WW.out.trans (WS.of_below HB9 SW.out))
 replace SW : Hid (B ≤ wd3.heap.size) := Nat.le_trans SW.out HB9.size
 replace BX := Lib.hid (BX.out.below HB9 BX.out.lt)
 clear HB9
 have HS : (fun w' => w'.cell? ⟨q1, 0, none⟩ = some (.int .i64 kk) ∧ w'.cell? ⟨q1, 2, none⟩ = some (sT dn)) wd3 := ⟨by rw [← hkk.out]; exact FO.out.k BX.out, by rw [← hdn.out]; exact FO.out.n BX.out⟩
 refine reg_now 0 (.pointer (some ⟨b, 0, none⟩)) (some 7) hQN HS (by kernel_rfl) (by kernel_rfl) (fun w => by kernel_rfl) ?_
 refine reg_now 1 (.pointer (some ⟨q1, 0, none⟩)) (some 8) hQN HS (by kernel_rfl) (by kernel_rfl) (fun w => by kernel_rfl) ?_
 refine reg_nowIf 2 (.int .i64 kk) (some 9) hQN HS (by kernel_rfl) (by kernel_rfl) (fun w' hw => exec_load_cell 3 (.tmp 8) (by kernel_rfl) q1 0 (by kernel_rfl) _ hw.1 _ Tryz.underlying3 rfl) ?_
 refine reg_now 4 (.pointer (some ⟨q1, 2, none⟩)) (some 11) hQN HS (by kernel_rfl) (by kernel_rfl) (fun w => by kernel_rfl) ?_
 refine reg_nowIf 5 (sT dn) (some 12) hQN HS (by kernel_rfl) (by kernel_rfl) (fun w' hw => exec_load_cell 9 (.tmp 11) (by kernel_rfl) q1 2 (by kernel_rfl) _ hw.2 _ Tryz.underlying9 rfl) ?_
 refine reg_call 3 62 #[.int .i64 kk] (some 10) _ (by kernel_rfl) (by kernel_rfl) (by kernel_rfl) (keyword_walk kk K1.out.1 K1.out.2 wd3) ?_
 rintro e w' ⟨rfl, hw'⟩
 subst hw'
 rw [hkw.out]
 refine ⟨_, rfl, ⟨by rw [← hkk.out]; exact FO.out.k BX.out, by rw [← hdn.out]; exact FO.out.n BX.out⟩, ?_⟩
 obtain ⟨q4, hq4⟩ : ∃ y, Hid (wd3.heap.size = y) := ⟨_, rfl⟩
 refine reg_row 6 9 ([kw, [32], dn].map sT) q4 3 (some 13) (by kernel_rfl) (by kernel_rfl) hq4 (exec_of _ _ (by kernel_rfl) (run_bs3 (kw) ([32]) (dn) _)) ?_
 intro w5 b1 e1 s1
 rw [← hq4.out] at e1
 replace WB := Lib.hid (WB.out.below e1)
 replace WW := Lib.hid (WW.out.trans (WS.of_below e1 SW.out))
 replace SW : Hid (B ≤ w5.heap.size) := Nat.le_trans SW.out e1.size
 replace BX := Lib.hid (BX.out.below e1 BX.out.lt)
 have RW := Lib.hid b1
 clear b1 e1 s1 hq4
 refine ⟨⟨by rw [← hkk.out]; exact FO.out.k BX.out, by rw [← hdn.out]; exact FO.out.n BX.out⟩, ?_⟩
 refine reg_call 7 35 #[.pointer (some ⟨b, 0, none⟩), .slice (some ⟨q4, 0, none⟩) 3 3] (some 14) _ (by kernel_rfl) (by kernel_rfl) (by kernel_rfl) (put_here (xs := [kw, [32], dn]) 3 (kw ++ ([32] ++ (dn))) WB.out RW.out rfl (by simp) (by omega) (by have h9 := HM.out; have := LK.out; simp only [List.length_append, List.length_cons, List.length_nil] at h9 ⊢; omega)) ?_
 rintro e w6 ⟨rfl, hw, hs⟩
 clear RW
 replace BX := Lib.hid (hs.blk BX.out (WB.out.ne BX.out (by decide)) (by decide))
 replace WB := Lib.hid hw
 replace WW := Lib.hid (WW.out.trans hs)
 replace SW : Hid (B ≤ w6.heap.size) := Nat.le_trans SW.out hs.low.size
 clear hw hs
 refine ⟨_, rfl, ⟨by rw [← hkk.out]; exact FO.out.k BX.out, by rw [← hdn.out]; exact FO.out.n BX.out⟩, ?_⟩
 refine reg_done (by kernel_rfl) (hN _ _ ?_)
 generalize hact : Act.put _ (some 14) _ = act
 simp only [Act.put, sA, sC, sZ] at hact
 subst hact
 replace WB : Hid (Wb B b nv (bs ++ A1) w6) := by have h9 := WB.out; rw [show kw ++ ([32] ++ dn) = A1 by rw [← hkw.out, ← hkk.out, ← hdn.out]; exact hA1.out] at h9; exact h9
 clear hkw LK
 obtain ⟨pp, hpp⟩ : ∃ y, Hid (d.params = y) := ⟨_, rfl⟩
 rw [hpp.out] at hA2
 have P04 : Hid (0 ≤ pp ∧ pp ≤ 4) := by rw [← hpp.out]; exact ⟨FM.out.p0, FM.out.p4⟩
 go_upto_region 2 with (fail)
 refine lbeg (opsOf Tryz.f34 2) ?_
 refine lnow 0 (.pointer (some ⟨q1, 1, none⟩)) (some 15) ?_
 refine lcl 1 (.int .i64 pp) (some 16) 3 15 q1 1 (by rw [← hpp.out]; exact FO.out.p BX.out) Tryz.underlying3 ?_
 refine lnow 2 (.bool (!decide (pp = 0))) (some 17) ?_
 refine ldn 3 ?_
 generalize hact : Act.put _ (some 17) _ = act
 simp only [Act.put, sA, sC, sZ] at hact
 subst hact
 go_upto_if 17 with (fail)
 go_cut [3] from 7 (fun s3 wc => s3 = .pointer (some ⟨q1, 0, none⟩) ∧ Hid (DlSt B b q1 cs w ((bs ++ A1) ++ A2) wc))
 case first =>
  by_cases hc : pp = 0
  ·rw [decide_eq_true hc]
   have EA : A2 = [] := by rw [← hA2.out]; exact if_pos hc
   have DS : Hid (DlSt B b q1 cs w ((bs ++ A1) ++ A2) w6) := ⟨⟨_, by rw [EA, List.append_nil]; exact WB.out⟩, WW.out, BX.out⟩
   go_wp2
   go_meet
   case rel => exact ⟨rfl, DS⟩
  rw [decide_eq_false hc]
  obtain ⟨X, hX⟩ : ∃ y, Hid (Lib.itoa pp = y) := ⟨_, rfl⟩
  have EA : Hid (A2 = [32, 64] ++ X) := by rw [← hA2.out, ← hX.out]; exact if_neg hc
  rw [EA.out] at HM
  have p04 := P04.out
  go_upto_region 3 with (fail)
  refine lbeg (opsOf Tryz.f34 3) ?_
  refine lnow 0 (.pointer (some ⟨b, 0, none⟩)) (some 18) ?_
  refine lnow 1 (.pointer (some ⟨q1, 1, none⟩)) (some 19) ?_
  refine lcl 2 (.int .i64 pp) (some 20) 3 19 q1 1 (by rw [← hpp.out]; exact FO.out.p BX.out) Tryz.underlying3 ?_
  refine lcal 3 63 #[.int .i64 pp] (some 21) _ (itoa_walk pp (by omega) (by omega) w6 (hT.below (by rw [hB]; exact BE0.out.trans WW.out.low))) ?_
  rintro e w7 ⟨rfl, hb⟩
  refine ⟨_, rfl, ?_⟩
  rw [hX.out]
  replace WB := Lib.hid (WB.out.below hb)
  replace WW := Lib.hid (WW.out.trans (WS.of_below hb SW.out))
  replace SW : Hid (B ≤ w7.heap.size) := Nat.le_trans SW.out hb.size
  replace BX := Lib.hid (BX.out.below hb BX.out.lt)
  clear hb
  obtain ⟨q8, hq8⟩ : ∃ y, Hid (w7.heap.size = y) := ⟨_, rfl⟩
  refine lin_row 4 9 ([[32, 64], X].map sT) q8 2 (some 22) (by kernel_rfl) (by kernel_rfl) hq8 (exec_of _ _ (by kernel_rfl) (run_bs2 ([32, 64]) (X) _)) ?_
  intro w9 b1 e1 s1
  rw [← hq8.out] at e1
  replace WB := Lib.hid (WB.out.below e1)
  replace WW := Lib.hid (WW.out.trans (WS.of_below e1 SW.out))
  replace SW : Hid (B ≤ w9.heap.size) := Nat.le_trans SW.out e1.size
  replace BX := Lib.hid (BX.out.below e1 BX.out.lt)
  have RW := Lib.hid b1
  clear b1 e1 s1 hq8
  refine lcal 5 35 #[.pointer (some ⟨b, 0, none⟩), .slice (some ⟨q8, 0, none⟩) 2 2] (some 23) _ (put_here (xs := [[32, 64], X]) 2 ([32, 64] ++ (X)) WB.out RW.out rfl (by simp) (by omega) (by have h9 := HM.out; simp only [List.length_append, List.length_cons, List.length_nil] at h9 ⊢; omega)) ?_
  rintro e w10 ⟨rfl, hw, hs⟩
  refine ⟨_, rfl, ?_⟩
  clear RW
  replace BX := Lib.hid (hs.blk BX.out (WB.out.ne BX.out (by decide)) (by decide))
  replace WB := Lib.hid hw
  replace WW := Lib.hid (WW.out.trans hs)
  replace SW : Hid (B ≤ w10.heap.size) := Nat.le_trans SW.out hs.low.size
  clear hw hs
  refine ldn 6 ?_
  generalize hact : Act.put _ (some 23) _ = act
  simp only [Act.put, sA, sC, sZ] at hact
  subst hact
  have DS : Hid (DlSt B b q1 cs w ((bs ++ A1) ++ A2) w10) := ⟨⟨_, by rw [EA.out]; have h9 := WB.out; (try simp only [List.append_assoc] at h9 ⊢); exact h9⟩, WW.out, BX.out⟩
  go_wp2
  go_meet
  case rel => exact ⟨rfl, DS⟩
 clear WB WW BX SW
 obtain ⟨rfl, hcut⟩ := hcut
 obtain ⟨nv, hwb⟩ := hcut.out.wb
 have WB := Lib.hid hwb
 have WW := Lib.hid hcut.out.ws
 have BX := Lib.hid hcut.out.bx
 obtain ⟨w501, hw501⟩ : ∃ y, y = wc := ⟨_, rfl⟩
 rw [← hw501] at WB WW BX ⊢
 have SW : Hid (B ≤ w501.heap.size) := Nat.le_trans WB.out.ge (Nat.le_of_lt WB.out.lt)
 clear hcut hwb hw501
 obtain ⟨ff, hff⟩ : ∃ y, Hid (d.fixed = y) := ⟨_, rfl⟩
 rw [hff.out, hkk.out] at hA3
 have F16 : Hid (0 ≤ ff ∧ ff ≤ 16) := by rw [← hff.out]; exact FM.out.fix
 go_upto_region 4 with (fail)
 refine lbeg (opsOf Tryz.f34 4) ?_
 refine lnow 0 (.pointer (some ⟨q1, 0, none⟩)) (some 24) ?_
 refine lcl 1 (.int .i64 kk) (some 25) 3 24 q1 0 (by rw [← hkk.out]; exact FO.out.k BX.out) Tryz.underlying3 ?_
 refine lnow 2 (.bool (decide (kk = 4))) (some 26) ?_
 refine ldn 3 ?_
 generalize hact : Act.put _ (some 26) _ = act
 simp only [Act.put, sA, sC, sZ] at hact
 subst hact
 go_upto_if 26 with (fail)
 go_cut [3] from 7 (fun s3 wc => s3 = .pointer (some ⟨q1, 0, none⟩) ∧ Hid (DlSt B b q1 cs w (((bs ++ A1) ++ A2) ++ A3) wc))
 case first =>
  by_cases hc : kk = 4
  rotate_left
  ·rw [decide_eq_false hc]
   have EA : A3 = [] := by rw [← hA3.out]; exact if_neg hc
   have DS : Hid (DlSt B b q1 cs w (((bs ++ A1) ++ A2) ++ A3) w501) := ⟨⟨_, by rw [EA, List.append_nil]; exact WB.out⟩, WW.out, BX.out⟩
   go_wp2
   go_meet
   case rel => exact ⟨rfl, DS⟩
  rw [decide_eq_true hc]
  obtain ⟨X, hX⟩ : ∃ y, Hid (Lib.itoa ff = y) := ⟨_, rfl⟩
  have EA : Hid (A3 = [32, 111, 102, 32] ++ X) := by rw [← hA3.out, ← hX.out]; exact if_pos hc
  rw [EA.out] at HM
  have f16 := F16.out
  go_upto_region 5 with (fail)
  refine lbeg (opsOf Tryz.f34 5) ?_
  refine lnow 0 (.pointer (some ⟨b, 0, none⟩)) (some 27) ?_
  refine lnow 1 (.pointer (some ⟨q1, 13, none⟩)) (some 28) ?_
  refine lcl 2 (.int .i64 ff) (some 29) 3 28 q1 13 (by rw [← hff.out]; exact FO.out.f BX.out) Tryz.underlying3 ?_
  refine lcal 3 63 #[.int .i64 ff] (some 30) _ (itoa_walk ff (by omega) (by omega) w501 (hT.below (by rw [hB]; exact BE0.out.trans WW.out.low))) ?_
  rintro e w11 ⟨rfl, hb⟩
  refine ⟨_, rfl, ?_⟩
  rw [hX.out]
  replace WB := Lib.hid (WB.out.below hb)
  replace WW := Lib.hid (WW.out.trans (WS.of_below hb SW.out))
  replace SW : Hid (B ≤ w11.heap.size) := Nat.le_trans SW.out hb.size
  replace BX := Lib.hid (BX.out.below hb BX.out.lt)
  clear hb
  obtain ⟨q12, hq12⟩ : ∃ y, Hid (w11.heap.size = y) := ⟨_, rfl⟩
  refine lin_row 4 9 ([[32, 111, 102, 32], X].map sT) q12 2 (some 31) (by kernel_rfl) (by kernel_rfl) hq12 (exec_of _ _ (by kernel_rfl) (run_bs2 ([32, 111, 102, 32]) (X) _)) ?_
  intro w13 b1 e1 s1
  rw [← hq12.out] at e1
  replace WB := Lib.hid (WB.out.below e1)
  replace WW := Lib.hid (WW.out.trans (WS.of_below e1 SW.out))
  replace SW : Hid (B ≤ w13.heap.size) := Nat.le_trans SW.out e1.size
  replace BX := Lib.hid (BX.out.below e1 BX.out.lt)
  have RW := Lib.hid b1
  clear b1 e1 s1 hq12
  refine lcal 5 35 #[.pointer (some ⟨b, 0, none⟩), .slice (some ⟨q12, 0, none⟩) 2 2] (some 32) _ (put_here (xs := [[32, 111, 102, 32], X]) 2 ([32, 111, 102, 32] ++ (X)) WB.out RW.out rfl (by simp) (by omega) (by have h9 := HM.out; simp only [List.length_append, List.length_cons, List.length_nil] at h9 ⊢; omega)) ?_
  rintro e w14 ⟨rfl, hw, hs⟩
  refine ⟨_, rfl, ?_⟩
  clear RW
  replace BX := Lib.hid (hs.blk BX.out (WB.out.ne BX.out (by decide)) (by decide))
  replace WB := Lib.hid hw
  replace WW := Lib.hid (WW.out.trans hs)
  replace SW : Hid (B ≤ w14.heap.size) := Nat.le_trans SW.out hs.low.size
  clear hw hs
  refine ldn 6 ?_
  generalize hact : Act.put _ (some 32) _ = act
  simp only [Act.put, sA, sC, sZ] at hact
  subst hact
  have DS : Hid (DlSt B b q1 cs w (((bs ++ A1) ++ A2) ++ A3) w14) := ⟨⟨_, by rw [EA.out]; have h9 := WB.out; (try simp only [List.append_assoc] at h9 ⊢); exact h9⟩, WW.out, BX.out⟩
  go_wp2
  go_meet
  case rel => exact ⟨rfl, DS⟩
 clear WB WW BX SW
 obtain ⟨rfl, hcut⟩ := hcut
 obtain ⟨nv, hwb⟩ := hcut.out.wb
 have WB := Lib.hid hwb
 have WW := Lib.hid hcut.out.ws
 have BX := Lib.hid hcut.out.bx
 obtain ⟨w502, hw502⟩ : ∃ y, y = wc := ⟨_, rfl⟩
 rw [← hw502] at WB WW BX ⊢
 have SW : Hid (B ≤ w502.heap.size) := Nat.le_trans WB.out.ge (Nat.le_of_lt WB.out.lt)
 clear hcut hwb hw502
 go_upto_region 6 with (fail)
 refine lbeg (opsOf Tryz.f34 6) ?_
 refine lnow 0 (.pointer (some ⟨b, 0, none⟩)) (some 33) ?_
 obtain ⟨q15, hq15⟩ : ∃ y, Hid (w502.heap.size = y) := ⟨_, rfl⟩
 refine lin_row 1 9 ([[32, 58, 32]].map sT) q15 1 (some 34) (by kernel_rfl) (by kernel_rfl) hq15 (exec_of _ _ (by kernel_rfl) (run_bs1 ([32, 58, 32]) _)) ?_
 intro w16 b1 e1 s1
 rw [← hq15.out] at e1
 replace WB := Lib.hid (WB.out.below e1)
 replace WW := Lib.hid (WW.out.trans (WS.of_below e1 SW.out))
 replace SW : Hid (B ≤ w16.heap.size) := Nat.le_trans SW.out e1.size
 replace BX := Lib.hid (BX.out.below e1 BX.out.lt)
 have RW := Lib.hid b1
 clear b1 e1 s1 hq15
 refine lcal 2 35 #[.pointer (some ⟨b, 0, none⟩), .slice (some ⟨q15, 0, none⟩) 1 1] (some 35) _ (put_here (xs := [[32, 58, 32]]) 1 ([32, 58, 32]) WB.out RW.out rfl (by simp) (by omega) (by have h9 := HM.out; simp only [List.length_append, List.length_cons, List.length_nil] at h9 ⊢; omega)) ?_
 rintro e w17 ⟨rfl, hw, hs⟩
 refine ⟨_, rfl, ?_⟩
 clear RW
 replace BX := Lib.hid (hs.blk BX.out (WB.out.ne BX.out (by decide)) (by decide))
 replace WB := Lib.hid hw
 replace WW := Lib.hid (WW.out.trans hs)
 replace SW : Hid (B ≤ w17.heap.size) := Nat.le_trans SW.out hs.low.size
 clear hw hs
 refine ldn 3 ?_
 generalize hact : Act.put _ (some 35) _ = act
 simp only [Act.put, sA, sC, sZ] at hact
 subst hact
 go_upto_region 7 with (fail)
 refine lbeg (opsOf Tryz.f34 7) ?_
 refine lnow 0 (.pointer (some ⟨b, 0, none⟩)) (some 36) ?_
 refine lnow 1 (.pointer (some ⟨q1, 3, none⟩)) (some 37) ?_
 refine lrl 2 tc (some 38) 25 37 q1 3 (FO.out.tr BX.out) Tryz.underlying25 (t5Size FO.out.t5) ?_
 refine lcal 3 24 #[.pointer (some ⟨b, 0, none⟩), .agg tc.toArray] (some 39) _ (whole_walkH B w0 hB hT b _ d.ty tc HTY.out (SM.out.ty) (FM.out.ty) _ w17 (BE0.out.trans WW.out.low) WB.out (by rw [hA5.out]; have h9 := HM.out; simp only [List.length_append, List.length_cons, List.length_nil] at h9 ⊢; omega)) ?_
 rintro e w18 ⟨rfl, nv, hw, hs⟩
 refine ⟨_, rfl, ?_⟩
 rw [hA5.out] at hw
 replace BX := Lib.hid (hs.blk BX.out (WB.out.ne BX.out (by decide)) (by decide))
 replace WB := Lib.hid hw
 replace WW := Lib.hid (WW.out.trans hs)
 replace SW : Hid (B ≤ w18.heap.size) := Nat.le_trans SW.out hs.low.size
 clear hw hs
 refine ldn 4 ?_
 generalize hact : Act.put _ (some 39) _ = act
 simp only [Act.put, sA, sC, sZ] at hact
 subst hact
 rw [hkk.out] at hA6
 have k0 : w18.cell? ⟨q1, 0, none⟩ = some (.int .i64 kk) := by rw [← hkk.out]; exact FO.out.k BX.out
 go_upto_region 8 with (fail)
 go_cut [47] from 7 (fun sv wc => sv = .bool (decide (kk = 2 ∨ kk = 3)) ∧ w18 = wc)
 case first =>
  by_cases ha : kk = 2
  ·skip
   refine lbeg (opsOf Tryz.f34 8) ?_
   refine lnow 0 (.pointer (some ⟨q1, 0, none⟩)) (some 40) ?_
   refine lcl 1 (.int .i64 kk) (some 41) 3 40 q1 0 (k0) Tryz.underlying3 ?_
   refine lnowP 2 (.bool true) (some 42) (exec_eqli_yes ha (by kernel_rfl)) ?_
   refine lnow 3 (.bool true) (some 43) ?_
   refine lpas 4 (some 44) ?_
   refine lpas 5 (some 45) ?_
   refine lpas 6 (some 46) ?_
   refine lnow 7 (.bool true) (some 47) ?_
   refine ldn 8 ?_
   generalize hact : Act.put _ (some 47) _ = act
   simp only [Act.put, sA, sC, sZ] at hact
   subst hact
   go_wp2
   go_meet
   case rel => exact ⟨by rw [decide_eq_true (.inl ha)], rfl⟩
  refine lbeg (opsOf Tryz.f34 8) ?_
  refine lnow 0 (.pointer (some ⟨q1, 0, none⟩)) (some 40) ?_
  refine lcl 1 (.int .i64 kk) (some 41) 3 40 q1 0 (k0) Tryz.underlying3 ?_
  refine lnowP 2 (.bool false) (some 42) (exec_eqli ha (by kernel_rfl)) ?_
  refine lnow 3 (.bool false) (some 43) ?_
  refine lnow 4 (.pointer (some ⟨q1, 0, none⟩)) (some 44) ?_
  refine lcl 5 (.int .i64 kk) (some 45) 3 44 q1 0 (k0) Tryz.underlying3 ?_
  refine lnow 6 (.bool (decide (kk = 3))) (some 46) ?_
  refine lnow 7 (.bool (decide (kk = 3))) (some 47) ?_
  refine ldn 8 ?_
  generalize hact : Act.put _ (some 47) _ = act
  simp only [Act.put, sA, sC, sZ] at hact
  subst hact
  go_wp2
  go_meet
  case rel => exact ⟨by by_cases hb2 : kk = 3; rw [decide_eq_true hb2, decide_eq_true (.inr hb2)]; rw [decide_eq_false hb2, decide_eq_false (fun e => e.elim ha hb2)], rfl⟩
 obtain ⟨rfl, rfl⟩ := hcut
 clear k0
 go_upto_if 47 with (fail)
 go_cut [3] from 7 (fun s3 wc => s3 = .pointer (some ⟨q1, 0, none⟩) ∧ Hid (DlSt B b q1 cs w ((((((bs ++ A1) ++ A2) ++ A3 ++ ([32, 58, 32]))) ++ A5) ++ A6) wc))
 case first =>
  by_cases hc : kk = 2 ∨ kk = 3
  rotate_left
  ·rw [decide_eq_false hc]
   have EA : A6 = [] := by rw [← hA6.out]; exact if_neg hc
   have DS : Hid (DlSt B b q1 cs w ((((((bs ++ A1) ++ A2) ++ A3 ++ ([32, 58, 32]))) ++ A5) ++ A6) w18) := ⟨⟨_, by rw [EA, List.append_nil]; exact WB.out⟩, WW.out, BX.out⟩
   go_wp2
   go_meet
   case rel => exact ⟨rfl, DS⟩
  rw [decide_eq_true hc]
  obtain ⟨X, hX⟩ : ∃ y, Hid (wlT d.val = y) := ⟨_, rfl⟩
  have EA : Hid (A6 = [32, 58, 61, 32] ++ X) := by rw [← hA6.out, ← hX.out]; exact if_pos hc
  rw [EA.out] at HM
  have HCK := Lib.hid hc
  clear hc
  go_upto_region 9 with (fail)
  refine lbeg (opsOf Tryz.f34 9) ?_
  refine lnow 0 (.pointer (some ⟨b, 0, none⟩)) (some 48) ?_
  obtain ⟨q19, hq19⟩ : ∃ y, Hid (w18.heap.size = y) := ⟨_, rfl⟩
  refine lin_row 1 9 ([[32, 58, 61, 32]].map sT) q19 1 (some 49) (by kernel_rfl) (by kernel_rfl) hq19 (exec_of _ _ (by kernel_rfl) (run_bs1 ([32, 58, 61, 32]) _)) ?_
  intro w20 b1 e1 s1
  rw [← hq19.out] at e1
  replace WB := Lib.hid (WB.out.below e1)
  replace WW := Lib.hid (WW.out.trans (WS.of_below e1 SW.out))
  replace SW : Hid (B ≤ w20.heap.size) := Nat.le_trans SW.out e1.size
  replace BX := Lib.hid (BX.out.below e1 BX.out.lt)
  have RW := Lib.hid b1
  clear b1 e1 s1 hq19
  refine lcal 2 35 #[.pointer (some ⟨b, 0, none⟩), .slice (some ⟨q19, 0, none⟩) 1 1] (some 50) _ (put_here (xs := [[32, 58, 61, 32]]) 1 ([32, 58, 61, 32]) WB.out RW.out rfl (by simp) (by omega) (by have h9 := HM.out; simp only [List.length_append, List.length_cons, List.length_nil] at h9 ⊢; omega)) ?_
  rintro e w21 ⟨rfl, hw, hs⟩
  refine ⟨_, rfl, ?_⟩
  clear RW
  replace BX := Lib.hid (hs.blk BX.out (WB.out.ne BX.out (by decide)) (by decide))
  replace WB := Lib.hid hw
  replace WW := Lib.hid (WW.out.trans hs)
  replace SW : Hid (B ≤ w21.heap.size) := Nat.le_trans SW.out hs.low.size
  clear hw hs
  refine ldn 3 ?_
  generalize hact : Act.put _ (some 50) _ = act
  simp only [Act.put, sA, sC, sZ] at hact
  subst hact
  go_upto_region 10 with (fail)
  refine lbeg (opsOf Tryz.f34 10) ?_
  refine lnow 0 (.pointer (some ⟨b, 0, none⟩)) (some 51) ?_
  refine lnow 1 (.pointer (some ⟨q1, 8, none⟩)) (some 52) ?_
  refine lrl 2 vc (some 53) 25 52 q1 8 (FO.out.vr BX.out) Tryz.underlying25 (t5Size FO.out.v5) ?_
  refine lcal 3 24 #[.pointer (some ⟨b, 0, none⟩), .agg vc.toArray] (some 54) _ (whole_walkH B w0 hB hT b _ d.val vc HVL.out (SM.out.val) (FM.out.val (by rw [hkk.out]; exact HCK.out)) _ w21 (BE0.out.trans WW.out.low) WB.out (by rw [hX.out]; have h9 := HM.out; simp only [List.length_append, List.length_cons, List.length_nil] at h9 ⊢; omega)) ?_
  rintro e w22 ⟨rfl, nv, hw, hs⟩
  refine ⟨_, rfl, ?_⟩
  rw [hX.out] at hw
  replace BX := Lib.hid (hs.blk BX.out (WB.out.ne BX.out (by decide)) (by decide))
  replace WB := Lib.hid hw
  replace WW := Lib.hid (WW.out.trans hs)
  replace SW : Hid (B ≤ w22.heap.size) := Nat.le_trans SW.out hs.low.size
  clear hw hs
  refine ldn 4 ?_
  generalize hact : Act.put _ (some 54) _ = act
  simp only [Act.put, sA, sC, sZ] at hact
  subst hact
  have DS : Hid (DlSt B b q1 cs w ((((((bs ++ A1) ++ A2) ++ A3 ++ ([32, 58, 32]))) ++ A5) ++ A6) w22) := ⟨⟨_, by rw [EA.out]; have h9 := WB.out; (try simp only [List.append_assoc] at h9 ⊢); exact h9⟩, WW.out, BX.out⟩
  go_wp2
  go_meet
  case rel => exact ⟨rfl, DS⟩
 clear WB WW BX SW
 obtain ⟨rfl, hcut⟩ := hcut
 obtain ⟨nv, hwb⟩ := hcut.out.wb
 have WB := Lib.hid hwb
 have WW := Lib.hid hcut.out.ws
 have BX := Lib.hid hcut.out.bx
 obtain ⟨w503, hw503⟩ : ∃ y, y = wc := ⟨_, rfl⟩
 rw [← hw503] at WB WW BX ⊢
 have SW : Hid (B ≤ w503.heap.size) := Nat.le_trans WB.out.ge (Nat.le_of_lt WB.out.lt)
 clear hcut hwb hw503
 obtain ⟨ca, cc, hcv⟩ := HCT.out.slice
 subst hcv
 obtain ⟨N, hN⟩ : ∃ y, Hid (d.ctors.length = y) := ⟨_, rfl⟩
 have N8 : Hid (N ≤ 8) := by rw [← hN.out]; exact FM.out.num
 rw [hN.out] at HCT FO
 have CV : Hid (w503.cell? ⟨q1, 14, none⟩ = some (.slice ca N cc)) := FO.out.c BX.out
 go_upto_region 11 with (fail)
 refine lbeg (opsOf Tryz.f34 11) ?_
 refine lnow 0 (sT [32, 119, 105, 116, 104, 32]) (some 4) ?_
 refine ldn 1 ?_
 generalize hact : Act.put _ (some 4) _ = act
 simp only [Act.put, sA, sC, sZ] at hact
 subst hact
 go_upto_region 12 with (fail)
 refine lbeg (opsOf Tryz.f34 12) ?_
 refine lnow 0 (.pointer (some ⟨q1, 14, none⟩)) (some 55) ?_
 refine lcl 1 (.slice ca N cc) (some 56) 44 55 q1 14 CV.out Tryz.underlying44 ?_
 refine lnow 2 (.int .i64 (N : Int)) (some 57) ?_
 refine lnow 3 (.int .i64 0) (some 58) ?_
 refine ldn 4 ?_
 generalize hact : Act.put _ (some 58) _ = act
 simp only [Act.put, sA, sC, sZ] at hact
 subst hact
 have n8 := N8.out
 clear CV
 obtain ⟨EE, hEE⟩ : ∃ y, Hid (((((((bs ++ A1) ++ A2) ++ A3 ++ ([32, 58, 32]))) ++ A5) ++ A6) = y) := ⟨_, Lib.hid rfl⟩
 have EEL : Hid (EE.length + (A7.length + 1) ≤ MB) := by rw [← hEE.out]; have h9 := HM.out; rw [Hid]; simp only [List.length_append, List.length_cons, List.length_nil] at h9 ⊢; omega
 rw [hEE.out] at WB
 go_wp2
 go_loopw [4, 58] (fun av iv wr => ∃ i : Nat, i ≤ N ∧ iv = .int .i64 (i : Int) ∧ av = sT (ahT i) ∧ Hid (DlSt B b q1 cs w (EE ++ ctsF 0 (d.ctors.take i)) wr)) (fun _ iv _ => N - (intOf iv).toNat)
 case atStart => exact ⟨0, Nat.zero_le _, rfl, rfl, ⟨⟨_, by rw [List.take_zero]; show Wb B b nv (EE ++ []) _; rw [List.append_nil]; exact WB.out⟩, WW.out, BX.out⟩⟩
 case round =>
  obtain ⟨i, hi, rfl, rfl, DS⟩ := hrel
  clear WB WW BX SW
  obtain ⟨nv, hwb⟩ := DS.out.wb
  have WB := Lib.hid hwb
  have WW := Lib.hid DS.out.ws
  have BX := Lib.hid DS.out.bx
  have SW : Hid (B ≤ wr.heap.size) := Nat.le_trans hwb.ge (Nat.le_of_lt hwb.lt)
  clear DS hwb
  have n8 := N8.out
  by_cases hlt : i < N
  rotate_left
  ·skip
   obtain rfl : i = N := by omega
   rw [List.take_of_length_le (by rw [hN.out]; exact Nat.le_refl _), hA7.out] at WB
   go_upto_region 13 with (fail)
   refine lbeg (opsOf Tryz.f34 13) ?_
   refine lnow 0 (.bool (decide ((i : Int) < (i : Int)))) (some 59) ?_
   rw [decide_eq_false (by omega : ¬ (i : Int) < (i : Int))]
   refine ldn 1 ?_
   generalize hact : Act.put _ (some 59) _ = act
   simp only [Act.put, sA, sC, sZ] at hact
   subst hact
   go_upto_region 19 with (fail)
   refine lbeg (opsOf Tryz.f34 19) ?_
   refine lnow 0 (.pointer (some ⟨b, 0, none⟩)) (some 73) ?_
   obtain ⟨q23, hq23⟩ : ∃ y, Hid (wr.heap.size = y) := ⟨_, rfl⟩
   refine lin_row 1 9 ([[59]].map sT) q23 1 (some 74) (by kernel_rfl) (by kernel_rfl) hq23 (exec_of _ _ (by kernel_rfl) (run_bs1 ([59]) _)) ?_
   intro w24 b1 e1 s1
   rw [← hq23.out] at e1
   replace WB := Lib.hid (WB.out.below e1)
   replace WW := Lib.hid (WW.out.trans (WS.of_below e1 SW.out))
   replace SW : Hid (B ≤ w24.heap.size) := Nat.le_trans SW.out e1.size
   replace BX := Lib.hid (BX.out.below e1 BX.out.lt)
   have RW := Lib.hid b1
   clear b1 e1 s1 hq23
   refine lcal 2 35 #[.pointer (some ⟨b, 0, none⟩), .slice (some ⟨q23, 0, none⟩) 1 1] (some 75) _ (put_here (xs := [[59]]) 1 ([59]) WB.out RW.out rfl (by simp) (by omega) (by have h9 := EEL.out; simp only [List.length_append, List.length_cons, List.length_nil]; omega)) ?_
   rintro e w25 ⟨rfl, hw, hs⟩
   refine ⟨_, rfl, ?_⟩
   clear RW
   replace BX := Lib.hid (hs.blk BX.out (WB.out.ne BX.out (by decide)) (by decide))
   replace WB := Lib.hid hw
   replace WW := Lib.hid (WW.out.trans hs)
   replace SW : Hid (B ≤ w25.heap.size) := Nat.le_trans SW.out hs.low.size
   clear hw hs
   refine ldn 3 ?_
   generalize hact : Act.put _ (some 75) _ = act
   simp only [Act.put, sA, sC, sZ] at hact
   subst hact
   have FIN : Hid (Wb B b nv (bs ++ (A1 ++ (A2 ++ (A3 ++ ([32, 58, 32] ++ (A5 ++ (A6 ++ (A7 ++ [59])))))))) w25 ∧ WS B b w w25) := ⟨by have h9 := WB.out; rw [← hEE.out] at h9; (try simp only [List.append_assoc] at h9 ⊢); exact h9, WW.out⟩
   clear WB
   go_wp2
   go_end0
   exact ⟨rfl, _, FIN.out⟩
  obtain ⟨c, pb, po, xs, hcx, hcm, hca, -, hpb, hrg, hcat⟩ := HCT.out.get hN.out hlt
  subst hca
  have RG := Lib.hid (rng_low hrg (BE0.out.trans WW.out.low) (by rw [hB] at hpb; exact hpb))
  have CA := Lib.hid hcat
  have C5 := Lib.hid hcat.len
  have CX := Lib.hid hcx
  have CM := Lib.hid hcm
  clear hrg hcat hcx hcm
  obtain ⟨nc, hnc⟩ : ∃ y, Hid (c.1 = y) := ⟨_, rfl⟩
  obtain ⟨X, hX⟩ : ∃ y, Hid (wlT c.2 = y) := ⟨_, rfl⟩
  obtain ⟨ah, hah⟩ : ∃ y, Hid (ahT i = y) := ⟨_, rfl⟩
  have TS : Hid (ctsF 0 (d.ctors.take (i + 1)) = ctsF 0 (d.ctors.take i) ++ (ah ++ (nc ++ ([32, 58, 32] ++ X)))) := by rw [Hid, take_snoc CX.out, ctsF_snoc, List.length_take, hN.out, Nat.min_eq_left (by omega), Nat.zero_add, ctT, hah.out, hnc.out, hX.out]
  have TL : Hid (EE.length + (ctsF 0 (d.ctors.take i) ++ (ah ++ (nc ++ ([32, 58, 32] ++ X)))).length ≤ MB) := by rw [← TS.out]; have h8 := EEL.out; have h9 := ctsF_le d.ctors (i + 1) 0; rw [hA7.out] at h9; rw [Hid]; omega
  rw [hah.out]
  rw [hnc.out] at RG
  go_upto_region 13 with (fail)
  refine lbeg (opsOf Tryz.f34 13) ?_
  refine lnow 0 (.bool (decide ((i : Int) < (N : Int)))) (some 59) ?_
  rw [decide_eq_true (by omega : (i : Int) < (N : Int))]
  refine ldn 1 ?_
  generalize hact : Act.put _ (some 59) _ = act
  simp only [Act.put, sA, sC, sZ] at hact
  subst hact
  obtain ⟨z, hz⟩ : ∃ z, Hid (wr.heap.size = z) := ⟨_, rfl⟩
  go_upto_region 14 with (fail)
  refine lbeg (opsOf Tryz.f34 14) ?_
  refine lix 0 (.pointer (some ⟨pb, po + 6 * i, none⟩)) (some 60) 44 56 58 (run_at_ctr pb po N cc i hlt _) ?_
  refine lrl 1 (sT nc :: xs) (some 61) 56 60 pb (po + 6 * i) RG.out Tryz.underlying56 (infoCtS (by rw [List.length_cons, C5.out])) ?_
  refine lall 2 56 zCt z (some 6) hz ?_
  intro w301 b3 e3 s3
  refine lput 3 56 (.tmp 6) (.tmp 61) z _ zCt (sT nc :: xs) b3 (by rw [List.length_cons, C5.out]; rfl) (infoCtS (by rw [List.length_cons, C5.out])) (by simpa using (fun u hu => by rcases List.mem_cons.1 hu with rfl | hu; rfl; exact CA.out.one u hu : ∀ u ∈ sT nc :: xs, u.oneCell' = true)) ?_
  intro w302 b4 u4
  refine ldn 4 ?_
  generalize hact : Act.put _ none _ = act
  simp only [Act.put, sA, sC, sZ] at hact
  subst hact
  have E34 : Below wr.heap.size wr w302 := by rw [hz.out]; exact u4.below e3 (Nat.le_refl _) (by have := b3.lt; omega)
  replace WB := Lib.hid (WB.out.below E34)
  replace WW := Lib.hid (WW.out.trans (WS.of_below E34 SW.out))
  replace SW : Hid (B ≤ w302.heap.size) := Nat.le_trans SW.out E34.size
  replace BX := Lib.hid (BX.out.below E34 BX.out.lt)
  have BZ := Lib.hid b4
  clear b3 e3 s3 b4 u4 E34 hz RG
  go_upto_region 15 with (fail)
  refine lbeg (opsOf Tryz.f34 15) ?_
  refine lnow 0 (.pointer (some ⟨b, 0, none⟩)) (some 62) ?_
  refine lnow 1 (sT ah) (some 63) ?_
  refine lnow 2 (.pointer (some ⟨z, 0, none⟩)) (some 64) ?_
  refine lcl 3 (sT nc) (some 65) 9 64 z 0 (BZ.out.cell rfl) Tryz.underlying9 ?_
  obtain ⟨q43, hq43⟩ : ∃ y, Hid (w302.heap.size = y) := ⟨_, rfl⟩
  refine lin_row 4 9 ([ah, nc, [32, 58, 32]].map sT) q43 3 (some 66) (by kernel_rfl) (by kernel_rfl) hq43 (exec_of _ _ (by kernel_rfl) (run_bs3 (ah) (nc) ([32, 58, 32]) _)) ?_
  intro w44 b1 e1 s1
  rw [← hq43.out] at e1
  replace WB := Lib.hid (WB.out.below e1)
  replace WW := Lib.hid (WW.out.trans (WS.of_below e1 SW.out))
  replace SW : Hid (B ≤ w44.heap.size) := Nat.le_trans SW.out e1.size
  replace BX := Lib.hid (BX.out.below e1 BX.out.lt)
  replace BZ := Lib.hid (BZ.out.below e1 BZ.out.lt)
  have RW := Lib.hid b1
  clear b1 e1 s1 hq43
  refine lcal 5 35 #[.pointer (some ⟨b, 0, none⟩), .slice (some ⟨q43, 0, none⟩) 3 3] (some 67) _ (put_here (xs := [ah, nc, [32, 58, 32]]) 3 (ah ++ (nc ++ ([32, 58, 32]))) WB.out RW.out rfl (by simp) (by omega) (by have h9 := TL.out; simp only [List.length_append, List.length_cons, List.length_nil] at h9 ⊢; omega)) ?_
  rintro e w45 ⟨rfl, hw, hs⟩
  refine ⟨_, rfl, ?_⟩
  clear RW
  replace BX := Lib.hid (hs.blk BX.out (WB.out.ne BX.out (by decide)) (by decide))
  replace BZ := Lib.hid (hs.blk BZ.out (WB.out.ne BZ.out (by decide)) (by decide))
  replace WB := Lib.hid hw
  replace WW := Lib.hid (WW.out.trans hs)
  replace SW : Hid (B ≤ w45.heap.size) := Nat.le_trans SW.out hs.low.size
  clear hw hs
  refine ldn 6 ?_
  generalize hact : Act.put _ (some 67) _ = act
  simp only [Act.put, sA, sC, sZ] at hact
  subst hact
  go_upto_region 16 with (fail)
  refine lbeg (opsOf Tryz.f34 16) ?_
  refine lnow 0 (.pointer (some ⟨b, 0, none⟩)) (some 68) ?_
  refine lnow 1 (.pointer (some ⟨z, 1, none⟩)) (some 69) ?_
  refine lrl 2 xs (some 70) 25 69 z 1 (cons_range BZ.out) Tryz.underlying25 (t5Size C5.out) ?_
  refine lcal 3 24 #[.pointer (some ⟨b, 0, none⟩), .agg xs.toArray] (some 71) _ (whole_walkH B w0 hB hT b _ c.2 xs CA.out (SM.out.ctors c CM.out).2 (FM.out.ctors c CM.out).2 _ w45 (BE0.out.trans WW.out.low) WB.out (by rw [hX.out]; have h9 := TL.out; simp only [List.length_append, List.length_cons, List.length_nil] at h9 ⊢; omega)) ?_
  rintro e w46 ⟨rfl, nv2, hw, hs⟩
  refine ⟨_, rfl, ?_⟩
  rw [hX.out] at hw
  replace BX := Lib.hid (hs.blk BX.out (WB.out.ne BX.out (by decide)) (by decide))
  replace WW := Lib.hid (WW.out.trans hs)
  have DS : Hid (DlSt B b q1 cs w (EE ++ ctsF 0 (d.ctors.take (i + 1))) w46) := ⟨⟨_, by rw [TS.out]; have h9 := hw; (try simp only [List.append_assoc] at h9 ⊢); exact h9⟩, WW.out, BX.out⟩
  clear hw hs WB BZ SW TS TL
  refine ldn 4 ?_
  generalize hact : Act.put _ (some 71) _ = act
  simp only [Act.put, sA, sC, sZ] at hact
  subst hact
  go_upto_region 17 with (fail)
  refine lbeg (opsOf Tryz.f34 17) ?_
  refine lnow 0 (sT [32, 124, 32]) (some 4) ?_
  refine ldn 1 ?_
  generalize hact : Act.put _ (some 4) _ = act
  simp only [Act.put, sA, sC, sZ] at hact
  subst hact
  go_upto_region 18 with (fail)
  refine lbeg (opsOf Tryz.f34 18) ?_
  refine lnow 0 (.int .i64 (IntKind.i64.wrap ((i : Int) + 1))) (some 72) ?_
  rw [show IntKind.i64.wrap ((i : Int) + 1) = ((i + 1 : Nat) : Int) from (IntWalk.i64_in _ (by omega)).trans (by omega)]
  refine lnow 1 (.int .i64 ((i + 1 : Nat) : Int)) (some 58) ?_
  refine ldn 2 ?_
  generalize hact : Act.put _ (some 58) _ = act
  simp only [Act.put, sA, sC, sZ] at hact
  subst hact
  skip
  go_wp2
  go_roundw
  case rel => exact ⟨i + 1, by omega, rfl, rfl, DS⟩
  case measure => simp [intOf]; omega
end Go.Proofs.YtmceocgddaaohaaGreatDoor
