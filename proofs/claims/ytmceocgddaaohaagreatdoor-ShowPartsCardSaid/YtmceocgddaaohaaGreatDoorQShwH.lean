/- Package show: the names x0, x1, .. that are free. -/
import Derived.Test.YtmceocgddaaohaaGreatDoorQGenT
import Derived.Test.YtmceocgddaaohaaGreatDoorQShwB
import Derived.Test.YtmceocgddaaohaaGreatDoorQShwF
import Derived.Test.YtmceocgddaaohaaGreatDoorQShwG
namespace Go.Proofs.YtmceocgddaaohaaGreatDoor
open Go Go.RowKit
set_option maxRecDepth 100000
def xN (n : Nat) : List UInt8 := 120 :: Lib.itoa (n : Int)
theorem xN_inj {m n : Nat} (h : xN m = xN n) : m = n := by
 have := itoa_inj (m := (m : Int)) (n := (n : Int)) (by omega) (by omega) (List.cons.inj h).2
 omega
/-- Those of the first i names that are not taken. -/
def frL (tk : List (List UInt8)) : Nat → List (List UInt8)
 | 0 => []
 | i + 1 => if xN i ∈ tk then frL tk i else frL tk i ++ [xN i]
def cntL (tk : List (List UInt8)) : Nat → Nat
 | 0 => 0
 | i + 1 => if xN i ∈ tk then cntL tk i + 1 else cntL tk i
theorem frL_cnt (tk : List (List UInt8)) : ∀ i, (frL tk i).length + cntL tk i = i
 | 0 => rfl
 | i + 1 => by
  have := frL_cnt tk i
  rw [frL, cntL]
  split
  ·omega
  ·rw [List.length_append, List.length_singleton]; omega
theorem cntL_cons (s : List UInt8) (tk : List (List UInt8)) : ∀ i, cntL (s :: tk) i ≤ cntL tk i + 1 ∧ ((∀ j, j < i → xN j ≠ s) → cntL (s :: tk) i ≤ cntL tk i)
 | 0 => ⟨Nat.zero_le _, fun _ => Nat.le_refl _⟩
 | i + 1 => by
  obtain ⟨h1, h2⟩ := cntL_cons s tk i
  rw [cntL, cntL]
  by_cases hs : xN i = s
  ·have h3 := h2 (fun j hj e => by have := xN_inj (e.trans hs.symm); omega)
   refine ⟨?_, fun h => absurd hs (h i (Nat.lt_succ_self i))⟩
   rw [if_pos (by rw [hs]; simp)]
   split <;> omega
  ·by_cases ht : xN i ∈ tk
   ·rw [if_pos (List.mem_cons_of_mem _ ht), if_pos ht]
    exact ⟨by omega, fun h => by have := h2 (fun j hj => h j (by omega)); omega⟩
   ·rw [if_neg (fun hc => (List.mem_cons.1 hc).elim hs ht), if_neg ht]
    exact ⟨h1, fun h => h2 (fun j hj => h j (by omega))⟩
theorem cntL_le : ∀ (tk : List (List UInt8)) (i : Nat), cntL tk i ≤ tk.length
 | [], i => by
  induction i with
  | zero => exact Nat.le_refl _
  | succ i ih => rw [cntL, if_neg (by simp)]; exact ih
 | s :: tk, i => by
  have := (cntL_cons s tk i).1
  have := cntL_le tk i
  rw [List.length_cons]
  omega
theorem frL_more (tk : List (List UInt8)) (i : Nat) : i ≤ (frL tk i).length + tk.length := by
 have := frL_cnt tk i
 have := cntL_le tk i
 omega
theorem frL_pre (tk : List (List UInt8)) {i j : Nat} (h : i ≤ j) : frL tk i <+: frL tk j := by
  induction j with
  | zero => obtain rfl : i = 0 := by omega
            exact List.prefix_rfl
  | succ j ih =>
    by_cases e : i = j + 1
    · rw [e]; exact List.prefix_rfl
    · rw [frL]
      split
      · exact ih (by omega)
      · exact (ih (by omega)).trans (List.prefix_append _ _)
/-- The free name of place k. -/
def frN (tk : List (List UInt8)) (k : Nat) : List UInt8 := (frL tk (k + 1 + tk.length)).getD k []
theorem frN_at (tk : List (List UInt8)) {i : Nat} (h : xN i ∉ tk) : frN tk (frL tk i).length = xN i := by
 have h1 : frL tk (i + 1) = frL tk i ++ [xN i] := by rw [frL, if_neg h]
 have h2 := frL_more tk (i + 1)
 rw [h1, List.length_append, List.length_singleton] at h2
 obtain ⟨r, hr⟩ := frL_pre tk h2
 rw [frN, ← hr, h1, List.getD_eq_getElem?_getD, List.append_assoc, List.getElem?_append_right (Nat.le_refl _), Nat.sub_self]
 rfl
/-- The first n names that are free. -/
def freL (tk : List (List UInt8)) (n : Nat) : List (List UInt8) := (List.range n).map (frN tk)
theorem freL_succ (tk : List (List UInt8)) (n : Nat) : freL tk (n + 1) = freL tk n ++ [frN tk n] := by simp [freL, List.range_succ]
theorem freL_len (tk : List (List UInt8)) (n : Nat) : (freL tk n).length = n := by simp [freL]
theorem exec_skipS {P : Program} {a : Act} {w w' : World} {op : Oper} (s : Sem Unit) (h : execOp a.eval op = (s >>= fun _ => pure .skip)) (hr : s.run P w = .ok () w') : (execOp a.eval op).run P w = .ok .skip w' := by
 rw [h, Sem.run_bind, hr]
 rfl
/-- A slice of strings. -/
def TkAt (w : World) (v : Value) (l : List (List UInt8)) : Prop := ∃ a c, v = .slice a l.length c ∧ (0 < l.length → ∃ b o, a = some ⟨b, o, none⟩ ∧ b < w.heap.size ∧ w.rangeAt b o (l.map sT))
theorem TkAt.below {w w' : World} {v : Value} {l : List (List UInt8)} (h : TkAt w v l) (hb : Below w.heap.size w w') : TkAt w' v l := by
 obtain ⟨a, c, h1, h2⟩ := h
 refine ⟨a, c, h1, fun hp => ?_⟩
 obtain ⟨b, o, h3, h4, h5⟩ := h2 hp
 exact ⟨b, o, h3, Nat.lt_of_lt_of_le h4 hb.size, rng_low h5 hb h4⟩
theorem TkAt.get {w : World} {a : Option Addr} {n c i : Nat} {l : List (List UInt8)} {s : List UInt8} (h : TkAt w (.slice a n c) l) (hi : l[i]? = some s) : ∃ b o, a = some ⟨b, o, none⟩ ∧ b < w.heap.size ∧ w.cell? ⟨b, o + i, none⟩ = some (sT s) := by
 obtain ⟨a', c', h1, h2⟩ := h
 obtain ⟨rfl, -, -⟩ := Value.slice.inj h1
 obtain ⟨b, o, h3, h4, h5⟩ := h2 (by have := (List.getElem?_eq_some_iff.1 hi).1; omega)
 exact ⟨b, o, h3, h4, h5 i _ (by rw [List.getElem?_map, hi]; rfl)⟩
theorem tk_upd {w w' : World} {pb po n c q : Nat} {l : List (List UInt8)} (h : TkAt w (.slice (some ⟨pb, po, none⟩) n c) l) (hu : Upd q w w') (hq : pb ≠ q) : TkAt w' (.slice (some ⟨pb, po, none⟩) n c) l := by
 obtain ⟨a', c', h1, h2⟩ := h
 refine ⟨a', c', h1, fun hp => ?_⟩
 obtain ⟨b, o, e, hb, hr⟩ := h2 hp
 obtain ⟨rfl, -, -⟩ := Value.slice.inj h1
 obtain ⟨rfl, rfl, -⟩ := Addr.mk.inj (Option.some.inj e)
 refine ⟨_, _, rfl, Nat.lt_of_lt_of_le hb hu.size, fun j u hj => ?_⟩
 rw [World.cell?_of_block (w := w) (a := ⟨pb, po + j, none⟩) (hu.block pb hb hq)]
 exact hr j u hj
theorem tk_not_map {w : World} {q po n c : Nat} {l ks : List (List UInt8)} (h : TkAt w (.slice (some ⟨q, po, none⟩) n c) l) (hm : SetS w q ks) (hl : 0 < l.length) : False := by
 obtain ⟨s, hs⟩ : ∃ s, l[0]? = some s := ⟨_, List.getElem?_eq_getElem hl⟩
 obtain ⟨b, o, e, hb, hc⟩ := h.get hs
 obtain ⟨rfl, rfl, -⟩ := Addr.mk.inj (Option.some.inj e)
 obtain ⟨es, clock, kset, h1, -⟩ := hm
 simp [World.cell?, h1] at hc
set_option maxHeartbeats 4000000 in
theorem free_walk (tk : List (List UInt8)) (v : Value) (w : World) (h : TkAt w v tk) (hn : tk.length ≤ 1000000) (hs : ∀ s ∈ tk, s.length ≤ 1000000) : Calls Tryz.prog 43 #[v] w fun e w' => ∃ mb mq, e = .returned (.func (.func 71) #[] #[.pointer (some ⟨mb, 0, none⟩)]) ∧ Blk w' mb 129 [.map (some mq)] ∧ SetS w' mq tk ∧ Below w.heap.size w w' ∧ w.heap.size ≤ mb ∧ w.heap.size ≤ mq := by
 obtain ⟨la, lc, hv⟩ : ∃ la lc, v = .slice la tk.length lc := by obtain ⟨a, c, e, -⟩ := h; exact ⟨a, c, e⟩
 subst hv
 obtain ⟨N, hN⟩ : ∃ y, Hid (tk.length = y) := ⟨_, rfl⟩
 rw [hN.out] at h hn ⊢
 have HI := Lib.hid h
 have HN := Lib.hid hn
 have HS := Lib.hid hs
 obtain ⟨q, hq⟩ : ∃ q, Hid (w.heap.size = q) := ⟨_, rfl⟩
 clear h hs
 go_enter Tryz.func43, Tryz.ntmps43
 go_upto_region 0 with (fail)
 refine lbeg (opsOf Tryz.f43 0) ?_
 refine lnow 0 (.nilFunc) (some 2) ?_
 refine ldn 1 ?_
 generalize hact : Act.put _ (some 2) _ = act
 simp only [Act.put, sA, sC, sZ] at hact
 subst hact
 go_upto_region 1 with (fail)
 refine lbeg (opsOf Tryz.f43 1) ?_
 refine lin_value 0 (.map (some q)) (some 6) (w.alloc (.map #[] 0)) (by kernel_rfl) (by kernel_rfl) (exec_of (Instr.makeMap 129 none) _ (by kernel_rfl) (by rw [← hq.out]; rfl)) ?_
 have e1 : Below q w (w.alloc (.map #[] 0)) := by rw [← hq.out]; exact (Below.refl _ _).alloc (Nat.le_refl _) _
 have s1 : Hid ((w.alloc (.map #[] 0)).heap.size = q + 1) := by rw [Hid, World.size_alloc, hq.out]
 have m1 : SetS (w.alloc (.map #[] 0)) q [] := by rw [← hq.out]; exact SetS.new w
 generalize w.alloc (.map #[] 0) = w1 at e1 s1 m1 ⊢
 refine lin_alloc1 1 129 (.map none) (q + 1) (some 3) (by kernel_rfl) (by kernel_rfl) (by kernel_rfl) (by kernel_rfl) (by rfl) s1 ?_
 intro w2 bw2 bew2 hsw2
 refine lin_put1 2 129 (.tmp 3) (.tmp 6) (q + 1) _ (.map none) (.map (some q)) (by kernel_rfl) (by kernel_rfl) (by kernel_rfl) (by kernel_rfl) (by kernel_rfl) bw2 (by kernel_rfl) (by rfl) (by rfl) ?_
 intro w3 bw3 uw3
 refine ldn 3 ?_
 generalize hact : Act.put _ none _ = act
 simp only [Act.put, sA, sC, sZ] at hact
 subst hact
 have M3 : Hid (SetS w3 q []) := m1.same ((uw3.block q (by have := bew2.size; have := s1.out; omega) (by omega)).trans (bew2.block q (by omega)))
 have B3 := Lib.hid bw3
 have E3 : Hid (Below q w w3) := uw3.below (e1.trans (bew2.mono (by omega))) (by omega) (by have := bew2.size; have := s1.out; omega)
 have HI3 := Lib.hid (HI.out.below (by rw [hq.out]; exact E3.out))
 clear e1 s1 m1 bw2 bew2 hsw2 bw3 uw3 HI
 go_upto_region 2 with (fail)
 refine lbeg (opsOf Tryz.f43 2) ?_
 refine lnow 0 (.slice la N lc) (some 7) ?_
 refine lnow 1 (.int .i64 (N : Int)) (some 8) ?_
 refine lnow 2 (.int .i64 0) (some 9) ?_
 refine ldn 3 ?_
 generalize hact : Act.put _ (some 9) _ = act
 simp only [Act.put, sA, sC, sZ] at hact
 subst hact
 have hn := HN.out
 go_wp2
 go_loopw [9] (fun iv wr => ∃ i : Nat, i ≤ N ∧ iv = .int .i64 (i : Int) ∧ Hid (SetS wr q (tk.take i)) ∧ Hid (Blk wr (q + 1) 129 [.map (some q)]) ∧ Hid (Below q w wr) ∧ Hid (TkAt wr (.slice la N lc) tk)) (fun iv _ => N - (intOf iv).toNat)
 case atStart => exact ⟨0, Nat.zero_le _, rfl, M3, B3, E3, HI3⟩
 case round =>
  obtain ⟨i, hi, rfl, MI, BI, EI, HW⟩ := hrel
  clear M3 B3 E3 HI3
  have hn := HN.out
  by_cases hlt : i < N
  rotate_left
  ·skip
   obtain rfl : i = N := by omega
   have MF : Hid (SetS wr q tk) := by have := MI.out; rw [List.take_of_length_le (by rw [hN.out]; exact Nat.le_refl _)] at this; exact this
   clear MI HW
   go_upto_region 3 with (fail)
   refine lbeg (opsOf Tryz.f43 3) ?_
   refine lnow 0 (.bool (decide ((i : Int) < (i : Int)))) (some 10) ?_
   rw [decide_eq_false (by omega : ¬ (i : Int) < (i : Int))]
   refine ldn 1 ?_
   generalize hact : Act.put _ (some 10) _ = act
   simp only [Act.put, sA, sC, sZ] at hact
   subst hact
   go_upto_region 7 with (fail)
   refine lbeg (opsOf Tryz.f43 7) ?_
   refine lnow 0 (.func (.func 71) #[] #[.pointer (some ⟨q + 1, 0, none⟩)]) (some 17) ?_
   refine lnow 1 (.func (.func 71) #[] #[.pointer (some ⟨q + 1, 0, none⟩)]) (some 2) ?_
   refine ldn 2 ?_
   generalize hact : Act.put _ (some 2) _ = act
   simp only [Act.put, sA, sC, sZ] at hact
   subst hact
   have EF : Hid (Below w.heap.size w wr) := by rw [hq.out]; exact EI.out
   go_wp2
   go_ret
   exact ⟨q + 1, q, rfl, BI.out, MF.out, EF.out, by rw [hq.out]; omega, by rw [hq.out]; exact Nat.le_refl _⟩
  obtain ⟨s, hs⟩ : ∃ s, Hid (tk[i]? = some s) := ⟨_, List.getElem?_eq_getElem (by rw [hN.out]; exact hlt)⟩
  obtain ⟨pb, po, hla, hpb, hcl⟩ := HW.out.get hs.out
  subst hla
  have CL := Lib.hid hcl
  have SL := Lib.hid (HS.out s (List.mem_of_getElem? hs.out))
  clear hcl
  go_upto_region 3 with (fail)
  refine lbeg (opsOf Tryz.f43 3) ?_
  refine lnow 0 (.bool (decide ((i : Int) < (N : Int)))) (some 10) ?_
  rw [decide_eq_true (by omega : (i : Int) < (N : Int))]
  refine ldn 1 ?_
  generalize hact : Act.put _ (some 10) _ = act
  simp only [Act.put, sA, sC, sZ] at hact
  subst hact
  go_upto_region 4 with (fail)
  refine lbeg (opsOf Tryz.f43 4) ?_
  refine lix 0 (.pointer (some ⟨pb, po + i, none⟩)) (some 11) 62 7 9 (run_at_str pb po N lc i hlt _) ?_
  refine lcl 1 (sT s) (some 12) 9 11 pb (po + i) CL.out Tryz.underlying9 ?_
  refine lnow 2 (sT s) (some 5) ?_
  refine ldn 3 ?_
  generalize hact : Act.put _ (some 5) _ = act
  simp only [Act.put, sA, sC, sZ] at hact
  subst hact
  go_upto_region 5 with (fail)
  refine lbeg (opsOf Tryz.f43 5) ?_
  refine lcl 0 (.map (some q)) (some 13) 129 3 (q + 1) 0 (BI.out.cell rfl) Tryz.underlying129 ?_
  refine lnow 1 (sT s) (some 14) ?_
  refine lnow 2 (unitS) (some 15) ?_
  obtain ⟨w4, hr4, m4, u4⟩ := MI.out.add (k := s) (by have := SL.out; unfold maxLen; omega)
  refine lin_store 3 w4 (by kernel_rfl) (by kernel_rfl) (exec_skipS (Instr.mapUpdate 129 (.map (some q)) (sT s) unitS) (by kernel_rfl) hr4) ?_
  refine ldn 4 ?_
  generalize hact : Act.put _ none _ = act
  simp only [Act.put, sA, sC, sZ] at hact
  subst hact
  have M4 : Hid (SetS w4 q (tk.take (i + 1))) := by rw [Hid, take_snoc hs.out]; exact m4
  have B4 := Lib.hid (u4.blk BI.out (by omega))
  have E4 : Hid (Below q w w4) := u4.below EI.out (Nat.le_refl _) (by have := EI.out.size; have := hq.out; omega)
  have H4 : Hid (TkAt w4 (.slice (some ⟨pb, po, none⟩) N lc) tk) := tk_upd HW.out u4 (fun e => by subst e; exact tk_not_map HW.out MI.out (by rw [hN.out]; omega))
  clear m4 u4 hr4 MI BI EI HW CL SL
  go_upto_region 6 with (fail)
  refine lbeg (opsOf Tryz.f43 6) ?_
  refine lnow 0 (.int .i64 (IntKind.i64.wrap ((i : Int) + 1))) (some 16) ?_
  rw [show IntKind.i64.wrap ((i : Int) + 1) = ((i + 1 : Nat) : Int) from (IntWalk.i64_in _ (by omega)).trans (by omega)]
  refine lnow 1 (.int .i64 ((i + 1 : Nat) : Int)) (some 9) ?_
  refine ldn 2 ?_
  generalize hact : Act.put _ (some 9) _ = act
  simp only [Act.put, sA, sC, sZ] at hact
  subst hact
  go_wp2
  go_roundw
  case rel => exact ⟨i + 1, by omega, rfl, M4, B4, E4, H4⟩
  case measure => simp [intOf]; omega
/-- What the iterator reads between two rounds. -/
structure FrE (mb mq : Nat) (tk : List (List UInt8)) (w : World) : Prop where
 box : Blk w mb 129 [.map (some mq)]
 set : SetS w mq tk
 tab : TabW w
theorem FrE.below {mb mq : Nat} {tk : List (List UInt8)} {w w' : World} (h : FrE mb mq tk w) (hb : Below w.heap.size w w') : FrE mb mq tk w' := ⟨h.box.below hb h.box.lt, h.set.below hb, h.tab.below hb⟩
set_option maxHeartbeats 8000000 in
theorem free1_walk (tk : List (List UInt8)) (mb mq l N : Nat) (J Jx : Nat → World → Prop) (hN : 0 < N) (hN2 : N ≤ 1000) (htn : tk.length ≤ 80000) (hJ : ∀ k A B, J k A → Below A.heap.size A B → J k B)
    (hY : ∀ k W1, k < N → J k W1 → YieldAt Fence.wide 0 Tryz.prog l #[sT (frN tk k)] W1 fun e W' => (e = .returned (.bool true) ∧ k + 1 < N ∧ J (k + 1) W' ∧ (FrE mb mq tk W1 → FrE mb mq tk W')) ∨ (e = .returned (.bool false) ∧ Jx (k + 1) W'))
    (W : World) (h0 : J 0 W) (hk : FrE mb mq tk W) : Calls Tryz.prog 71 #[.func (.yield l) #[] #[], .pointer (some ⟨mb, 0, none⟩)] W fun e W' => (∃ v, e = .returned v) ∧ ∃ k, k ≤ N ∧ Jx k W' := by
  have YY := Lib.hid hY
  have HJ := Lib.hid hJ
  have J0 := Lib.hid h0
  have KK := Lib.hid hk
  have N0 := Lib.hid hN
  have N1 := Lib.hid hN2
  have TN := Lib.hid htn
  clear hY hJ h0 hk hN hN2 htn
  go_enter Tryz.func71, Tryz.ntmps71
  go_upto_region 0 with (fail)
  refine lbeg (opsOf Tryz.f71 0) ?_
  refine lnow 0 (.int .i64 0) (some 3) ?_
  refine ldn 1 ?_
  generalize hact : Act.put _ (some 3) _ = act
  simp only [Act.put, sA, sC, sZ] at hact
  subst hact
  go_wp2
  go_loopw [3] (fun iv wr => ∃ i k : Nat, iv = .int .i64 (i : Int) ∧ Hid ((frL tk i).length = k) ∧ Hid (k < N) ∧ Hid (J k wr) ∧ Hid (FrE mb mq tk wr)) (fun iv _ => 100000 - (intOf iv).toNat)
  case atStart => exact ⟨0, 0, rfl, rfl, N0, J0, KK⟩
  case round =>
    obtain ⟨i, k, rfl, FK, KN, JK, FE⟩ := hrel
    clear J0 KK N0
    have hi : i < 90000 := by have h9 := frL_more tk i; rw [FK.out] at h9; have := KN.out; have := N1.out; have := TN.out; omega
    go_upto_region 2 with (fail)
    refine lbeg (opsOf Tryz.f71 2) ?_
    refine lnow 0 (.int .i64 (i : Int)) (some 9) ?_
    refine lcal 1 63 #[.int .i64 (i : Int)] (some 10) _ (itoa_walk (i : Int) (by omega) (by omega) wr FE.out.tab) ?_
    rintro e w2 ⟨rfl, hb2⟩
    refine ⟨_, rfl, ?_⟩
    have JK2 := Lib.hid (HJ.out k wr w2 JK.out hb2)
    have FE2 := Lib.hid (FE.out.below hb2)
    obtain ⟨nm, hnm⟩ : ∃ y, Hid (xN i = y) := ⟨_, rfl⟩
    have NL : Hid (nm.length ≤ 1000) := by rw [← hnm.out]; have := itoa_le (n := (i : Int)) (by omega) (by omega); show (_ :: _).length ≤ 1000; rw [List.length_cons]; omega
    clear hb2 JK FE
    refine lin_now 2 (sT nm) (some 11) (by kernel_rfl) (by kernel_rfl) (by rw [← hnm.out]; exact exec_catS 9 9 (.const (sT [120])) (.tmp 10) (by kernel_rfl) [120] (Lib.itoa (i : Int)) (by kernel_rfl) (by kernel_rfl) (by decide) (by have := itoa_le (n := (i : Int)) (by omega) (by omega); omega)) ?_
    refine lnow 3 (sT nm) (some 4) ?_
    refine ldn 4 ?_
    generalize hact : Act.put _ (some 4) _ = act
    simp only [Act.put, sA, sC, sZ] at hact
    subst hact
    obtain ⟨bo, hbo⟩ : ∃ y, Hid (decide (nm ∈ tk) = y) := ⟨_, rfl⟩
    obtain ⟨z, hz⟩ : ∃ z, Hid (w2.heap.size = z) := ⟨_, rfl⟩
    go_upto_region 3 with (fail)
    refine lbeg (opsOf Tryz.f71 3) ?_
    refine lcl 0 (.map (some mq)) (some 13) 129 1 mb 0 (FE2.out.box.cell rfl) Tryz.underlying129 ?_
    refine lnow 1 (sT nm) (some 14) ?_
    refine lnowP 2 (.tuple #[unitS, .bool bo]) (some 15) (exec_of (Instr.lookup 129 (.map (some mq)) (sT nm) true) _ (by kernel_rfl) ((FE2.out.set.ask (by have := NL.out; unfold maxLen; omega)).trans (by rw [hbo.out]))) ?_
    refine lnow 3 (.tuple #[unitS, .bool bo]) (some 12) ?_
    refine lnow 4 (unitS) (some 16) ?_
    refine lnow 5 (.bool bo) (some 17) ?_
    refine lall 6 130 [] z (some 5) hz ?_
    intro w3 b3 e3 s3
    refine lput 7 130 (.tmp 5) (.tmp 16) z _ [] [] b3 rfl (by kernel_rfl) (by simp) ?_
    intro w4 b4 u4
    refine lnow 8 (.bool bo) (some 6) ?_
    refine ldn 9 ?_
    generalize hact : Act.put _ (some 6) _ = act
    simp only [Act.put, sA, sC, sZ] at hact
    subst hact
    have E4 : Below w2.heap.size w2 w4 := by rw [hz.out]; exact u4.below e3 (Nat.le_refl _) (by have := e3.size; have := hz.out; omega)
    have JK4 := Lib.hid (HJ.out k w2 w4 JK2.out E4)
    have FE4 := Lib.hid (FE2.out.below E4)
    clear b3 e3 s3 b4 u4 E4 JK2 FE2 hz
    cases bo with
    | true =>
      have hin : xN i ∈ tk := by rw [hnm.out]; exact of_decide_eq_true hbo.out
      have FK2 : Hid ((frL tk (i + 1)).length = k) := by rw [Hid, frL, if_pos hin]; exact FK.out
      go_upto_region 4 with (fail)
      refine lbeg (opsOf Tryz.f71 4) ?_
      refine lnow 0 (.bool true) (some 18) ?_
      refine lnow 1 (.bool false) (some 19) ?_
      refine lnow 2 (.bool false) (some 20) ?_
      refine lpas 3 (some 21) ?_
      refine lpas 4 (some 22) ?_
      refine lpas 5 (some 23) ?_
      refine lpas 6 (some 24) ?_
      refine lnow 7 (.bool false) (some 25) ?_
      refine ldn 8 ?_
      generalize hact : Act.put _ (some 25) _ = act
      simp only [Act.put, sA, sC, sZ] at hact
      subst hact
      go_upto_region 1 with (fail)
      refine lbeg (opsOf Tryz.f71 1) ?_
      refine lnow 0 (.int .i64 (i : Int)) (some 7) ?_
      refine lnow 1 (.int .i64 (IntKind.i64.wrap ((i : Int) + 1))) (some 8) ?_
      rw [show IntKind.i64.wrap ((i : Int) + 1) = ((i + 1 : Nat) : Int) from (IntWalk.i64_in _ (by omega)).trans (by omega)]
      refine lnow 2 (.int .i64 ((i + 1 : Nat) : Int)) (some 3) ?_
      refine ldn 3 ?_
      generalize hact : Act.put _ (some 3) _ = act
      simp only [Act.put, sA, sC, sZ] at hact
      subst hact
      go_wp2
      go_roundw
      case rel => exact ⟨i + 1, k, rfl, FK2, KN, JK4, FE4⟩
      case measure => simp [intOf]; omega
    | false =>
      have hin : xN i ∉ tk := by rw [hnm.out]; exact of_decide_eq_false hbo.out
      have FK2 : Hid ((frL tk (i + 1)).length = k + 1) := by rw [Hid, frL, if_neg hin, List.length_append, FK.out]; rfl
      have YA := YY.out k w4 KN.out JK4.out
      rw [show frN tk k = nm by rw [← FK.out, frN_at tk hin]; exact hnm.out] at YA
      go_upto_region 4 with (fail)
      refine fin_begin (opsOf Tryz.f71 4) (by kernel_rfl) ?_
      refine fin_now 0 (.bool false) (some 18) (by kernel_rfl) (by kernel_rfl) (by kernel_rfl) ?_
      refine fin_now 1 (.bool true) (some 19) (by kernel_rfl) (by kernel_rfl) (by kernel_rfl) ?_
      refine fin_now 2 (.bool true) (some 20) (by kernel_rfl) (by kernel_rfl) (by kernel_rfl) ?_
      refine fin_now 3 (.func (.yield l) #[] #[]) (some 21) (by kernel_rfl) (by kernel_rfl) (by kernel_rfl) ?_
      refine fin_now 4 (sT nm) (some 22) (by kernel_rfl) (by kernel_rfl) (by kernel_rfl) ?_
      refine fin_yield 5 0 l #[sT nm] (some 23) _ (by kernel_rfl) (by kernel_rfl) (fun fn tmps assign body h => (congrArg (fun z : Sem Next => z.run Tryz.prog w4) (show execOp _ _ = Instr.yield l #[sT nm] by kernel_rfl)).trans h) YA ?_
      rintro e w5 (⟨rfl, hkn, hJ5, hk5⟩ | ⟨rfl, hx5⟩)
      rotate_left
      · refine ⟨_, rfl, ?_⟩
        refine fin_now 6 (.bool true) (some 24) (by kernel_rfl) (by kernel_rfl) (by kernel_rfl) ?_
        refine fin_now 7 (.bool true) (some 25) (by kernel_rfl) (by kernel_rfl) (by kernel_rfl) ?_
        refine fin_done 8 (by kernel_rfl) ?_
        generalize hact : Act.put _ (some 25) _ = act
        simp only [Act.put, sA, sC, sZ] at hact
        subst hact
        go_wp2
        refine bodyPost_ret (results_none rfl _ _ _) rfl ?_
        exact ⟨⟨_, rfl⟩, k + 1, KN.out, hx5⟩
      refine ⟨_, rfl, ?_⟩
      refine fin_now 6 (.bool false) (some 24) (by kernel_rfl) (by kernel_rfl) (by kernel_rfl) ?_
      refine fin_now 7 (.bool false) (some 25) (by kernel_rfl) (by kernel_rfl) (by kernel_rfl) ?_
      refine fin_done 8 (by kernel_rfl) ?_
      generalize hact : Act.put _ (some 25) _ = act
      simp only [Act.put, sA, sC, sZ] at hact
      subst hact
      have JK5 := Lib.hid hJ5
      have KN5 := Lib.hid hkn
      have FE5 := Lib.hid (hk5 FE4.out)
      clear hJ5 hkn hk5 YA JK4 FE4
      go_upto_region 1 with (fail)
      refine lbeg (opsOf Tryz.f71 1) ?_
      refine lnow 0 (.int .i64 (i : Int)) (some 7) ?_
      refine lnow 1 (.int .i64 (IntKind.i64.wrap ((i : Int) + 1))) (some 8) ?_
      rw [show IntKind.i64.wrap ((i : Int) + 1) = ((i + 1 : Nat) : Int) from (IntWalk.i64_in _ (by omega)).trans (by omega)]
      refine lnow 2 (.int .i64 ((i + 1 : Nat) : Int)) (some 3) ?_
      refine ldn 3 ?_
      generalize hact : Act.put _ (some 3) _ = act
      simp only [Act.put, sA, sC, sZ] at hact
      subst hact
      go_wp2
      go_roundw
      case rel => exact ⟨i + 1, k + 1, rfl, FK2, KN5, JK5, FE5⟩
      case measure => simp [intOf]; omega
end Go.Proofs.YtmceocgddaaohaaGreatDoor
