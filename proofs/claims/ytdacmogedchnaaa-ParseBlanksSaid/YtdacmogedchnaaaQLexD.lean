/- Rows of tokens; package lex's Scan. -/
import Derived.Test.YtdacmogedchnaaaQGenT
import Derived.Test.YtdacmogedchnaaaQLexC
import Derived.Deep.AppendLies
import Derived.OwnWalk
import Derived.WalkMore
import Derived.Deep.LoopGhost
namespace Go.Proofs.Ytdacmogedchnaaa
open Go Go.RowKit
set_option maxRecDepth 100000
def tkC (x : Tk) : List Value := [.int .i64 (x.k : Int), sT x.t, .int .i64 (x.p : Int)]
def tksC (ts : List Tk) : List Value := ts.flatMap tkC
theorem tksC_snoc (ts : List Tk) (x : Tk) : tksC (ts ++ [x]) = tksC ts ++ tkC x := by unfold tksC; rw [List.flatMap_append]; simp
theorem tksC_at : ∀ (ts : List Tk) (i j : Nat) (x : Tk), ts[i]? = some x → j < 3 → (tksC ts)[3 * i + j]? = (tkC x)[j]?
 | [], i, j, x, h, _ => by simp at h
 | y :: ts, 0, j, x, h, hj => by
  obtain rfl : y = x := by simpa using h
  unfold tksC
  rw [List.flatMap_cons, Nat.mul_zero, Nat.zero_add, List.getElem?_append_left (by show j < 3; exact hj)]
 | y :: ts, i + 1, j, x, h, hj => by
  have := tksC_at ts i j x (by simpa using h) hj
  unfold tksC at *
  rw [List.flatMap_cons, List.getElem?_append_right (by show 3 ≤ _; omega), ← this]
  congr 1
  show 3 * (i + 1) + j - 3 = _
  omega
/-- The value is a row of tokens of the call's own, from block q on. -/
def OwnX (ty : TypeId) (q : Nat) (w : World) (v : Value) (ts : List Tk) : Prop := w.ownsRow q ty 3 v ts.length (tksC ts)
theorem OwnX.nil (ty : TypeId) (q : Nat) (w : World) : OwnX ty q w (.slice none 0 0) [] := ⟨rfl, .inl ⟨rfl, rfl⟩⟩
theorem OwnX.below {ty : TypeId} {q : Nat} {w w' : World} {v : Value} {ts : List Tk} (h : OwnX ty q w v ts) (hb : Below w.heap.size w w') : OwnX ty q w' v ts := own_step (F := []) (F' := []) h (Step.of_below hb (Nat.le_refl _)) (fun g _ => by simp)
theorem OwnX.slice {ty : TypeId} {q : Nat} {w : World} {v : Value} {ts : List Tk} (h : OwnX ty q w v ts) : ∃ a c, v = .slice a ts.length c := by
 rcases h.2 with ⟨h1, h2⟩ | ⟨g, cap, cur, h1, _⟩
 ·exact ⟨none, 0, by rw [h1, h2]⟩
 ·exact ⟨_, _, h1⟩
section
variable {ops : Array Oper} {Q : Exit → Act → World → Prop} {a : Act} {w : World}
/-- A row of one token is made and appended. -/
theorem lin_tok (ty sty : TypeId) (hinfo : (Try.prog.info? ty).map (fun i => (i.zero, i.size, i.bytes)) = some (some (.agg #[.int .i64 0, .string ⟨#[]⟩, .int .i64 0]), 3, 32)) (hund : Try.prog.underlying sty = some (.slice ty))
    (hmk : ∀ (x : Tk) (w : World), (Instr.buildSlice sty 1 #[(0, .agg (tkC x).toArray)]).run Try.prog w = .ok (.slice (some ⟨w.heap.size, 0, none⟩) 1 1) (w.alloc (.cells (tkC x).toArray ty)))
    (i : Nat) (d1 d2 : Option Tmp) (x : Tk) (v : Value) (ts : List Tk) (m : Nat) (h : OwnX ty m w v ts) (hn : ts.length ≤ 1000000) (hm : m ≤ w.heap.size)
    (hi : (ops[i]?.isSome && Region.wanted (opAt ops i) (yielded ops a.tmps)) = true) (hd : (opAt ops i).dst = d1) (hr1 : execOp a.eval (opAt ops i) = (Instr.buildSlice sty 1 #[(0, .agg (tkC x).toArray)] >>= fun x => pure (.value x)))
    (hk : ∀ q : Nat, (ops[i + 1]?.isSome && Region.wanted (opAt ops (i + 1)) (yielded ops (a.put d1 (.slice (some ⟨q, 0, none⟩) 1 1)).tmps)) = true) (hd2 : (opAt ops (i + 1)).dst = d2)
    (hr2 : ∀ q : Nat, execOp (a.put d1 (.slice (some ⟨q, 0, none⟩) 1 1)).eval (opAt ops (i + 1)) = (Builtin.append_ #[sty, sty] sty #[v, .slice (some ⟨q, 0, none⟩) 1 1] >>= fun x => pure (.value x)))
    (hq : ∀ (q : Nat) v' w', OwnX ty m w' v' (ts ++ [x]) → Below m w w' → wpFrom Try.prog ops Q (i + 1 + 1) ((a.put d1 (.slice (some ⟨q, 0, none⟩) 1 1)).put d2 v') w') : wpFrom Try.prog ops Q i a w := by
  obtain ⟨i0, hi0, hz0, hz1, hz2⟩ := info_parts hinfo
  have hb : Below w.heap.size w (w.alloc (.cells (tkC x).toArray ty)) := (Below.refl _ _).alloc (Nat.le_refl _) _
  refine lin_value i (.slice (some ⟨w.heap.size, 0, none⟩) 1 1) d1 (w.alloc (.cells (tkC x).toArray ty)) hi hd (exec_of _ _ hr1 (hmk x w)) ?_
  have hblk : Blk (w.alloc (.cells (tkC x).toArray ty)) w.heap.size ty (tkC x) := Blk.new w ty (tkC x)
  obtain ⟨v', w', e1, e2, e3, -, -⟩ := run_append_own_at (w.alloc (.cells (tkC x).toArray ty)) m sty sty ty i0 _ 3 32 hund hi0 hz0 hz1 hz2 (by rfl) (by decide) v ts.length (tksC ts) (h.below hb) ⟨w.heap.size, 0, none⟩ 1 1 (tkC x) rfl (fun j u hj => by rw [Addr.add_mid, Nat.zero_add]; have := hblk.whole j u hj; rw [Nat.zero_add] at this; exact this)
    (fun u hu => by simp only [tkC, List.mem_cons, List.not_mem_nil, or_false] at hu; rcases hu with rfl | rfl | rfl <;> rfl) (by unfold maxLen; omega) (by omega) (Nat.le_trans hm hb.size)
  refine lin_value (i + 1) v' d2 w' (hk _) hd2 (exec_of _ _ (hr2 _) e1) (hq _ v' w' ?_ ?_)
  · unfold OwnX
    rw [List.length_append, tksC_snoc]
    exact e2
  · exact (hb.mono hm).grown e3 (Nat.le_trans hm hb.size) (fun k hk => (h.lt k hk).1)
end
theorem infoTok : (Try.prog.info? 51).map (fun i => (i.zero, i.size, i.bytes)) = some (some (.agg #[.int .i64 0, .string ⟨#[]⟩, .int .i64 0]), 3, 32) := by kernel_rfl
theorem mkTok (x : Tk) (w : World) : (Instr.buildSlice 23 1 #[(0, .agg (tkC x).toArray)]).run Try.prog w = .ok (.slice (some ⟨w.heap.size, 0, none⟩) 1 1) (w.alloc (.cells (tkC x).toArray 51)) := by kernel_rfl
def lenL (k : Nat) (l : List UInt8) : Nat := if k = 1 then wordL l else if k = 2 then numLx l else signL l
theorem tok_of_len {l : List UInt8} {j : Nat} (h : ∀ i, 1 ≤ i → i < j → lenL i l = 0) (h1 : 1 ≤ j) (h3 : j ≤ 3) (hp : 0 < lenL j l) : tokAt l = some (j, lenL j l) := by
 unfold tokAt
 obtain rfl | rfl | rfl : j = 1 ∨ j = 2 ∨ j = 3 := by omega
 ·exact if_pos hp
 ·have e1 : wordL l = 0 := h 1 (by omega) (by omega)
  rw [if_neg (by omega)]
  exact if_pos hp
 ·have e1 : wordL l = 0 := h 1 (by omega) (by omega)
  have e2 : numLx l = 0 := h 2 (by omega) (by omega)
  rw [if_neg (by omega), if_neg (by omega)]
  exact if_pos hp
theorem tok_of_none {l : List UInt8} (h : ∀ i, 1 ≤ i → i < 4 → lenL i l = 0) : tokAt l = none := by
 have e1 : wordL l = 0 := h 1 (by omega) (by omega)
 have e2 : numLx l = 0 := h 2 (by omega) (by omega)
 have e3 : signL l = 0 := h 3 (by omega) (by omega)
 unfold tokAt
 rw [if_neg (by omega), if_neg (by omega), if_neg (by omega)]
theorem xlength_walk (c : UInt8) (r : List UInt8) (l : List UInt8) (el : l = c :: r) (hl : l.length ≤ 1000000) (j : Nat) (h1 : 1 ≤ j) (h3 : j ≤ 3) (w : World) : Calls Try.prog 13 #[.int .i64 (j : Int), sT l] w fun e w' => e = .returned (.int .i64 (lenL j l : Int)) ∧ w' = w := by
 obtain rfl | rfl | rfl : j = 1 ∨ j = 2 ∨ j = 3 := by omega
 ·exact xlength1 c r l el hl w
 ·exact xlength2 c r l el hl w
 ·exact xlength3 c r l el hl w
theorem lenL_le (j : Nat) (l : List UInt8) : lenL j l ≤ l.length := by
 unfold lenL
 split
 ·exact wordL_le l
 ·split
  ·exact numLx_le l
  ·exact signL_le l
set_option maxHeartbeats 2000000 in
theorem xsclone_walk (l : List UInt8) (hl : l.length ≤ 1000000) (w : World) : Calls Try.prog 14 #[sT l] w fun e w' => e = .returned (sT l) ∧ Below w.heap.size w w' := by
 have C := Try.stringslite_Clone ⟨l.toArray⟩ w (by show l.length ≤ _; omega)
 clear hl
 go_enter Try.func14, Try.ntmps14
 go_wp2_with (go_at_call 30; refine C.mono ?_; rintro e w' ⟨rfl, hb⟩)
 go_ret
 exact ⟨rfl, hb⟩
/-- What Scan's answer lies in. -/
def ScanPost (ty : TypeId) (l : List UInt8) (w : World) (e : Ending) (w' : World) : Prop := ∃ v, e = .returned (.tuple #[v, .int .i64 ((scanR l).2.1 : Int), .int .i64 ((scanR l).2.2 : Int)]) ∧ OwnX ty w.heap.size w' v (scanR l).1 ∧ Below w.heap.size w w'
theorem scanR_many {l : List UInt8} (h : 65536 < l.length) : scanR l = ([], 0, 14) := by unfold scanR; rw [if_pos h]
theorem scanR_ok {l : List UInt8} {ts : List Tk} (h : ¬ 65536 < l.length) (hs : scanS l 0 = .ok ts) : scanR l = (ts, 0, 0) := by unfold scanR; rw [if_neg h, hs]
theorem scanR_bad {l : List UInt8} {p : Nat} (h : ¬ 65536 < l.length) (hs : scanS l 0 = .error p) : scanR l = ([], p, 10) := by unfold scanR; rw [if_neg h, hs]
set_option maxHeartbeats 4000000 in
theorem xscan_walk (l : List UInt8) (w : World) : Calls Try.prog 6 #[sT l] w (ScanPost 51 l w) := by
 obtain ⟨q, hq⟩ : ∃ q, Hid (w.heap.size = q) := ⟨_, rfl⟩
 obtain ⟨N, hN⟩ : ∃ N, Hid (l.length = N) := ⟨_, rfl⟩
 obtain ⟨⟨rt, rp, re⟩, hR⟩ : ∃ R, Hid (scanR l = R) := ⟨_, rfl⟩
 unfold ScanPost
 rw [hq.out, hR.out]
 dsimp only
 go_enter Try.func6, Try.ntmps6
 go_upto_region 0 with (fail)
 refine lbeg (opsOf Try.f6 0) ?_
 refine lnow 0 (.slice none 0 0) (some 2) ?_
 refine lnow 1 (.int .i64 0) (some 3) ?_
 refine lnow 2 (.int .i64 0) (some 4) ?_
 refine ldn 3 ?_
 generalize hact : Act.put _ (some 4) _ = act
 simp only [Act.put, sA, sC, sZ] at hact
 subst hact
 go_wp2
 go_step3
 by_cases hm : (N : Int) > 65536
 ·have E := hR.out.symm.trans (scanR_many (l := l) (by have := hN.out; omega))
  simp only [Prod.mk.injEq] at E
  obtain ⟨rfl, rfl, rfl⟩ := E
  clear hR
  go_upto_region 1 with (fail)
  refine lbeg (opsOf Try.f6 1) ?_
  refine lnow 0 (sT l) (some 10) ?_
  refine lnow 1 (.int .i64 (l.length : Int)) (some 11) ?_
  rw [hN.out]
  refine lnow 2 (.bool (decide ((N : Int) > 65536))) (some 12) ?_
  rw [decide_eq_true (hm)]
  refine ldn 3 ?_
  generalize hact : Act.put _ (some 12) _ = act
  simp only [Act.put, sA, sC, sZ] at hact
  subst hact
  go_wp2
  try rw [Exit.noGoto_ret]
  refine bodyPost_ret (v := .tuple #[.slice none 0 0, .int .i64 0, .int .i64 14]) (by kernel_rfl) rfl ⟨_, rfl, OwnX.nil _ _ _, Below.refl _ _⟩
 go_upto_region 1 with (fail)
 refine lbeg (opsOf Try.f6 1) ?_
 refine lnow 0 (sT l) (some 10) ?_
 refine lnow 1 (.int .i64 (l.length : Int)) (some 11) ?_
 rw [hN.out]
 refine lnow 2 (.bool (decide ((N : Int) > 65536))) (some 12) ?_
 rw [decide_eq_false (hm)]
 refine ldn 3 ?_
 generalize hact : Act.put _ (some 12) _ = act
 simp only [Act.put, sA, sC, sZ] at hact
 subst hact
 have NM : Hid (¬ 65536 < l.length) := by have := hN.out; rw [Hid]; omega
 have NB : Hid (N ≤ 65536) := by have := hN.out; rw [Hid]; omega
 clear hm
 go_upto_region 3 with (fail)
 refine lbeg (opsOf Try.f6 3) ?_
 refine lnow 0 (.slice none 0 0) (some 5) ?_
 refine ldn 1 ?_
 generalize hact : Act.put _ (some 5) _ = act
 simp only [Act.put, sA, sC, sZ] at hact
 subst hact
 go_upto_region 4 with (fail)
 refine lbeg (opsOf Try.f6 4) ?_
 refine lnow 0 (.int .i64 0) (some 6) ?_
 refine ldn 1 ?_
 generalize hact : Act.put _ (some 6) _ = act
 simp only [Act.put, sA, sC, sZ] at hact
 subst hact
 go_wp2
 go_step3
 go_wp2
 go_loopg [5, 6] N (fun gn lv kv wr => ∃ (k : Nat) (ts : List Tk) (lz : Value), lz = lv ∧ k + gn = N ∧ kv = .int .i64 (k : Int) ∧ Hid (ts.length ≤ k) ∧ Hid (OwnX 51 q wr lz ts) ∧ Hid (Below q w wr) ∧ Hid (scanS l 0 = preR ts (scanS (l.drop k) k)))
 case atStart => exact ⟨0, [], _, rfl, Nat.zero_add _, rfl, Nat.zero_le _, OwnX.nil _ _ _, by rw [Hid, ← hq.out]; exact Below.refl _ _, by rw [Hid, preR_nil, List.drop_zero]⟩
 case round =>
  obtain ⟨k, ts, lv, hlz, hgk, rfl, TL, OW, BE, SC⟩ := hrel
  subst hlz
  have nb := NB.out
  obtain ⟨wo, hwo⟩ : ∃ y, y = wr := ⟨_, rfl⟩
  subst hwo
  have QW : Hid (q ≤ wo.heap.size) := by rw [Hid, ← hq.out]; have := BE.out.size; exact this
  by_cases hlt : (k : Int) < (N : Int)
  rotate_left
  ·skip
   obtain rfl : k = N := by omega
   have E := hR.out.symm.trans (scanR_ok (ts := ts) NM.out (by rw [SC.out, List.drop_eq_nil_of_le (by have := hN.out; omega), scanS_nil]; simp [preR]))
   simp only [Prod.mk.injEq] at E
   obtain ⟨rfl, rfl, rfl⟩ := E
   have FIN : Hid (OwnX 51 q wo lv rt ∧ Below q w wo) := ⟨OW.out, BE.out⟩
   clear SC OW BE hR
   go_upto_region 5 with (fail)
   refine lbeg (opsOf Try.f6 5) ?_
   refine lnow 0 (.int .i64 (k : Int)) (some 13) ?_
   refine lnow 1 (sT l) (some 14) ?_
   refine lnow 2 (.int .i64 (l.length : Int)) (some 15) ?_
   rw [hN.out]
   refine lnow 3 (.bool (decide ((k : Int) < (k : Int)))) (some 16) ?_
   rw [decide_eq_false (hlt)]
   refine ldn 4 ?_
   generalize hact : Act.put _ (some 16) _ = act
   simp only [Act.put, sA, sC, sZ] at hact
   subst hact
   go_wp2
   try rw [Exit.noGoto_ret]
   refine bodyPost_ret (v := .tuple #[lv, .int .i64 0, .int .i64 0]) (by kernel_rfl) rfl ⟨_, rfl, FIN.out⟩
  go_upto_region 5 with (fail)
  refine lbeg (opsOf Try.f6 5) ?_
  refine lnow 0 (.int .i64 (k : Int)) (some 13) ?_
  refine lnow 1 (sT l) (some 14) ?_
  refine lnow 2 (.int .i64 (l.length : Int)) (some 15) ?_
  rw [hN.out]
  refine lnow 3 (.bool (decide ((k : Int) < (N : Int)))) (some 16) ?_
  rw [decide_eq_true (hlt)]
  refine ldn 4 ?_
  generalize hact : Act.put _ (some 16) _ = act
  simp only [Act.put, sA, sC, sZ] at hact
  subst hact
  obtain ⟨L, hL⟩ : ∃ L, Hid (l.drop k = L) := ⟨_, rfl⟩
  have LL : Hid (k + L.length = N) := by rw [Hid, ← hL.out, List.length_drop]; have := hN.out; omega
  obtain ⟨c, r, ec⟩ : ∃ c r, L = c :: r := by cases L with | nil => (have := LL.out; simp at this; omega) | cons c r => exact ⟨c, r, rfl⟩
  have EC := Lib.hid ec
  clear ec
  rw [hL.out] at SC
  go_upto_region 6 with (fail)
  refine lbeg (opsOf Try.f6 6) ?_
  refine lnow 0 (.int .i64 1) (some 7) ?_
  refine ldn 1 ?_
  generalize hact : Act.put _ (some 7) _ = act
  simp only [Act.put, sA, sC, sZ] at hact
  subst hact
  go_wp2
  go_loopg [5, 6, 7] 4 (fun g2 s5 s6 s7 wy => ∃ j : Nat, 1 ≤ j ∧ j + g2 = 5 ∧ lv = s5 ∧ s6 = .int .i64 (k : Int) ∧ s7 = .int .i64 (j : Int) ∧ Hid (∀ i, 1 ≤ i → i < j → lenL i L = 0) ∧ wo = wy)
  case atStart => exact ⟨1, Nat.le_refl _, rfl, rfl, rfl, rfl, fun i h1 h2 => by omega, rfl⟩
  case round =>
   obtain ⟨j, hj1, hj5, hs5, rfl, rfl, HZ, hwy⟩ := hrel
   subst hs5
   subst hwy
   by_cases hj3 : (j : Int) ≤ 3
   ·skip
    go_upto_region 7 with (fail)
    refine lbeg (opsOf Try.f6 7) ?_
    refine lnow 0 (.int .i64 (j : Int)) (some 17) ?_
    refine lnow 1 (.bool (decide ((j : Int) ≤ 3))) (some 18) ?_
    rw [decide_eq_true (hj3)]
    refine ldn 2 ?_
    generalize hact : Act.put _ (some 18) _ = act
    simp only [Act.put, sA, sC, sZ] at hact
    subst hact
    go_upto_region 9 with (fail)
    refine lbeg (opsOf Try.f6 9) ?_
    refine lnow 0 (.int .i64 (j : Int)) (some 21) ?_
    refine lnow 1 (sT l) (some 22) ?_
    refine lnow 2 (.int .i64 (k : Int)) (some 23) ?_
    refine lin_now 3 (sT L) (some 24) (by kernel_rfl) (by kernel_rfl) (by have h := run_sFrom l k (by have := hN.out; omega) wo; rw [hL.out] at h; exact exec_of (Instr.sliceAt 9 (sT l) (some (.int .i64 (k : Int))) none none) _ (by kernel_rfl) h) ?_
    refine lcal 4 13 #[.int .i64 (j : Int), sT L] (some 25) _ (xlength_walk c r L EC.out (by have := LL.out; omega) j hj1 (by omega) _) ?_
    rintro e w1 ⟨rfl, hw1⟩
    obtain rfl := hw1.symm
    refine ⟨_, rfl, ?_⟩
    refine lnow 5 (.int .i64 (lenL j L : Int)) (some 8) ?_
    refine ldn 6 ?_
    generalize hact : Act.put _ (some 8) _ = act
    simp only [Act.put, sA, sC, sZ] at hact
    subst hact
    obtain ⟨n, hn⟩ : ∃ n, Hid (lenL j L = n) := ⟨_, rfl⟩
    rw [hn.out]
    by_cases hn0 : (n : Int) > 0
    ·skip
     go_upto_region 10 with (fail)
     refine lbeg (opsOf Try.f6 10) ?_
     refine lnow 0 (.int .i64 (n : Int)) (some 26) ?_
     refine lnow 1 (.bool (decide ((n : Int) > 0))) (some 27) ?_
     rw [decide_eq_true (hn0)]
     refine ldn 2 ?_
     generalize hact : Act.put _ (some 27) _ = act
     simp only [Act.put, sA, sC, sZ] at hact
     subst hact
     have TA : Hid (tokAt L = some (j, n)) := by rw [Hid, ← hn.out]; exact tok_of_len HZ.out hj1 (by omega) (by rw [hn.out]; omega)
     have NLE : Hid (n ≤ L.length) := by rw [Hid, ← hn.out]; exact lenL_le j L
     have nle := NLE.out
     have ll := LL.out
     have SC2 : Hid (scanS l 0 = preR (ts ++ [⟨j, L.take n, k⟩]) (scanS (l.drop (k + n)) (k + n))) := by rw [Hid, SC.out, scanS_tok TA.out, preR_cons, ← hL.out, List.drop_drop]
     clear SC hn HZ
     go_upto_region 11 with (fail)
     refine lbeg (opsOf Try.f6 11) ?_
     refine lnow 0 (lv) (some 28) ?_
     refine lnow 1 (.int .i64 (j : Int)) (some 29) ?_
     refine lnow 2 (sT l) (some 30) ?_
     refine lnow 3 (.int .i64 (k : Int)) (some 31) ?_
     refine lnow 4 (.int .i64 (k : Int)) (some 32) ?_
     refine lnow 5 (.int .i64 (n : Int)) (some 33) ?_
     refine lnow 6 (.int .i64 (IntKind.i64.wrap ((k : Int) + (n : Int)))) (some 34) ?_
     rw [show IntKind.i64.wrap ((k : Int) + (n : Int)) = ((k + n : Nat) : Int) from (IntWalk.i64_in _ (by omega)).trans (by omega)]
     refine lin_now 7 (sT (L.take n)) (some 35) (by kernel_rfl) (by kernel_rfl) (by have h := run_sCut l k (k + n) (by omega) (by have := hN.out; omega) wo; rw [hL.out, Nat.add_sub_cancel_left] at h; exact exec_of (Instr.sliceAt 9 (sT l) (some (.int .i64 (k : Int))) (some (.int .i64 ((k + n : Nat) : Int))) none) _ (by kernel_rfl) h) ?_
     refine lcal 8 14 #[sT (L.take n)] (some 36) _ (xsclone_walk (L.take n) (by rw [List.length_take]; omega) _) ?_
     rintro e w1 ⟨rfl, hb1⟩
     refine ⟨_, rfl, ?_⟩
     have OW1 := Lib.hid (OW.out.below hb1)
     have BE1 : Hid (Below q w w1) := BE.out.trans (hb1.mono QW.out)
     have QW1 : Hid (q ≤ w1.heap.size) := Nat.le_trans QW.out hb1.size
     clear hb1 OW BE QW
     refine lnow 9 (.int .i64 (k : Int)) (some 37) ?_
     refine lnow 10 (.agg (tkC ⟨j, L.take n, k⟩).toArray) (some 38) ?_
     refine lin_tok 51 23 infoTok Try.underlying23 mkTok 11 (some 39) (some 40) ⟨j, L.take n, k⟩ lv ts q OW1.out (by have := TL.out; omega) QW1.out (by kernel_rfl) (by kernel_rfl) (by kernel_rfl) (fun _ => by kernel_rfl) (by kernel_rfl) (fun _ => by kernel_rfl) ?_
     intro g v' w2 ow2 be2
     have OW2 := Lib.hid ow2
     have BE2 : Hid (Below q w w2) := BE1.out.trans be2
     clear ow2 be2 OW1 BE1 QW1
     refine lnow 13 (v') (some 5) ?_
     refine ldn 14 ?_
     generalize hact : Act.put _ (some 5) _ = act
     simp only [Act.put, sA, sC, sZ] at hact
     subst hact
     have TL2 : Hid ((ts ++ [(⟨j, L.take n, k⟩ : Tk)]).length ≤ k + n) := by rw [Hid, List.length_append]; have := TL.out; simp; omega
     obtain ⟨T2, hT2⟩ : ∃ T2 : List Tk, Hid (ts ++ [(⟨j, L.take n, k⟩ : Tk)] = T2) := ⟨ts ++ [(⟨j, L.take n, k⟩ : Tk)], rfl⟩
     rw [hT2.out] at SC2 OW2 TL2
     go_upto_region 12 with (fail)
     refine lbeg (opsOf Try.f6 12) ?_
     refine lnow 0 (.int .i64 (k : Int)) (some 41) ?_
     refine lnow 1 (.int .i64 (n : Int)) (some 42) ?_
     refine lnow 2 (.int .i64 (IntKind.i64.wrap ((k : Int) + (n : Int)))) (some 43) ?_
     rw [show IntKind.i64.wrap ((k : Int) + (n : Int)) = ((k + n : Nat) : Int) from (IntWalk.i64_in _ (by omega)).trans (by omega)]
     refine lnow 3 (.int .i64 ((k + n : Nat) : Int)) (some 6) ?_
     refine ldn 4 ?_
     generalize hact : Act.put _ (some 6) _ = act
     simp only [Act.put, sA, sC, sZ] at hact
     subst hact
     go_wp2
     go_roundg (N - (k + n))
     case rel => exact ⟨k + n, T2, v', rfl, by omega, rfl, TL2, OW2, BE2, SC2⟩
     case measure => omega
    obtain rfl : n = 0 := by omega
    have HZ2 : Hid (∀ i, 1 ≤ i → i < j + 1 → lenL i L = 0) := fun i h1 h2 => by by_cases e : i = j; (subst e; exact hn.out); (exact HZ.out i h1 (by omega))
    go_upto_region 10 with (fail)
    refine lbeg (opsOf Try.f6 10) ?_
    refine lnow 0 (.int .i64 ((0 : Nat) : Int)) (some 26) ?_
    refine lnow 1 (.bool (decide (((0 : Nat) : Int) > 0))) (some 27) ?_
    rw [decide_eq_false (hn0)]
    refine ldn 2 ?_
    generalize hact : Act.put _ (some 27) _ = act
    simp only [Act.put, sA, sC, sZ] at hact
    subst hact
    clear hn HZ
    go_wp2
    go_roundg (5 - (j + 1))
    case rel => exact ⟨j + 1, by omega, by omega, rfl, rfl, by go_num, HZ2, rfl⟩
    case measure => omega
   go_upto_region 7 with (fail)
   refine lbeg (opsOf Try.f6 7) ?_
   refine lnow 0 (.int .i64 (j : Int)) (some 17) ?_
   refine lnow 1 (.bool (decide ((j : Int) ≤ 3))) (some 18) ?_
   rw [decide_eq_false (hj3)]
   refine ldn 2 ?_
   generalize hact : Act.put _ (some 18) _ = act
   simp only [Act.put, sA, sC, sZ] at hact
   subst hact
   have TN : Hid (tokAt L = none) := tok_of_none (fun i h1 h2 => HZ.out i h1 (by omega))
   clear HZ
   go_upto_region 13 with (fail)
   refine lbeg (opsOf Try.f6 13) ?_
   refine lnow 0 (sT l) (some 44) ?_
   refine lnow 1 (.int .i64 (k : Int)) (some 45) ?_
   refine lin_now 2 (sT L) (some 46) (by kernel_rfl) (by kernel_rfl) (by have h := run_sFrom l k (by have := hN.out; omega) wo; rw [hL.out] at h; exact exec_of (Instr.sliceAt 9 (sT l) (some (.int .i64 (k : Int))) none none) _ (by kernel_rfl) h) ?_
   refine lcal 3 15 #[sT L] (some 47) _ (xgap_walk c r L EC.out (by have := LL.out; omega) _) ?_
   rintro e w1 ⟨rfl, hw1⟩
   obtain rfl := hw1.symm
   refine ⟨_, rfl, ?_⟩
   refine lnow 4 (.int .i64 (gapL L : Int)) (some 9) ?_
   refine ldn 5 ?_
   generalize hact : Act.put _ (some 9) _ = act
   simp only [Act.put, sA, sC, sZ] at hact
   subst hact
   obtain ⟨n, hn⟩ : ∃ n, Hid (gapL L = n) := ⟨_, rfl⟩
   rw [hn.out]
   by_cases hn0 : (n : Int) = 0
   ·skip
    go_upto_region 14 with (fail)
    refine lbeg (opsOf Try.f6 14) ?_
    refine lnow 0 (.int .i64 (n : Int)) (some 48) ?_
    refine lnow 1 (.bool (decide ((n : Int) = 0))) (some 49) ?_
    rw [decide_eq_true (hn0)]
    refine ldn 2 ?_
    generalize hact : Act.put _ (some 49) _ = act
    simp only [Act.put, sA, sC, sZ] at hact
    subst hact
    have E := hR.out.symm.trans (scanR_bad (p := k) NM.out (by rw [SC.out, scanS_bad TN.out (by rw [hn.out]; omega) (by rw [EC.out]; simp)]; rfl))
    simp only [Prod.mk.injEq] at E
    obtain ⟨rfl, rfl, rfl⟩ := E
    have FIN : Hid (Below q w wo) := BE.out
    clear SC OW BE hR hn TN EC
    go_wp2
    try rw [Exit.noGoto_ret]
    refine bodyPost_ret (v := .tuple #[.slice none 0 0, .int .i64 (rp : Int), .int .i64 10]) (by kernel_rfl) rfl ⟨_, rfl, OwnX.nil _ _ _, FIN.out⟩
   go_upto_region 14 with (fail)
   refine lbeg (opsOf Try.f6 14) ?_
   refine lnow 0 (.int .i64 (n : Int)) (some 48) ?_
   refine lnow 1 (.bool (decide ((n : Int) = 0))) (some 49) ?_
   rw [decide_eq_false (hn0)]
   refine ldn 2 ?_
   generalize hact : Act.put _ (some 49) _ = act
   simp only [Act.put, sA, sC, sZ] at hact
   subst hact
   have nle : n ≤ L.length := by rw [← hn.out]; exact gapL_le L
   have ll := LL.out
   have SC2 : Hid (scanS l 0 = preR ts (scanS (l.drop (k + n)) (k + n))) := by rw [Hid, SC.out, scanS_gap TN.out (by rw [hn.out]; omega), hn.out, ← hL.out, List.drop_drop]
   have TL2 : Hid (ts.length ≤ k + n) := by rw [Hid]; have := TL.out; omega
   clear SC hn TN
   go_upto_region 16 with (fail)
   refine lbeg (opsOf Try.f6 16) ?_
   refine lnow 0 (.int .i64 (k : Int)) (some 51) ?_
   refine lnow 1 (.int .i64 (n : Int)) (some 52) ?_
   refine lnow 2 (.int .i64 (IntKind.i64.wrap ((k : Int) + (n : Int)))) (some 53) ?_
   rw [show IntKind.i64.wrap ((k : Int) + (n : Int)) = ((k + n : Nat) : Int) from (IntWalk.i64_in _ (by omega)).trans (by omega)]
   refine lnow 3 (.int .i64 ((k + n : Nat) : Int)) (some 6) ?_
   refine ldn 4 ?_
   generalize hact : Act.put _ (some 6) _ = act
   simp only [Act.put, sA, sC, sZ] at hact
   subst hact
   go_wp2
   go_roundg (N - (k + n))
   case rel => exact ⟨k + n, ts, lv, rfl, by omega, rfl, TL2, OW, BE, SC2⟩
   case measure => omega
end Go.Proofs.Ytdacmogedchnaaa
