/- Whether a term's numbers have bytes; Num and Term, the program's and the document's. -/
import Derived.Test.YteohjbggicchgaaBGenT
import Derived.Test.YteohjbggicchgaaBCodH
namespace Go.Proofs.Yteohjbggicchgaa
open Go Go.RowKit
set_option maxRecDepth 100000
mutual
def numT : Tm → Bool
 | .mk _ n _ _ a => numTs a && decide (n ≤ 1099511627776)
def numTs : List Tm → Bool
 | [] => true
 | t :: ts => numT t && numTs ts
end
mutual
def farT : Tm → Bool
 | .mk k n _ _ a => (decide (k = 1) && decide (n > 1099511627776)) || farTs a
def farTs : List Tm → Bool
 | [] => false
 | t :: ts => farT t || farTs ts
end
theorem numTs_app : ∀ (ts us : List Tm), numTs (ts ++ us) = (numTs ts && numTs us)
 | [], us => by rw [List.nil_append, numTs, Bool.true_and]
 | t :: ts, us => by rw [List.cons_append, numTs, numTs_app ts us, numTs, Bool.and_assoc]
theorem numTs_no {ts : List Tm} {x : Tm} (hx : x ∈ ts) (h : numT x = false) : numTs ts = false := by
 induction ts with
 | nil => simp at hx
 | cons t ts ih =>
  rw [numTs]
  rcases List.mem_cons.1 hx with rfl | hx
  ·rw [h, Bool.false_and]
  ·rw [ih hx, Bool.and_false]
mutual
theorem far_near : ∀ t : Tm, farT t = false ↔ nearT t
 | .mk k n s l a => by
  rw [farT, nearT, ← fars_nears a]
  by_cases hk : k = 1
  ·by_cases hn : n > 1099511627776
   ·have : ¬ n ≤ 1099511627776 := by omega
    simp [hk, hn, this]
   ·have : n ≤ 1099511627776 := by omega
    simp [hk, hn, this]
  ·simp [hk]
theorem fars_nears : ∀ ts : List Tm, farTs ts = false ↔ nearTs ts
 | [] => by rw [farTs, nearTs]; simp
 | t :: ts => by rw [farTs, nearTs, ← far_near t, ← fars_nears ts]; simp
end
theorem right_argsC2 {wo : List UInt8 → Bool} {p v deep k n : Int} {s : List UInt8} {l : List Lv} {a : List Tm} (h : rightT wo p v deep (.mk k n s l a) = true) : ((k ≠ 1 → k ≠ 9 → n = 0) ∧ (k = 9 → n ≤ 31)) ∧ True ∧ rightTs wo p v deep k 0 a = true := by
 simp only [rightT, Bool.and_eq_true] at h
 obtain ⟨⟨h1, h2⟩, h3⟩ := h
 unfold headT at h1
 simp only [Bool.and_eq_true] at h1
 have h8 := h1.2
 refine ⟨⟨fun a1 a9 => ?_, fun a9 => ?_⟩, trivial, h3⟩
 ·rw [if_neg a9, if_neg a1] at h8
  simpa using h8
 ·rw [if_pos a9] at h8
  simpa using h8
mutual
theorem num_near {wo : List UInt8 → Bool} : ∀ (t : Tm) (p v d : Int), rightT wo p v d t = true → (numT t = true ↔ nearT t)
 | .mk k n s l a, p, v, d, h => by
  obtain ⟨g1, -, g3⟩ := right_argsC2 h
  obtain ⟨c7, c8⟩ := g1
  rw [numT, nearT, Bool.and_eq_true, nums_nears a p v d k 0 g3, decide_eq_true_eq]
  constructor
  ·rintro ⟨h1, h2⟩
   exact ⟨fun _ => h2, h1⟩
  ·rintro ⟨h1, h2⟩
   refine ⟨h2, ?_⟩
   by_cases k1 : k = 1
   ·exact h1 k1
   ·by_cases k9 : k = 9
    ·have := c8 k9; omega
    ·rw [c7 k1 k9]; decide
theorem nums_nears {wo : List UInt8 → Bool} : ∀ (ts : List Tm) (p v d k : Int) (i : Nat), rightTs wo p v d k i ts = true → (numTs ts = true ↔ nearTs ts)
 | [], _, _, _, _, _, _ => by rw [numTs, nearTs]; simp
 | t :: ts, p, v, d, k, i, h => by
  rw [rightTs, Bool.and_eq_true] at h
  rw [numTs, nearTs, Bool.and_eq_true, num_near t _ _ _ h.1, nums_nears ts _ _ _ _ _ h.2]
end
set_option maxHeartbeats 8000000 in
theorem numbered_walk : ∀ (t : Tm) (cs : List Value) (w : World) (F : List Nat), TmAt F w t cs → SmT t → Calls Try.prog 34 #[.agg cs.toArray] w fun e w' => e = .returned (.bool (numT t)) ∧ Below w.heap.size w w' := by
 refine Tm.byParts fun k n s ls a ih cs w F ht hs => ?_
 obtain ⟨lv, av, rfl, h1, h2⟩ := ht.open
 obtain ⟨-, -, sa, ss⟩ := hs.open
 dsimp only [Tm.kind, Tm.n, Tm.name, Tm.levels, Tm.args] at ht h1 h2 sa ss ⊢
 obtain ⟨la, lc, rfl⟩ := h1.slice
 obtain ⟨aa, ac, rfl⟩ := h2.slice
 have hr : reachBytes = 140737488351232 := rfl
 rw [hr] at sa
 obtain ⟨A, hA⟩ : ∃ A, Hid (a.length = A) := ⟨_, rfl⟩
 rw [hA.out] at h2 sa ⊢
 have SA : Hid (A * 80 ≤ 140737488351232) := sa
 obtain ⟨q, hq⟩ : ∃ q, Hid (w.heap.size = q) := ⟨_, rfl⟩
 have H2 := Lib.hid h2
 have IH := Lib.hid ih
 have SS := Lib.hid ss
 clear h1 h2 ih ss ht hs sa
 obtain ⟨CS, hCS⟩ : ∃ x, Hid ([.int .i64 k, .int .i64 n, strT s, .slice la ls.length lc, .slice aa A ac] = x) := ⟨_, rfl⟩
 rw [hCS.out]
 rw [numT]
 obtain ⟨RES, hRES⟩ : ∃ b, Hid ((numTs a && decide (n ≤ 1099511627776)) = b) := ⟨_, rfl⟩
 rw [hRES.out]
 go_enter Try.func34, Try.ntmps34
 go_upto_region 0 with (fail)
 refine lbeg (opsOf Try.f34 0) ?_
 refine lbox 0 25 (.tmp 0) (CS) (q) (some 1) hq ?_
 intro w1 bw1 bew1 hsw1
 refine lnow 1 (.bool false) (some 2) ?_
 refine ldn 2 ?_
 generalize hact : Act.put _ (some 2) _ = act
 simp only [Act.put, sA, sC, sZ] at hact
 subst hact
 have BQ := Lib.hid bw1
 have BE : Hid (Below w.heap.size w w1) := by rw [Hid, hq.out]; exact bew1
 have S1 : Hid (q < w1.heap.size) := by have := hsw1.out; rw [Hid]; omega
 have TS1 : Hid (TmsAt F w1 a (.slice aa A ac)) := TmsAt.below H2.out BE.out
 clear bw1 bew1 hsw1 H2
 go_upto_region 1 with (fail)
 refine lbeg (opsOf Try.f34 1) ?_
 refine lnow 0 (.pointer (some ⟨q, 4, none⟩)) (some 5) ?_
 refine lcl 1 (.slice aa A ac) (some 6) 23 5 (q) 4 (BQ.out.cell (by rw [← hCS.out]; rfl)) Try.underlying23 ?_
 refine lnow 2 (.int .i64 (A : Int)) (some 7) ?_
 refine lnow 3 (.int .i64 0) (some 8) ?_
 refine ldn 4 ?_
 generalize hact : Act.put _ (some 8) _ = act
 simp only [Act.put, sA, sC, sZ] at hact
 subst hact
 go_wp2
 go_loopw [8] (fun jv wr => ∃ j : Nat, j ≤ A ∧ jv = .int .i64 (j : Int) ∧ Hid (numTs (a.take j) = true) ∧ Hid (Below w1.heap.size w1 wr)) (fun jv _ => A - (intOf jv).toNat)
 case atStart => exact ⟨0, Nat.zero_le _, rfl, rfl, Below.refl _ _⟩
 case round =>
  obtain ⟨j, hj, rfl, NT, BW⟩ := hrel
  have BQ2 : Hid (Blk wr q 25 CS) := BQ.out.below BW.out S1.out
  by_cases hlt : j < A
  ·skip
   have c1 : (j : Int) < (A : Int) := by omega
   have TSr : TmsAt F wr a (.slice aa A ac) := TmsAt.below TS1.out BW.out
   obtain ⟨x, pb, po, cx, hx, hxm, haa, hpF, hpb, -, hrx, htx⟩ := TSr.get hA.out hlt
   subst haa
   have RX := Lib.hid hrx
   have TX := Lib.hid htx
   have X5 := Lib.hid htx.len
   have X1 := Lib.hid htx.one
   have TK : Hid (a.take (j + 1) = a.take j ++ [x]) := by rw [Hid, List.take_add_one, hx]; rfl
   have XS := Lib.hid (SmTs.mem SS.out hxm)
   have XM := Lib.hid hxm
   have CALL := IH.out x hxm
   clear hx hrx hpF hpb htx hxm TSr
   go_upto_region 2 with (fail)
   refine lbeg (opsOf Try.f34 2) ?_
   refine lnow 0 (.bool (decide ((j : Int) < (A : Int)))) (some 9) ?_
   rw [decide_eq_true c1]
   refine ldn 1 ?_
   generalize hact : Act.put _ (some 9) _ = act
   simp only [Act.put, sA, sC, sZ] at hact
   subst hact
   obtain ⟨z, hz⟩ : ∃ z, Hid (wr.heap.size = z) := ⟨_, rfl⟩
   go_upto_region 3 with (fail)
   refine lbeg (opsOf Try.f34 3) ?_
   refine lix 0 (.pointer (some ⟨pb, po + 5 * j, none⟩)) (some 10) 23 6 8 (run_at_tm pb po A ac j hlt _) ?_
   refine lrl 1 cx (some 11) 25 10 pb (po + 5 * j) RX.out Try.underlying25 (t5Size X5.out) ?_
   refine lall 2 25 z5T (z) (some 4) hz ?_
   intro w3 bw3 bew3 hsw3
   refine lput 3 25 (.tmp 4) (.tmp 11) (z) _ (z5T) (cx) bw3 (X5.out.trans (rfl : z5T.length = 5).symm) (t5Size X5.out) (by simpa using X1.out) ?_
   intro w4 bw4 uw4
   refine ldn 4 ?_
   generalize hact : Act.put _ none _ = act
   simp only [Act.put, sA, sC, sZ] at hact
   subst hact
   have B34 : Below wr.heap.size wr w4 := by rw [hz.out]; exact uw4.below bew3 (Nat.le_refl _) (by have := hsw3.out; omega)
   have BZ := Lib.hid bw4
   have BW4 := Lib.hid (BW.out.trans (B34.mono BW.out.size))
   have TX4 := Lib.hid (TX.out.below B34)
   clear bw3 bew3 hsw3 bw4 uw4 B34 RX TX BW BQ2
   go_upto_region 4 with (fail)
   refine lbeg (opsOf Try.f34 4) ?_
   refine lrl 0 (cx) (some 12) 25 4 (z) 0 (BZ.out).whole Try.underlying25 (t5Size X5.out) ?_
   refine lcal 1 34 #[.agg cx.toArray] (some 13) _ (CALL cx w4 F TX4.out XS.out) ?_
   rintro e w5 ⟨rfl, b5⟩
   obtain ⟨nx, hnx⟩ : ∃ b, Hid (numT x = b) := ⟨_, rfl⟩
   rw [hnx.out]
   refine ⟨_, rfl, ?_⟩
   have BW5 := Lib.hid (BW4.out.trans (b5.mono BW4.out.size))
   clear b5 BW4 CALL TX4 BZ hz
   refine lnow 2 (.bool (!nx)) (some 14) ?_
   refine ldn 3 ?_
   generalize hact : Act.put _ (some 14) _ = act
   simp only [Act.put, sA, sC, sZ] at hact
   subst hact
   cases nx with
   | true =>
    have NT5 : Hid (numTs (a.take (j + 1)) = true) := by rw [Hid, TK.out, numTs_app, NT.out, numTs, hnx.out, numTs]; rfl
    clear TK NT hnx
    have sa := SA.out
    go_wp2
    go_roundw
    case rel => exact ⟨j + 1, by omega, by go_num, NT5, BW5⟩
    case measure => simp [intOf]; omega
   | false =>
    have NO : Hid ((numTs a && decide (n ≤ 1099511627776)) = false) := by rw [Hid, numTs_no XM.out hnx.out]; rfl
    obtain rfl : RES = false := by rw [← hRES.out, NO.out]
    have FB := Lib.hid (BE.out.trans (BW5.out.mono BE.out.size))
    clear TK NT hnx NO
    go_wp2
    go_ret
    exact ⟨rfl, FB.out⟩
  obtain rfl : j = A := by omega
  have c1 : ¬ ((j : Int) < (j : Int)) := by omega
  have NA : Hid ((numTs a && decide (n ≤ 1099511627776)) = decide (n ≤ 1099511627776)) := by have := NT.out; rw [List.take_of_length_le (by have := hA.out; omega)] at this; rw [Hid, this, Bool.true_and]
  have FB := Lib.hid (BE.out.trans (BW.out.mono BE.out.size))
  go_upto_region 2 with (fail)
  refine lbeg (opsOf Try.f34 2) ?_
  refine lnow 0 (.bool (decide ((j : Int) < (j : Int)))) (some 9) ?_
  rw [decide_eq_false c1]
  refine ldn 1 ?_
  generalize hact : Act.put _ (some 9) _ = act
  simp only [Act.put, sA, sC, sZ] at hact
  subst hact
  go_upto_region 7 with (fail)
  refine lbeg (opsOf Try.f34 7) ?_
  refine lnow 0 (.pointer (some ⟨q, 1, none⟩)) (some 16) ?_
  refine lcl 1 (.int .i64 n) (some 17) 3 16 (q) 1 (BQ2.out.cell (by rw [← hCS.out]; rfl)) Try.underlying3 ?_
  refine lnow 2 (.bool (decide (n ≤ 1099511627776))) (some 18) ?_
  refine lnow 3 (.bool (decide (n ≤ 1099511627776))) (some 2) ?_
  refine ldn 4 ?_
  generalize hact : Act.put _ (some 2) _ = act
  simp only [Act.put, sA, sC, sZ] at hact
  subst hact
  have hbx : decide (n ≤ 1099511627776) = RES := by rw [← hRES.out, NA.out]
  rw [hbx]
  clear hbx
  clear NT NA BQ2 BW
  go_wp2
  go_ret
  exact ⟨rfl, FB.out⟩
end Go.Proofs.Yteohjbggicchgaa
