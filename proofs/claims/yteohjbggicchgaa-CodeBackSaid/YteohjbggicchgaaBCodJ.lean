/- Num and Term: the program's and the document's. -/
import Derived.Test.YteohjbggicchgaaBGenT
import Derived.Test.YteohjbggicchgaaBCodI
import Derived.Test.YteohjbggicchgaaBTrmRr
import Derived.Test.YteohjbggicchgaaBTrmR
namespace Go.Proofs.Yteohjbggicchgaa
open Go Go.RowKit
set_option maxRecDepth 100000
/-- Bytes and true, or no bytes and false. -/
def GivesIf (ok : Bool) (us : List Int) (w : World) (e : Ending) (w' : World) : Prop := ∃ v, e = .returned (.tuple #[v, .bool ok]) ∧ RowB w.heap.size w' v us ∧ Below w.heap.size w w'
def numOk (n : Int) : Bool := decide (0 ≤ n) && decide (n ≤ 1099511627776)
def numV (n : Int) : List Int := if numOk n then numB n.toNat else []
theorem numOk_no {n : Int} (h : n < 0 ∨ n > 1099511627776) : numOk n = false := by
 unfold numOk
 rcases h with h | h
 ·rw [decide_eq_false (by omega), Bool.false_and]
 ·rw [decide_eq_false (show ¬ n ≤ 1099511627776 by omega), Bool.and_false]
theorem numOk_yes {n : Int} (h : ¬ n < 0) (h2 : ¬ n > 1099511627776) : numOk n = true := by
 unfold numOk
 rw [decide_eq_true (by omega), decide_eq_true (by omega)]
 rfl
def termOk (t : Tm) : Bool := rightP 4 1099511627776 t && !farT t
def termV (t : Tm) : List Int := if termOk t then termB t else []
theorem rightP_T {p v : Int} {t : Tm} (h : rightP p v t = true) : nodesT t ≤ 3000 ∧ rightT wordB p v 0 t = true := by
 unfold rightP at h
 simp only [Bool.and_eq_true, decide_eq_true_eq] at h
 exact ⟨h.2.1, h.2.2⟩
theorem termOk_10 {t : Tm} (h : termOk t = true) : Ok10 t ∧ nodesT t ≤ 3000 := by
 unfold termOk at h
 simp only [Bool.and_eq_true, Bool.not_eq_true'] at h
 obtain ⟨h1, h2⟩ := rightP_T h.1
 exact ⟨⟨⟨_, _, _, h2⟩, (far_near t).1 h.2⟩, h1⟩
theorem termOk_num {t : Tm} (h : rightP 4 1099511627776 t = true) : numT t = !farT t := by
 obtain ⟨h1, h2⟩ := rightP_T h
 have e1 := num_near t _ _ _ h2
 have e2 := far_near t
 cases h3 : numT t with
 | true => rw [e2.2 (e1.1 h3)]; rfl
 | false =>
  cases h4 : farT t with
  | true => rfl
  | false => have := e1.2 (e2.1 h4); rw [h3] at this; cases this
set_option maxHeartbeats 4000000 in
theorem Num_walk (n : Int) (w : World) : Calls Try.prog 10 #[.int .i64 n] w (GivesIf (numOk n) (numV n) w) := by
 by_cases h1 : n < 0 ∨ n > 1099511627776
 ·skip
  have NO := numOk_no h1
  rw [numV, NO, if_neg (by decide)]
  have FIN : GivesIf false [] w (.returned (.tuple #[.slice none 0 0, .bool false])) w := ⟨_, rfl, RowB.nil _ _, Below.refl _ _⟩
  by_cases h2 : n < 0
  ·go_enter Try.func10, Try.ntmps10
   go_wp2
   go_ret2
   exact FIN
  ·have h3 : n > 1099511627776 := h1.resolve_left h2
   go_enter Try.func10, Try.ntmps10
   go_wp2
   go_ret2
   exact FIN
 have h2 : ¬ n < 0 := fun h => h1 (.inl h)
 have h3 : ¬ n > 1099511627776 := fun h => h1 (.inr h)
 have YES := numOk_yes h2 h3
 rw [numV, YES, if_pos rfl]
 obtain ⟨N, rfl⟩ := Int.eq_ofNat_of_zero_le (show 0 ≤ n by omega)
 rw [Int.toNat_natCast]
 have NB : Hid (N ≤ 1099511627776) := by rw [Hid]; omega
 clear h1
 go_enter Try.func10, Try.ntmps10
 go_upto_region 3 with (fail)
 refine lbeg (opsOf Try.f10 3) ?_
 refine lnow 0 (.int .i64 (N : Int)) (some 10) ?_
 refine lcal 1 31 #[.slice none 0 0, .int .i64 (N : Int)] (some 11) _ (appNum_walk N (.slice none 0 0) [] w.heap.size w (RowB.nil _ _) (Nat.le_refl _) (by simp) (by have := NB.out; omega)) ?_
 rintro e w1 ⟨v1, rfl, r1, s1⟩
 refine ⟨_, rfl, ?_⟩
 have b1 : Below w.heap.size w w1 := s1.below_of (by simp [ownL_nil]) (Nat.le_refl _)
 rw [List.nil_append] at r1
 clear s1
 refine lnow 2 (v1) (some 2) ?_
 refine lnow 3 (.bool true) (some 3) ?_
 refine ldn 4 ?_
 generalize hact : Act.put _ (some 3) _ = act
 simp only [Act.put, sA, sC, sZ] at hact
 subst hact
 have R1 := Lib.hid r1
 have B1 := Lib.hid b1
 clear r1 b1
 go_wp2
 go_ret2
 exact ⟨v1, rfl, R1.out, B1.out⟩
set_option maxHeartbeats 4000000 in
theorem Term_walk {F : List Nat} (t : Tm) (cs : List Value) (w : World) (ht : TmAt F w t cs) (hs : SmT t) (hn : nodesT t ≤ 100000000000) : Calls Try.prog 12 #[.agg cs.toArray] w (GivesIf (termOk t) (termV t) w) := by
 obtain ⟨q, hq⟩ : ∃ q, Hid (w.heap.size = q) := ⟨_, rfl⟩
 have HT := Lib.hid ht
 have HS := Lib.hid hs
 have C5 := Lib.hid ht.len
 obtain ⟨okR, hokR⟩ : ∃ b, Hid (rightP 4 1099511627776 t = b) := ⟨_, rfl⟩
 obtain ⟨okF, hokF⟩ : ∃ b, Hid (farT t = b) := ⟨_, rfl⟩
 have EOK : Hid (termOk t = (okR && !okF)) := by rw [Hid, termOk, hokR.out, hokF.out]
 obtain ⟨TV, hTV⟩ : ∃ y, Hid (termV t = y) := ⟨_, rfl⟩
 have TVE : Hid (TV = if (okR && !okF) = true then termB t else []) := by rw [Hid, ← hTV.out, termV, EOK.out]
 rw [EOK.out, hTV.out]
 have HN := Lib.hid hn
 clear hn
 clear ht hs
 go_enter Try.func12, Try.ntmps12
 go_upto_region 0 with (fail)
 refine lbeg (opsOf Try.f12 0) ?_
 refine lbox 0 25 (.tmp 0) (cs) (q) (some 1) hq ?_
 intro w1 bw1 bew1 hsw1
 refine lnow 1 (.slice none 0 0) (some 2) ?_
 refine lnow 2 (.bool false) (some 3) ?_
 refine ldn 3 ?_
 generalize hact : Act.put _ (some 3) _ = act
 simp only [Act.put, sA, sC, sZ] at hact
 subst hact
 have BQ := Lib.hid bw1
 have BE : Hid (Below w.heap.size w w1) := by rw [Hid, hq.out]; exact bew1
 have HT1 := Lib.hid (HT.out.below BE.out)
 clear bw1 bew1 hsw1
 go_upto_region 1 with (fail)
 refine lbeg (opsOf Try.f12 1) ?_
 refine lrl 0 (cs) (some 4) 25 1 (q) 0 (BQ.out).whole Try.underlying25 (t5Size C5.out) ?_
 refine lcal 1 33 #[.agg cs.toArray, .int .i64 4, .int .i64 1099511627776] (some 5) _ (right_walk8 t cs 4 1099511627776 w1 HT1.out HS.out HN.out) ?_
 rintro e w2 ⟨rfl, b2⟩
 rw [hokR.out]
 refine ⟨_, rfl, ?_⟩
 have BQ2 := Lib.hid (BQ.out.below b2 BQ.out.lt)
 have HT2 := Lib.hid (HT1.out.below b2)
 have BE2 := Lib.hid (BE.out.trans (b2.mono BE.out.size))
 clear b2 BQ HT1 BE
 refine lnow 2 (.bool (!okR)) (some 6) ?_
 refine lnow 3 (.bool (!okR)) (some 7) ?_
 cases okR with
 | false =>
  refine lpas 4 (some 8) ?_
  refine lpas 5 (some 9) ?_
  refine lpas 6 (some 10) ?_
  refine lnow 7 (.bool true) (some 11) ?_
  refine ldn 8 ?_
  generalize hact : Act.put _ (some 11) _ = act
  simp only [Act.put, sA, sC, sZ] at hact
  subst hact
  obtain rfl : TV = [] := by rw [TVE.out]; rfl
  go_wp2
  go_ret2
  exact ⟨_, rfl, RowB.nil _ _, BE2.out⟩
 | true =>
  refine lrl 4 (cs) (some 8) 25 1 (q) 0 (BQ2.out).whole Try.underlying25 (t5Size C5.out) ?_
  refine lcal 5 34 #[.agg cs.toArray] (some 9) _ (numbered_walk t cs w2 F HT2.out HS.out) ?_
  rintro e w3 ⟨rfl, b3⟩
  refine ⟨_, rfl, ?_⟩
  have BQ3 := Lib.hid (BQ2.out.below b3 BQ2.out.lt)
  have HT3 := Lib.hid (HT2.out.below b3)
  have BE3 := Lib.hid (BE2.out.trans (b3.mono BE2.out.size))
  clear b3 BQ2 HT2 BE2
  refine lnow 6 (.bool (!numT t)) (some 10) ?_
  rw [show (!numT t) = okF by rw [termOk_num hokR.out, hokF.out, Bool.not_not]]
  refine lnow 7 (.bool okF) (some 11) ?_
  refine ldn 8 ?_
  generalize hact : Act.put _ (some 11) _ = act
  simp only [Act.put, sA, sC, sZ] at hact
  subst hact
  cases okF with
  | true =>
   obtain rfl : TV = [] := by rw [TVE.out]; rfl
   go_wp2
   go_ret2
   exact ⟨_, rfl, RowB.nil _ _, BE3.out⟩
  | false =>
   obtain rfl : TV = termB t := by rw [TVE.out]; rfl
   obtain ⟨K10, KN⟩ := termOk_10 (t := t) (by rw [EOK.out]; rfl)
   have LQ : Hid (w.heap.size ≤ w3.heap.size) := BE3.out.size
   go_upto_region 3 with (fail)
   refine lbeg (opsOf Try.f12 3) ?_
   refine lrl 0 (cs) (some 12) 25 1 (q) 0 (BQ3.out).whole Try.underlying25 (t5Size C5.out) ?_
   refine lcal 1 35 #[.slice none 0 0, .agg cs.toArray] (some 13) _ (appTerm_walk t cs (.slice none 0 0) [] w.heap.size w3 F HT3.out K10 (RowB.nil _ _) LQ.out (by simp [ownL_nil]) (by simp; omega)) ?_
   rintro e w4 ⟨v4, rfl, r4, s4⟩
   refine ⟨_, rfl, ?_⟩
   have b4 : Below w3.heap.size w3 w4 := s4.below_of (by simp [ownL_nil]) (Nat.le_refl _)
   rw [List.nil_append] at r4
   clear s4
   refine lnow 2 (v4) (some 2) ?_
   refine lnow 3 (.bool true) (some 3) ?_
   refine ldn 4 ?_
   generalize hact : Act.put _ (some 3) _ = act
   simp only [Act.put, sA, sC, sZ] at hact
   subst hact
   have R1 := Lib.hid r4
   have B1 := Lib.hid (BE3.out.trans (b4.mono BE3.out.size))
   clear r4 b4 K10 KN BQ3 HT3
   go_wp2
   go_ret2
   exact ⟨v4, rfl, R1.out, B1.out⟩
end Go.Proofs.Yteohjbggicchgaa
