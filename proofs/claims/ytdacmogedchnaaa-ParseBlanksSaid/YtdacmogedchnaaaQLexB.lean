/- Strings in a walk; package lex's classes of bytes, and the document's own. -/
import Derived.Test.YtdacmogedchnaaaQGenT
import Derived.Test.YtdacmogedchnaaaQLexA
import Derived.Lib.Hide
namespace Go.Proofs.Ytdacmogedchnaaa
open Go Go.RowKit
set_option maxRecDepth 100000
def sT (l : List UInt8) : Value := .string ⟨l.toArray⟩
theorem beq_sT (xs ys : List UInt8) : ((⟨xs.toArray⟩ : ByteArray).toList == (⟨ys.toArray⟩ : ByteArray).toList) = decide (xs = ys) := by
 rw [ByteArray.toList_eq, ByteArray.toList_eq]
 by_cases h : xs = ys
 ·subst h; simp
 ·rw [decide_eq_false h]
  simpa using h
theorem exec_sEq {P : Program} {a : Act} {w : World} {op : Oper} (t t2 : TypeId) (x y : Operand) (ho : op.op = .binOp .eql t x y t2) (xs ys : List UInt8) (ex : a.eval x = sT xs) (ey : a.eval y = sT ys) (hg : ∀ w, (eqGuard .eql t x y (sT xs) (sT ys)).run P w = .ok () w) : (execOp a.eval op).run P w = .ok (.value (.bool (decide (xs = ys)))) w := by
 have h : (binOp .eql t (sT xs) (sT ys)).run P w = .ok (.bool (decide (xs = ys))) w := by
  unfold sT
  rw [binOp_string_eql, beq_sT]
  rfl
 unfold execOp
 simp only [ho, ex, ey, Sem.run_bind, hg, Result.andThen_ok, h]
 rfl
theorem exec_sNe {P : Program} {a : Act} {w : World} {op : Oper} (t t2 : TypeId) (x y : Operand) (ho : op.op = .binOp .neq t x y t2) (xs ys : List UInt8) (ex : a.eval x = sT xs) (ey : a.eval y = sT ys) (hg : ∀ w, (eqGuard .neq t x y (sT xs) (sT ys)).run P w = .ok () w) : (execOp a.eval op).run P w = .ok (.value (.bool (!decide (xs = ys)))) w := by
 have h : (binOp .neq t (sT xs) (sT ys)).run P w = .ok (.bool (!decide (xs = ys))) w := by
  unfold sT
  rw [binOp_string_neq, beq_sT]
  rfl
 unfold execOp
 simp only [ho, ex, ey, Sem.run_bind, hg, Result.andThen_ok, h]
 rfl
theorem exec_sIdx {a : Act} {w : World} {op : Oper} (x ix : Operand) (ho : op.op = .index 9 x ix) (l : List UInt8) (ex : a.eval x = sT l) (i : Nat) (ei : a.eval ix = .int .i64 (i : Int)) (c : UInt8) (hc : l[i]? = some c) : (execOp a.eval op).run Try.prog w = .ok (.value (.int .u8 (c.toNat : Int))) w := by
 have hl : i < l.length := (List.getElem?_eq_some_iff.1 hc).1
 have hr : (Instr.index 9 (sT l) (.int .i64 (i : Int))).run Try.prog w = .ok (.int .u8 (c.toNat : Int)) w := by
  unfold sT
  rw [run_index_string w 9 _ _ _ Try.underlying9, dif_pos (by show (0 : Int) ≤ (i : Int) ∧ (i : Int) < (l.length : Int); omega)]
  have e : (⟨l.toArray⟩ : ByteArray)[((i : Int)).toNat]'(by show i < l.length; exact hl) = c := (List.getElem?_eq_some_iff.1 hc).2
  rw [e]
 unfold execOp
 simp only [ho, ex, ei, Sem.run_bind, hr, Result.andThen_ok]
 rfl
theorem run_sCut (l : List UInt8) (i j : Nat) (hi : i ≤ j) (hj : j ≤ l.length) (w : World) : (Instr.sliceAt 9 (sT l) (some (.int .i64 (i : Int))) (some (.int .i64 (j : Int))) none).run Try.prog w = .ok (sT ((l.drop i).take (j - i))) w := by
 unfold sT
 rw [show (Instr.sliceAt 9 _ _ _ none).run Try.prog w = (Instr.slice 9 _ _ _ none).run Try.prog w from run_sliceAt_string w 9 _ _ _ none Try.underlying9]
 rw [run_slice_string w 9 _ .i64 .i64 _ _ Try.underlying9 (by omega) (by omega) (by show (j : Int) ≤ (l.length : Int); omega)]
 rw [Int.toNat_natCast, Int.toNat_natCast, ByteArray.extract_mk]
theorem run_sFrom (l : List UInt8) (i : Nat) (hi : i ≤ l.length) (w : World) : (Instr.sliceAt 9 (sT l) (some (.int .i64 (i : Int))) none none).run Try.prog w = .ok (sT (l.drop i)) w := by
 unfold sT
 rw [show (Instr.sliceAt 9 _ _ _ none).run Try.prog w = (Instr.slice 9 _ _ _ none).run Try.prog w from run_sliceAt_string w 9 _ _ _ none Try.underlying9]
 rw [run_slice_string_l w 9 _ Try.underlying9 .i64 _ (by omega) (by show (i : Int) ≤ (l.length : Int); omega)]
 rw [Int.toNat_natCast, ByteArray.extract_mk, show (ByteArray.mk l.toArray).size = l.length from rfl, List.take_of_length_le (by rw [List.length_drop]; omega)]
theorem run_sTo (l : List UInt8) (j : Nat) (hj : j ≤ l.length) (w : World) : (Instr.sliceAt 9 (sT l) none (some (.int .i64 (j : Int))) none).run Try.prog w = .ok (sT (l.take j)) w := by
 unfold sT
 rw [show (Instr.sliceAt 9 _ _ _ none).run Try.prog w = (Instr.slice 9 _ _ _ none).run Try.prog w from run_sliceAt_string w 9 _ _ _ none Try.underlying9]
 rw [run_slice_string_h w 9 _ Try.underlying9 .i64 _ (by omega) (by show (j : Int) ≤ (l.length : Int); omega)]
 rw [Int.toNat_natCast, ByteArray.extract_mk, List.drop_zero, Nat.sub_zero]
/-- A function on a byte. -/
def PredF (g : FuncId) (p : UInt8 → Bool) : Prop := ∀ (c : UInt8) (w : World), Calls Try.prog g #[.int .u8 (c.toNat : Int)] w fun e w' => e = .returned (.bool (p c)) ∧ w' = w
def digZ (x : Int) : Bool := decide (48 ≤ x ∧ x ≤ 57)
def letZ (x : Int) : Bool := decide ((97 ≤ x ∧ x ≤ 122) ∨ (65 ≤ x ∧ x ≤ 90))
def comZ (x : Int) : Bool := decide (32 ≤ x ∧ x ≤ 126)
theorem isDig_z (c : UInt8) : isDig c = digZ (c.toNat : Int) := by
 unfold isDig digZ
 congr 1
 simp only [eq_iff_iff]
 omega
theorem isLet_z (c : UInt8) : isLet c = letZ (c.toNat : Int) := by
 unfold isLet letZ
 congr 1
 simp only [eq_iff_iff]
 omega
theorem inC_z (c : UInt8) : inC c = comZ (c.toNat : Int) := by
 unfold inC comZ
 congr 1
 simp only [eq_iff_iff]
 omega
theorem xisdig_walk : PredF 43 isDig := fun c w => by
 rw [isDig_z]
 obtain ⟨x, hx⟩ : ∃ x : Int, x = (c.toNat : Int) := ⟨_, rfl⟩
 rw [← hx]
 clear hx
 unfold digZ
 by_cases h1 : 48 ≤ x <;> by_cases h2 : x ≤ 57 <;>
  (go_enter Try.func43, Try.ntmps43
   go_wp2
   go_ret
   exact ⟨by simp [h1, h2], rfl⟩)
theorem xincom_walk : PredF 33 inC := fun c w => by
 rw [inC_z]
 obtain ⟨x, hx⟩ : ∃ x : Int, x = (c.toNat : Int) := ⟨_, rfl⟩
 rw [← hx]
 clear hx
 unfold comZ
 by_cases h1 : 32 ≤ x <;> by_cases h2 : x ≤ 126 <;>
  (go_enter Try.func33, Try.ntmps33
   go_wp2
   go_ret
   exact ⟨by simp [h1, h2], rfl⟩)
theorem xislet_walk : PredF 41 isLet := fun c w => by
 rw [isLet_z]
 obtain ⟨x, hx⟩ : ∃ x : Int, x = (c.toNat : Int) := ⟨_, rfl⟩
 rw [← hx]
 clear hx
 unfold letZ
 by_cases h1 : 97 ≤ x <;> by_cases h2 : x ≤ 122 <;> by_cases h3 : 65 ≤ x <;> by_cases h4 : x ≤ 90 <;>
  (go_enter Try.func41, Try.ntmps41
   go_wp2
   go_ret
   exact ⟨by simp [h1, h2, h3, h4], rfl⟩)
set_option maxHeartbeats 4000000 in
theorem xinw_walk : PredF 42 inW := fun c w => by
 have L := xislet_walk c
 have D := xisdig_walk c
 have e : inW c = (isLet c || isDig c || decide ((c.toNat : Int) = 95) || decide ((c.toNat : Int) = 46)) := by
  unfold inW
  congr 1
  ·congr 1
   congr 1
   simp only [eq_iff_iff]
   omega
  ·congr 1
   simp only [eq_iff_iff]
   omega
 rw [e]
 clear e
 generalize isLet c = b1 at *
 generalize isDig c = b2 at *
 generalize (c.toNat : Int) = x at *
 go_enter Try.func42, Try.ntmps42
 go_upto_region 0 with (fail)
 refine lbeg (opsOf Try.f42 0) ?_
 refine lnow 0 (.bool false) (some 2) ?_
 refine ldn 1 ?_
 generalize hact : Act.put _ (some 2) _ = act
 simp only [Act.put, sA, sC, sZ] at hact
 subst hact
 go_upto_region 1 with (fail)
 refine lbeg (opsOf Try.f42 1) ?_
 refine lnow 0 (.int .u8 x) (some 3) ?_
 refine lcal 1 41 #[.int .u8 x] (some 4) _ (L _) ?_
 rintro e w1 ⟨rfl, hw1⟩
 obtain rfl := hw1.symm
 refine ⟨_, rfl, ?_⟩
 cases b1 with
 | true =>
  refine lnow 2 (.bool true) (some 5) ?_
  refine lpas 3 (some 6) ?_
  refine lpas 4 (some 7) ?_
  refine lnow 5 (.bool true) (some 8) ?_
  refine lnow 6 (.bool true) (some 9) ?_
  refine lpas 7 (some 10) ?_
  refine lpas 8 (some 11) ?_
  refine lnow 9 (.bool true) (some 12) ?_
  refine lnow 10 (.bool true) (some 13) ?_
  refine lpas 11 (some 14) ?_
  refine lpas 12 (some 15) ?_
  refine lnow 13 (.bool true) (some 16) ?_
  refine lnow 14 (.bool true) (some 2) ?_
  refine ldn 15 ?_
  generalize hact : Act.put _ (some 2) _ = act
  simp only [Act.put, sA, sC, sZ] at hact
  subst hact
  go_wp2
  go_ret
  exact ⟨by simp, rfl⟩
 | false =>
  refine lnow 2 (.bool false) (some 5) ?_
  refine lnow 3 (.int .u8 x) (some 6) ?_
  refine lcal 4 43 #[.int .u8 x] (some 7) _ (D _) ?_
  rintro e w1 ⟨rfl, hw1⟩
  obtain rfl := hw1.symm
  refine ⟨_, rfl, ?_⟩
  cases b2 with
  | true =>
   refine lnow 5 (.bool true) (some 8) ?_
   refine lnow 6 (.bool true) (some 9) ?_
   refine lpas 7 (some 10) ?_
   refine lpas 8 (some 11) ?_
   refine lnow 9 (.bool true) (some 12) ?_
   refine lnow 10 (.bool true) (some 13) ?_
   refine lpas 11 (some 14) ?_
   refine lpas 12 (some 15) ?_
   refine lnow 13 (.bool true) (some 16) ?_
   refine lnow 14 (.bool true) (some 2) ?_
   refine ldn 15 ?_
   generalize hact : Act.put _ (some 2) _ = act
   simp only [Act.put, sA, sC, sZ] at hact
   subst hact
   go_wp2
   go_ret
   exact ⟨by simp, rfl⟩
  | false =>
   refine lnow 5 (.bool false) (some 8) ?_
   refine lnow 6 (.bool false) (some 9) ?_
   refine lnow 7 (.int .u8 x) (some 10) ?_
   refine lnow 8 (.bool (decide (x = 95))) (some 11) ?_
   by_cases h3 : x = 95
   ·rw [decide_eq_true h3]
    refine lnow 9 (.bool true) (some 12) ?_
    refine lnow 10 (.bool true) (some 13) ?_
    refine lpas 11 (some 14) ?_
    refine lpas 12 (some 15) ?_
    refine lnow 13 (.bool true) (some 16) ?_
    refine lnow 14 (.bool true) (some 2) ?_
    refine ldn 15 ?_
    generalize hact : Act.put _ (some 2) _ = act
    simp only [Act.put, sA, sC, sZ] at hact
    subst hact
    go_wp2
    go_ret
    exact ⟨by simp, rfl⟩
   ·rw [decide_eq_false h3]
    refine lnow 9 (.bool false) (some 12) ?_
    refine lnow 10 (.bool false) (some 13) ?_
    refine lnow 11 (.int .u8 x) (some 14) ?_
    refine lnow 12 (.bool (decide (x = 46))) (some 15) ?_
    refine lnow 13 (.bool (decide (x = 46))) (some 16) ?_
    refine lnow 14 (.bool (decide (x = 46))) (some 2) ?_
    refine ldn 15 ?_
    generalize hact : Act.put _ (some 2) _ = act
    simp only [Act.put, sA, sC, sZ] at hact
    subst hact
    go_wp2
    go_ret
    exact ⟨by simp, rfl⟩
end Go.Proofs.Ytdacmogedchnaaa
