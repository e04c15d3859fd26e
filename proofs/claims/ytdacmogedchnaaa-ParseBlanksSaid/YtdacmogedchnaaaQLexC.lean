/- Package lex: run, word, Number, number, sign, gap, length. -/
import Derived.Test.YtdacmogedchnaaaQGenT
import Derived.Test.YtdacmogedchnaaaQLexB
import Derived.Test.YtdacmogedchnaaaLexSh
namespace Go.Proofs.Ytdacmogedchnaaa
open Go Go.RowKit
set_option maxRecDepth 100000
theorem sprefix_walk (l p : List UInt8) (w : World) : Calls Try.prog 31 #[sT l, sT p] w fun e w' => e = .returned (.bool (Lib.hasPrefix l p)) ∧ w' = w := Try.strings_HasPrefix ⟨l.toArray⟩ ⟨p.toArray⟩ w
theorem sidxb_walk (p : List UInt8) (c : UInt8) (w : World) : Calls Try.prog 45 #[sT p, .int .u8 (c.toNat : Int)] w fun e w' => e = .returned (.int .i64 (Lib.indexByte p c)) ∧ w' = w := by
 have h := Try.strings_IndexByte ⟨p.toArray⟩ (c.toNat : Int) w
 rw [Int.toNat_natCast, show c.toNat.toUInt8 = c by simp] at h
 exact h
theorem u8w (x : Int) (h : 0 ≤ x ∧ x < 256) : IntKind.u8.wrap x = x := IntWalk.u8_in x (by omega)
theorem numV_snoc (l : List UInt8) (c : UInt8) : numV (l ++ [c]) = numV l * 10 + (c.toNat - 48) := by unfold numV; rw [List.foldl_append]; rfl
theorem numV_lt : ∀ (n : Nat) (l : List UInt8), l.length = n → l.all isDig = true → numV l < 10 ^ n
 | 0, l, hl, _ => by
  obtain rfl := List.eq_nil_of_length_eq_zero hl
  decide
 | n + 1, l, hl, ha => by
  have hne : l ≠ [] := fun e => by rw [e] at hl; simp at hl
  obtain ⟨l', c, rfl⟩ : ∃ l' c, l = l' ++ [c] := ⟨l.dropLast, l.getLast hne, (List.dropLast_concat_getLast hne).symm⟩
  rw [List.all_append, Bool.and_eq_true] at ha
  have hl' : l'.length = n := by simpa using hl
  have ih := numV_lt n l' hl' ha.1
  have hc : isDig c = true := by simpa using ha.2
  have hc2 : c.toNat ≤ 57 := by unfold isDig at hc; simp at hc; exact hc.2
  rw [numV_snoc, Nat.pow_succ]
  omega
theorem numV_le {l : List UInt8} (hl : l.length ≤ 6) (ha : l.all isDig = true) : numV l ≤ 999999 := by
 have h1 := numV_lt _ l rfl ha
 have h2 : 10 ^ l.length ≤ 10 ^ 6 := Nat.pow_le_pow_right (by decide) hl
 have h3 : (10 : Nat) ^ 6 = 1000000 := by decide
 omega
theorem take_snoc {α : Type} {l : List α} {k : Nat} {c : α} (h : l[k]? = some c) : l.take (k + 1) = l.take k ++ [c] := by
 rw [List.take_add_one, h]; rfl
theorem all_false {l : List UInt8} {k : Nat} {c : UInt8} (h : l[k]? = some c) (hc : isDig c = false) : l.all isDig = false := by
 cases hb : l.all isDig with
 | false => rfl
 | true =>
  have := List.all_eq_true.1 hb c (List.mem_of_getElem? h)
  rw [hc] at this; cases this
set_option maxHeartbeats 2000000 in
theorem xrun_walk (g : FuncId) (p : UInt8 → Bool) (eg : ∀ args w, (callFunc g args).run Try.prog w = .ok (.enter g args) w) (hp : PredF g p) (l : List UInt8) (hl : l.length ≤ 1000000) (w : World) : Calls Try.prog 32 #[sT l, .func (.func g) #[] #[]] w fun e w' => e = .returned (.int .i64 (runL p l : Int)) ∧ w' = w := by
 obtain ⟨N, hN⟩ : ∃ N, Hid (l.length = N) := ⟨_, rfl⟩
 have HP := Lib.hid hp
 have EG := Lib.hid eg
 have NB : Hid (N ≤ 1000000) := by rw [← hN.out]; exact hl
 clear hp eg hl
 go_enter Try.func32, Try.ntmps32
 go_upto_region 0 with (fail)
 refine lbeg (opsOf Try.f32 0) ?_
 refine lnow 0 (.int .i64 0) (some 4) ?_
 refine ldn 1 ?_
 generalize hact : Act.put _ (some 4) _ = act
 simp only [Act.put, sA, sC, sZ] at hact
 subst hact
 go_upto_region 1 with (fail)
 refine lbeg (opsOf Try.f32 1) ?_
 refine lnow 0 (.int .i64 0) (some 5) ?_
 refine ldn 1 ?_
 generalize hact : Act.put _ (some 5) _ = act
 simp only [Act.put, sA, sC, sZ] at hact
 subst hact
 go_wp2
 go_loop [5] (fun kv => ∃ k : Nat, k ≤ N ∧ kv = .int .i64 (k : Int) ∧ Hid (runL p l = k + runL p (l.drop k))) (fun kv => N - (intOf kv).toNat)
 case atStart => exact ⟨0, Nat.zero_le _, rfl, by rw [Hid, List.drop_zero, Nat.zero_add]⟩
 case round =>
  obtain ⟨k, hk, rfl, HR⟩ := hrel
  have nb := NB.out
  by_cases hlt : k < N
  rotate_left
  ·skip
   obtain rfl : k = N := by omega
   have ER : Hid (runL p l = k) := by rw [Hid, HR.out, List.drop_eq_nil_of_le (by have := hN.out; omega)]; rfl
   have c1 : ¬ ((k : Int) < (k : Int)) := by omega
   go_upto_region 2 with (fail)
   refine lbeg (opsOf Try.f32 2) ?_
   refine lnow 0 (.int .i64 (k : Int)) (some 6) ?_
   refine lnow 1 (sT l) (some 7) ?_
   refine lnow 2 (.int .i64 (l.length : Int)) (some 8) ?_
   rw [hN.out]
   refine lnow 3 (.bool (decide ((k : Int) < (k : Int)))) (some 9) ?_
   rw [decide_eq_false c1]
   refine lnow 4 (.bool false) (some 10) ?_
   refine lpas 5 (some 11) ?_
   refine lpas 6 (some 12) ?_
   refine lpas 7 (some 13) ?_
   refine lpas 8 (some 14) ?_
   refine lpas 9 (some 15) ?_
   refine lnow 10 (.bool false) (some 16) ?_
   refine ldn 11 ?_
   generalize hact : Act.put _ (some 16) _ = act
   simp only [Act.put, sA, sC, sZ] at hact
   subst hact
   go_wp2
   go_ret
   exact ⟨by rw [ER.out]; rfl, rfl⟩
  have c1 : (k : Int) < (N : Int) := by omega
  obtain ⟨c, hc⟩ : ∃ c, Hid (l[k]? = some c) := ⟨_, List.getElem?_eq_getElem (by rw [hN.out]; exact hlt)⟩
  have DR : Hid (l.drop k = c :: l.drop (k + 1)) := by have h := hc.out; rw [Hid, List.drop_eq_getElem_cons (by rw [hN.out]; exact hlt)]; rw [List.getElem?_eq_getElem (by rw [hN.out]; exact hlt)] at h; rw [Option.some.inj h]
  go_upto_region 2 with (fail)
  refine lbeg (opsOf Try.f32 2) ?_
  refine lnow 0 (.int .i64 (k : Int)) (some 6) ?_
  refine lnow 1 (sT l) (some 7) ?_
  refine lnow 2 (.int .i64 (l.length : Int)) (some 8) ?_
  rw [hN.out]
  refine lnow 3 (.bool (decide ((k : Int) < (N : Int)))) (some 9) ?_
  rw [decide_eq_true c1]
  refine lnow 4 (.bool true) (some 10) ?_
  refine lnow 5 (.func (.func g) #[] #[]) (some 11) ?_
  refine lnow 6 (sT l) (some 12) ?_
  refine lnow 7 (.int .i64 (k : Int)) (some 13) ?_
  refine lnowP 8 (.int .u8 (c.toNat : Int)) (some 14) (exec_sIdx (.tmp 12) (.tmp 13) (by kernel_rfl) (l) (by kernel_rfl) (k) (by kernel_rfl) c hc.out) ?_
  refine lin_call 9 g #[.int .u8 (c.toNat : Int)] (some 15) _ (by kernel_rfl) (by kernel_rfl) ((congrArg (fun z : Sem Next => z.run Try.prog w) (show execOp _ _ = callFunc g #[.int .u8 (c.toNat : Int)] by kernel_rfl)).trans (EG.out _ _)) (HP.out c w) ?_
  rintro e w1 ⟨rfl, hw1⟩
  obtain rfl := hw1.symm
  refine ⟨_, rfl, ?_⟩
  cases hb : p c with
  | false =>
   have ER : Hid (runL p l = k) := by rw [Hid, HR.out, DR.out, runL_cons, if_neg (by rw [hb]; simp)]; rfl
   refine lnow 10 (.bool false) (some 16) ?_
   refine ldn 11 ?_
   generalize hact : Act.put _ (some 16) _ = act
   simp only [Act.put, sA, sC, sZ] at hact
   subst hact
   clear hb DR HR
   go_wp2
   go_ret
   exact ⟨by rw [ER.out]; rfl, rfl⟩
  | true =>
   have ER : Hid (runL p l = (k + 1) + runL p (l.drop (k + 1))) := by rw [Hid, HR.out, DR.out, runL_cons, if_pos hb]; omega
   refine lnow 10 (.bool true) (some 16) ?_
   refine ldn 11 ?_
   generalize hact : Act.put _ (some 16) _ = act
   simp only [Act.put, sA, sC, sZ] at hact
   subst hact
   clear hb DR HR
   go_wp2
   go_round
   case rel => exact ⟨k + 1, by omega, by go_num, ER⟩
   case measure => simp [intOf]; omega
set_option maxHeartbeats 2000000 in
theorem xword_walk (c : UInt8) (r : List UInt8) (l : List UInt8) (el : l = c :: r) (hl : l.length ≤ 1000000) (w : World) : Calls Try.prog 27 #[sT l] w fun e w' => e = .returned (.int .i64 (wordL l : Int)) ∧ w' = w := by
 have HL := Lib.hid hl
 have HC : Hid (l[0]? = some c) := by rw [Hid, el]; rfl
 have EL := Lib.hid el
 clear el hl
 obtain ⟨R, hR⟩ : ∃ R, Hid (wordL l = R) := ⟨_, rfl⟩
 rw [hR.out]
 have EW : Hid (R = if isLet c = true then runL inW l else 0) := by rw [Hid, ← hR.out, EL.out, wordL]
 go_enter Try.func27, Try.ntmps27
 go_upto_region 0 with (fail)
 refine lbeg (opsOf Try.f27 0) ?_
 refine lnow 0 (.int .i64 0) (some 2) ?_
 refine ldn 1 ?_
 generalize hact : Act.put _ (some 2) _ = act
 simp only [Act.put, sA, sC, sZ] at hact
 subst hact
 go_upto_region 1 with (fail)
 refine lbeg (opsOf Try.f27 1) ?_
 refine lnow 0 (sT l) (some 3) ?_
 refine lnowP 1 (.int .u8 (c.toNat : Int)) (some 4) (exec_sIdx (.tmp 3) (.const (.int .i64 0)) (by kernel_rfl) (l) (by kernel_rfl) (0) (by kernel_rfl) c HC.out) ?_
 refine lcal 2 41 #[.int .u8 (c.toNat : Int)] (some 5) _ (xislet_walk c _) ?_
 rintro e w1 ⟨rfl, hw1⟩
 obtain rfl := hw1.symm
 refine ⟨_, rfl, ?_⟩
 cases hb : isLet c with
 | false =>
  have E0 : Hid (R = 0) := by rw [Hid, EW.out, hb]; rfl
  refine lnow 3 (.bool true) (some 6) ?_
  refine ldn 4 ?_
  generalize hact : Act.put _ (some 6) _ = act
  simp only [Act.put, sA, sC, sZ] at hact
  subst hact
  clear hb EW
  go_wp2
  go_ret
  exact ⟨by rw [E0.out]; rfl, rfl⟩
 | true =>
  have E0 : Hid (runL inW l = R) := by rw [Hid, EW.out, hb]; rfl
  refine lnow 3 (.bool false) (some 6) ?_
  refine ldn 4 ?_
  generalize hact : Act.put _ (some 6) _ = act
  simp only [Act.put, sA, sC, sZ] at hact
  subst hact
  clear hb EW
  go_upto_region 3 with (fail)
  refine lbeg (opsOf Try.f27 3) ?_
  refine lnow 0 (sT l) (some 7) ?_
  refine lcal 1 32 #[sT l, .func (.func 42) #[] #[]] (some 8) _ (xrun_walk 42 inW (enters_of Try.func42 (by kernel_rfl) rfl) xinw_walk l HL.out _) ?_
  rintro e w1 ⟨rfl, hw1⟩
  obtain rfl := hw1.symm
  refine ⟨_, rfl, ?_⟩
  rw [E0.out]
  refine lnow 2 (.int .i64 (R : Int)) (some 2) ?_
  refine ldn 3 ?_
  generalize hact : Act.put _ (some 2) _ = act
  simp only [Act.put, sA, sC, sZ] at hact
  subst hact
  go_wp2
  go_ret
  exact ⟨rfl, rfl⟩
set_option maxHeartbeats 4000000 in
theorem xnumber_walk (l : List UInt8) (w : World) : Calls Try.prog 44 #[sT l] w fun e w' => e = .returned (.tuple #[.int .i64 (((numO l).getD 0 : Nat) : Int), .bool (numO l).isSome]) ∧ w' = w := by
 obtain ⟨N, hN⟩ : ∃ N, Hid (l.length = N) := ⟨_, rfl⟩
 obtain ⟨R, hR⟩ : ∃ R, Hid (numO l = R) := ⟨_, rfl⟩
 rw [hR.out]
 go_enter Try.func44, Try.ntmps44
 go_upto_region 0 with (fail)
 refine lbeg (opsOf Try.f44 0) ?_
 refine lnow 0 (.int .i64 0) (some 2) ?_
 refine lnow 1 (.bool false) (some 3) ?_
 refine ldn 2 ?_
 generalize hact : Act.put _ (some 3) _ = act
 simp only [Act.put, sA, sC, sZ] at hact
 subst hact
 by_cases he : l = []
 ·have E0 : Hid (R = none) := by rw [Hid, ← hR.out]; exact if_pos (.inl he)
  go_upto_region 1 with (fail)
  refine lbeg (opsOf Try.f44 1) ?_
  refine lnow 0 (sT l) (some 6) ?_
  refine lnowP 1 (.bool (decide (l = []))) (some 7) (exec_sEq 9 9 (.tmp 6) (.const (.string ⟨#[]⟩)) (by kernel_rfl) l [] (by kernel_rfl) (by kernel_rfl) (fun _ => rfl)) ?_
  rw [decide_eq_true he]
  refine lnow 2 (.bool true) (some 8) ?_
  refine lpas 3 (some 9) ?_
  refine lpas 4 (some 10) ?_
  refine lpas 5 (some 11) ?_
  refine lnow 6 (.bool true) (some 12) ?_
  refine lnow 7 (.bool true) (some 13) ?_
  refine lpas 8 (some 14) ?_
  refine lpas 9 (some 15) ?_
  refine lpas 10 (some 16) ?_
  refine lpas 11 (some 17) ?_
  refine lpas 12 (some 18) ?_
  refine lpas 13 (some 19) ?_
  refine lpas 14 (some 20) ?_
  refine lpas 15 (some 21) ?_
  refine lnow 16 (.bool true) (some 22) ?_
  refine ldn 17 ?_
  generalize hact : Act.put _ (some 22) _ = act
  simp only [Act.put, sA, sC, sZ] at hact
  subst hact
  clear he hR
  go_wp2
  go_ret2
  exact ⟨by rw [E0.out]; rfl, rfl⟩
 by_cases h6 : (N : Int) > 6
 ·have E0 : Hid (R = none) := by rw [Hid, ← hR.out]; exact if_pos (.inr (.inl (by have := hN.out; omega)))
  go_upto_region 1 with (fail)
  refine lbeg (opsOf Try.f44 1) ?_
  refine lnow 0 (sT l) (some 6) ?_
  refine lnowP 1 (.bool (decide (l = []))) (some 7) (exec_sEq 9 9 (.tmp 6) (.const (.string ⟨#[]⟩)) (by kernel_rfl) l [] (by kernel_rfl) (by kernel_rfl) (fun _ => rfl)) ?_
  rw [decide_eq_false he]
  refine lnow 2 (.bool false) (some 8) ?_
  refine lnow 3 (sT l) (some 9) ?_
  refine lnow 4 (.int .i64 (l.length : Int)) (some 10) ?_
  rw [hN.out]
  refine lnow 5 (.bool (decide ((N : Int) > 6))) (some 11) ?_
  rw [decide_eq_true h6]
  refine lnow 6 (.bool true) (some 12) ?_
  refine lnow 7 (.bool true) (some 13) ?_
  refine lpas 8 (some 14) ?_
  refine lpas 9 (some 15) ?_
  refine lpas 10 (some 16) ?_
  refine lpas 11 (some 17) ?_
  refine lpas 12 (some 18) ?_
  refine lpas 13 (some 19) ?_
  refine lpas 14 (some 20) ?_
  refine lpas 15 (some 21) ?_
  refine lnow 16 (.bool true) (some 22) ?_
  refine ldn 17 ?_
  generalize hact : Act.put _ (some 22) _ = act
  simp only [Act.put, sA, sC, sZ] at hact
  subst hact
  clear he hR
  go_wp2
  go_ret2
  exact ⟨by rw [E0.out]; rfl, rfl⟩
 obtain ⟨c, r, ec⟩ : ∃ c r, l = c :: r := by cases l with | nil => exact absurd rfl he | cons c r => exact ⟨c, r, rfl⟩
 have HC : Hid (l[0]? = some c) := by rw [Hid, ec]; rfl
 have HH : Hid (l.head? = some c) := by rw [Hid, ec]; rfl
 clear ec
 have LOOP : ∀ a : Act, True := fun _ => trivial
 clear LOOP
 have N6 : Hid (N ≤ 6) := by rw [Hid]; omega
 by_cases h1 : (N : Int) > 1
 rotate_left
 ·skip
  have NBAD : Hid (¬ (l = [] ∨ 6 < l.length ∨ (1 < l.length ∧ l.head? = some 48))) := by rw [Hid]; rintro (h | h | h); exact he h; (have := hN.out; omega); (have := hN.out; have := h.1; omega)
  go_upto_region 1 with (fail)
  refine lbeg (opsOf Try.f44 1) ?_
  refine lnow 0 (sT l) (some 6) ?_
  refine lnowP 1 (.bool (decide (l = []))) (some 7) (exec_sEq 9 9 (.tmp 6) (.const (.string ⟨#[]⟩)) (by kernel_rfl) l [] (by kernel_rfl) (by kernel_rfl) (fun _ => rfl)) ?_
  rw [decide_eq_false he]
  refine lnow 2 (.bool false) (some 8) ?_
  refine lnow 3 (sT l) (some 9) ?_
  refine lnow 4 (.int .i64 (l.length : Int)) (some 10) ?_
  rw [hN.out]
  refine lnow 5 (.bool (decide ((N : Int) > 6))) (some 11) ?_
  rw [decide_eq_false h6]
  refine lnow 6 (.bool false) (some 12) ?_
  refine lnow 7 (.bool false) (some 13) ?_
  refine lnow 8 (sT l) (some 14) ?_
  refine lnow 9 (.int .i64 (l.length : Int)) (some 15) ?_
  rw [hN.out]
  refine lnow 10 (.bool (decide ((N : Int) > 1))) (some 16) ?_
  rw [decide_eq_false h1]
  refine lnow 11 (.bool false) (some 17) ?_
  refine lpas 12 (some 18) ?_
  refine lpas 13 (some 19) ?_
  refine lpas 14 (some 20) ?_
  refine lnow 15 (.bool false) (some 21) ?_
  refine lnow 16 (.bool false) (some 22) ?_
  refine ldn 17 ?_
  generalize hact : Act.put _ (some 22) _ = act
  simp only [Act.put, sA, sC, sZ] at hact
  subst hact
  clear h1 h6
  go_upto_region 3 with (fail)
  refine lbeg (opsOf Try.f44 3) ?_
  refine lnow 0 (.int .i64 0) (some 4) ?_
  refine ldn 1 ?_
  generalize hact : Act.put _ (some 4) _ = act
  simp only [Act.put, sA, sC, sZ] at hact
  subst hact
  go_upto_region 4 with (fail)
  refine lbeg (opsOf Try.f44 4) ?_
  refine lnow 0 (sT l) (some 23) ?_
  refine lnow 1 (.int .i64 (l.length : Int)) (some 24) ?_
  rw [hN.out]
  refine lnow 2 (.int .i64 0) (some 25) ?_
  refine ldn 3 ?_
  generalize hact : Act.put _ (some 25) _ = act
  simp only [Act.put, sA, sC, sZ] at hact
  subst hact
  clear HC HH he
  go_wp2
  go_loop [4, 25] (fun nv kv => ∃ k : Nat, k ≤ N ∧ kv = .int .i64 (k : Int) ∧ nv = .int .i64 (numV (l.take k) : Int) ∧ Hid ((l.take k).all isDig = true)) (fun _ kv => N - (intOf kv).toNat)
  case atStart => exact ⟨0, Nat.zero_le _, rfl, rfl, rfl⟩
  case round =>
   obtain ⟨k, hk, rfl, rfl, HA⟩ := hrel
   have n6 := N6.out
   by_cases hlt : k < N
   rotate_left
   ·skip
    obtain rfl : k = N := by omega
    have ET : Hid (l.take k = l) := List.take_of_length_le (by have := hN.out; omega)
    have c1 : ¬ ((k : Int) < (k : Int)) := by omega
    have E0 : Hid (R = some (numV l)) := by rw [Hid, ← hR.out]; have ha := HA.out; rw [ET.out] at ha; exact if_neg (fun hb => NBAD.out (by rcases hb with h | h | h | h; exact .inl h; exact .inr (.inl h); exact .inr (.inr h); rw [ha] at h; cases h))
    rw [ET.out]
    go_upto_region 5 with (fail)
    refine lbeg (opsOf Try.f44 5) ?_
    refine lnow 0 (.bool (decide ((k : Int) < (k : Int)))) (some 26) ?_
    rw [decide_eq_false c1]
    refine ldn 1 ?_
    generalize hact : Act.put _ (some 26) _ = act
    simp only [Act.put, sA, sC, sZ] at hact
    subst hact
    obtain ⟨V, hV⟩ : ∃ V, Hid (numV l = V) := ⟨_, rfl⟩
    rw [hV.out] at E0 ⊢
    clear hR HA
    go_wp2
    go_ret2
    exact ⟨by rw [E0.out]; rfl, rfl⟩
   have c1 : (k : Int) < (N : Int) := by omega
   obtain ⟨c, hc⟩ : ∃ c, Hid (l[k]? = some c) := ⟨_, List.getElem?_eq_getElem (by rw [hN.out]; exact hlt)⟩
   obtain ⟨V, hV⟩ : ∃ V, Hid (numV (l.take k) = V) := ⟨_, rfl⟩
   rw [hV.out]
   go_upto_region 5 with (fail)
   refine lbeg (opsOf Try.f44 5) ?_
   refine lnow 0 (.bool (decide ((k : Int) < (N : Int)))) (some 26) ?_
   rw [decide_eq_true c1]
   refine ldn 1 ?_
   generalize hact : Act.put _ (some 26) _ = act
   simp only [Act.put, sA, sC, sZ] at hact
   subst hact
   go_upto_region 6 with (fail)
   refine lbeg (opsOf Try.f44 6) ?_
   refine lnow 0 (.int .i64 (k : Int)) (some 27) ?_
   refine lnow 1 (.int .i64 (k : Int)) (some 5) ?_
   refine ldn 2 ?_
   generalize hact : Act.put _ (some 5) _ = act
   simp only [Act.put, sA, sC, sZ] at hact
   subst hact
   go_upto_region 7 with (fail)
   refine lbeg (opsOf Try.f44 7) ?_
   refine lnow 0 (sT l) (some 28) ?_
   refine lnow 1 (.int .i64 (k : Int)) (some 29) ?_
   refine lnowP 2 (.int .u8 (c.toNat : Int)) (some 30) (exec_sIdx (.tmp 28) (.tmp 29) (by kernel_rfl) (l) (by kernel_rfl) (k) (by kernel_rfl) c hc.out) ?_
   refine lcal 3 43 #[.int .u8 (c.toNat : Int)] (some 31) _ (xisdig_walk c _) ?_
   rintro e w1 ⟨rfl, hw1⟩
   obtain rfl := hw1.symm
   refine ⟨_, rfl, ?_⟩
   cases hb : isDig c with
   | false =>
    have E0 : Hid (R = none) := by rw [Hid, ← hR.out]; exact if_pos (.inr (.inr (.inr (all_false hc.out hb))))
    refine lnow 4 (.bool true) (some 32) ?_
    refine ldn 5 ?_
    generalize hact : Act.put _ (some 32) _ = act
    simp only [Act.put, sA, sC, sZ] at hact
    subst hact
    clear hb hR HA
    go_wp2
    go_ret2
    exact ⟨by rw [E0.out]; rfl, rfl⟩
   | true =>
    have EA : Hid ((l.take (k + 1)).all isDig = true) := by rw [Hid, take_snoc hc.out, List.all_append, HA.out]; simp [hb]
    have cb : 48 ≤ c.toNat ∧ c.toNat ≤ 57 := by unfold isDig at hb; simpa using hb
    have EV : Hid (numV (l.take (k + 1)) = V * 10 + (c.toNat - 48)) := by rw [Hid, take_snoc hc.out, numV_snoc, hV.out]
    have VB : V * 10 + (c.toNat - 48) ≤ 999999 := by rw [← EV.out]; exact numV_le (by rw [List.length_take]; omega) EA.out
    refine lnow 4 (.bool false) (some 32) ?_
    refine ldn 5 ?_
    generalize hact : Act.put _ (some 32) _ = act
    simp only [Act.put, sA, sC, sZ] at hact
    subst hact
    clear hb HA
    go_upto_region 9 with (fail)
    refine lbeg (opsOf Try.f44 9) ?_
    refine lnow 0 (.int .i64 (V : Int)) (some 33) ?_
    refine lnow 1 (.int .i64 (IntKind.i64.wrap ((V : Int) * 10))) (some 34) ?_
    rw [show IntKind.i64.wrap ((V : Int) * 10) = (V : Int) * 10 from IntWalk.i64_in _ (by omega)]
    refine lnow 2 (sT l) (some 35) ?_
    refine lnow 3 (.int .i64 (k : Int)) (some 36) ?_
    refine lnowP 4 (.int .u8 (c.toNat : Int)) (some 37) (exec_sIdx (.tmp 35) (.tmp 36) (by kernel_rfl) (l) (by kernel_rfl) (k) (by kernel_rfl) c hc.out) ?_
    refine lnow 5 (.int .u8 (IntKind.u8.wrap ((c.toNat : Int) - 48))) (some 38) ?_
    rw [show IntKind.u8.wrap ((c.toNat : Int) - 48) = (c.toNat : Int) - 48 from u8w _ (by omega)]
    refine lnow 6 (.int .i64 (IntKind.i64.wrap ((c.toNat : Int) - 48))) (some 39) ?_
    rw [show IntKind.i64.wrap ((c.toNat : Int) - 48) = (c.toNat : Int) - 48 from IntWalk.i64_in _ (by omega)]
    refine lnow 7 (.int .i64 (IntKind.i64.wrap ((V : Int) * 10 + ((c.toNat : Int) - 48)))) (some 40) ?_
    rw [show IntKind.i64.wrap ((V : Int) * 10 + ((c.toNat : Int) - 48)) = (V : Int) * 10 + ((c.toNat : Int) - 48) from IntWalk.i64_in _ (by omega)]
    refine lnow 8 (.int .i64 ((V : Int) * 10 + ((c.toNat : Int) - 48))) (some 4) ?_
    refine ldn 9 ?_
    generalize hact : Act.put _ (some 4) _ = act
    simp only [Act.put, sA, sC, sZ] at hact
    subst hact
    clear hc hV
    go_wp2
    go_round
    case rel => exact ⟨k + 1, by omega, by go_num, by rw [EV.out]; congr 1; omega, EA⟩
    case measure => simp [intOf]; omega
 by_cases hz : (c.toNat : Int) = 48
 ·have E0 : Hid (R = none) := by rw [Hid, ← hR.out]; exact if_pos (.inr (.inr (.inl ⟨by have := hN.out; omega, by rw [HH.out, show c = 48 from by rw [← UInt8.toNat_inj]; exact Int.ofNat.inj hz]⟩)))
  go_upto_region 1 with (fail)
  refine lbeg (opsOf Try.f44 1) ?_
  refine lnow 0 (sT l) (some 6) ?_
  refine lnowP 1 (.bool (decide (l = []))) (some 7) (exec_sEq 9 9 (.tmp 6) (.const (.string ⟨#[]⟩)) (by kernel_rfl) l [] (by kernel_rfl) (by kernel_rfl) (fun _ => rfl)) ?_
  rw [decide_eq_false he]
  refine lnow 2 (.bool false) (some 8) ?_
  refine lnow 3 (sT l) (some 9) ?_
  refine lnow 4 (.int .i64 (l.length : Int)) (some 10) ?_
  rw [hN.out]
  refine lnow 5 (.bool (decide ((N : Int) > 6))) (some 11) ?_
  rw [decide_eq_false h6]
  refine lnow 6 (.bool false) (some 12) ?_
  refine lnow 7 (.bool false) (some 13) ?_
  refine lnow 8 (sT l) (some 14) ?_
  refine lnow 9 (.int .i64 (l.length : Int)) (some 15) ?_
  rw [hN.out]
  refine lnow 10 (.bool (decide ((N : Int) > 1))) (some 16) ?_
  rw [decide_eq_true h1]
  refine lnow 11 (.bool true) (some 17) ?_
  refine lnow 12 (sT l) (some 18) ?_
  refine lnowP 13 (.int .u8 (c.toNat : Int)) (some 19) (exec_sIdx (.tmp 18) (.const (.int .i64 0)) (by kernel_rfl) (l) (by kernel_rfl) (0) (by kernel_rfl) c HC.out) ?_
  refine lnow 14 (.bool (decide ((c.toNat : Int) = 48))) (some 20) ?_
  rw [decide_eq_true hz]
  refine lnow 15 (.bool true) (some 21) ?_
  refine lnow 16 (.bool true) (some 22) ?_
  refine ldn 17 ?_
  generalize hact : Act.put _ (some 22) _ = act
  simp only [Act.put, sA, sC, sZ] at hact
  subst hact
  clear he hR
  go_wp2
  go_ret2
  exact ⟨by rw [E0.out]; rfl, rfl⟩
 have NBAD : Hid (¬ (l = [] ∨ 6 < l.length ∨ (1 < l.length ∧ l.head? = some 48))) := by rw [Hid]; rintro (h | h | h); exact he h; (have := hN.out; omega); (have h2 := h.2; rw [HH.out] at h2; have h3 := Option.some.inj h2; subst h3; exact hz rfl)
 go_upto_region 1 with (fail)
 refine lbeg (opsOf Try.f44 1) ?_
 refine lnow 0 (sT l) (some 6) ?_
 refine lnowP 1 (.bool (decide (l = []))) (some 7) (exec_sEq 9 9 (.tmp 6) (.const (.string ⟨#[]⟩)) (by kernel_rfl) l [] (by kernel_rfl) (by kernel_rfl) (fun _ => rfl)) ?_
 rw [decide_eq_false he]
 refine lnow 2 (.bool false) (some 8) ?_
 refine lnow 3 (sT l) (some 9) ?_
 refine lnow 4 (.int .i64 (l.length : Int)) (some 10) ?_
 rw [hN.out]
 refine lnow 5 (.bool (decide ((N : Int) > 6))) (some 11) ?_
 rw [decide_eq_false h6]
 refine lnow 6 (.bool false) (some 12) ?_
 refine lnow 7 (.bool false) (some 13) ?_
 refine lnow 8 (sT l) (some 14) ?_
 refine lnow 9 (.int .i64 (l.length : Int)) (some 15) ?_
 rw [hN.out]
 refine lnow 10 (.bool (decide ((N : Int) > 1))) (some 16) ?_
 rw [decide_eq_true h1]
 refine lnow 11 (.bool true) (some 17) ?_
 refine lnow 12 (sT l) (some 18) ?_
 refine lnowP 13 (.int .u8 (c.toNat : Int)) (some 19) (exec_sIdx (.tmp 18) (.const (.int .i64 0)) (by kernel_rfl) (l) (by kernel_rfl) (0) (by kernel_rfl) c HC.out) ?_
 refine lnow 14 (.bool (decide ((c.toNat : Int) = 48))) (some 20) ?_
 rw [decide_eq_false hz]
 refine lnow 15 (.bool false) (some 21) ?_
 refine lnow 16 (.bool false) (some 22) ?_
 refine ldn 17 ?_
 generalize hact : Act.put _ (some 22) _ = act
 simp only [Act.put, sA, sC, sZ] at hact
 subst hact
 clear h1 h6 hz
 go_upto_region 3 with (fail)
 refine lbeg (opsOf Try.f44 3) ?_
 refine lnow 0 (.int .i64 0) (some 4) ?_
 refine ldn 1 ?_
 generalize hact : Act.put _ (some 4) _ = act
 simp only [Act.put, sA, sC, sZ] at hact
 subst hact
 go_upto_region 4 with (fail)
 refine lbeg (opsOf Try.f44 4) ?_
 refine lnow 0 (sT l) (some 23) ?_
 refine lnow 1 (.int .i64 (l.length : Int)) (some 24) ?_
 rw [hN.out]
 refine lnow 2 (.int .i64 0) (some 25) ?_
 refine ldn 3 ?_
 generalize hact : Act.put _ (some 25) _ = act
 simp only [Act.put, sA, sC, sZ] at hact
 subst hact
 clear HC HH he
 go_wp2
 go_loop [4, 25] (fun nv kv => ∃ k : Nat, k ≤ N ∧ kv = .int .i64 (k : Int) ∧ nv = .int .i64 (numV (l.take k) : Int) ∧ Hid ((l.take k).all isDig = true)) (fun _ kv => N - (intOf kv).toNat)
 case atStart => exact ⟨0, Nat.zero_le _, rfl, rfl, rfl⟩
 case round =>
  obtain ⟨k, hk, rfl, rfl, HA⟩ := hrel
  have n6 := N6.out
  by_cases hlt : k < N
  rotate_left
  ·skip
   obtain rfl : k = N := by omega
   have ET : Hid (l.take k = l) := List.take_of_length_le (by have := hN.out; omega)
   have c1 : ¬ ((k : Int) < (k : Int)) := by omega
   have E0 : Hid (R = some (numV l)) := by rw [Hid, ← hR.out]; have ha := HA.out; rw [ET.out] at ha; exact if_neg (fun hb => NBAD.out (by rcases hb with h | h | h | h; exact .inl h; exact .inr (.inl h); exact .inr (.inr h); rw [ha] at h; cases h))
   rw [ET.out]
   go_upto_region 5 with (fail)
   refine lbeg (opsOf Try.f44 5) ?_
   refine lnow 0 (.bool (decide ((k : Int) < (k : Int)))) (some 26) ?_
   rw [decide_eq_false c1]
   refine ldn 1 ?_
   generalize hact : Act.put _ (some 26) _ = act
   simp only [Act.put, sA, sC, sZ] at hact
   subst hact
   obtain ⟨V, hV⟩ : ∃ V, Hid (numV l = V) := ⟨_, rfl⟩
   rw [hV.out] at E0 ⊢
   clear hR HA
   go_wp2
   go_ret2
   exact ⟨by rw [E0.out]; rfl, rfl⟩
  have c1 : (k : Int) < (N : Int) := by omega
  obtain ⟨c, hc⟩ : ∃ c, Hid (l[k]? = some c) := ⟨_, List.getElem?_eq_getElem (by rw [hN.out]; exact hlt)⟩
  obtain ⟨V, hV⟩ : ∃ V, Hid (numV (l.take k) = V) := ⟨_, rfl⟩
  rw [hV.out]
  go_upto_region 5 with (fail)
  refine lbeg (opsOf Try.f44 5) ?_
  refine lnow 0 (.bool (decide ((k : Int) < (N : Int)))) (some 26) ?_
  rw [decide_eq_true c1]
  refine ldn 1 ?_
  generalize hact : Act.put _ (some 26) _ = act
  simp only [Act.put, sA, sC, sZ] at hact
  subst hact
  go_upto_region 6 with (fail)
  refine lbeg (opsOf Try.f44 6) ?_
  refine lnow 0 (.int .i64 (k : Int)) (some 27) ?_
  refine lnow 1 (.int .i64 (k : Int)) (some 5) ?_
  refine ldn 2 ?_
  generalize hact : Act.put _ (some 5) _ = act
  simp only [Act.put, sA, sC, sZ] at hact
  subst hact
  go_upto_region 7 with (fail)
  refine lbeg (opsOf Try.f44 7) ?_
  refine lnow 0 (sT l) (some 28) ?_
  refine lnow 1 (.int .i64 (k : Int)) (some 29) ?_
  refine lnowP 2 (.int .u8 (c.toNat : Int)) (some 30) (exec_sIdx (.tmp 28) (.tmp 29) (by kernel_rfl) (l) (by kernel_rfl) (k) (by kernel_rfl) c hc.out) ?_
  refine lcal 3 43 #[.int .u8 (c.toNat : Int)] (some 31) _ (xisdig_walk c _) ?_
  rintro e w1 ⟨rfl, hw1⟩
  obtain rfl := hw1.symm
  refine ⟨_, rfl, ?_⟩
  cases hb : isDig c with
  | false =>
   have E0 : Hid (R = none) := by rw [Hid, ← hR.out]; exact if_pos (.inr (.inr (.inr (all_false hc.out hb))))
   refine lnow 4 (.bool true) (some 32) ?_
   refine ldn 5 ?_
   generalize hact : Act.put _ (some 32) _ = act
   simp only [Act.put, sA, sC, sZ] at hact
   subst hact
   clear hb hR HA
   go_wp2
   go_ret2
   exact ⟨by rw [E0.out]; rfl, rfl⟩
  | true =>
   have EA : Hid ((l.take (k + 1)).all isDig = true) := by rw [Hid, take_snoc hc.out, List.all_append, HA.out]; simp [hb]
   have cb : 48 ≤ c.toNat ∧ c.toNat ≤ 57 := by unfold isDig at hb; simpa using hb
   have EV : Hid (numV (l.take (k + 1)) = V * 10 + (c.toNat - 48)) := by rw [Hid, take_snoc hc.out, numV_snoc, hV.out]
   have VB : V * 10 + (c.toNat - 48) ≤ 999999 := by rw [← EV.out]; exact numV_le (by rw [List.length_take]; omega) EA.out
   refine lnow 4 (.bool false) (some 32) ?_
   refine ldn 5 ?_
   generalize hact : Act.put _ (some 32) _ = act
   simp only [Act.put, sA, sC, sZ] at hact
   subst hact
   clear hb HA
   go_upto_region 9 with (fail)
   refine lbeg (opsOf Try.f44 9) ?_
   refine lnow 0 (.int .i64 (V : Int)) (some 33) ?_
   refine lnow 1 (.int .i64 (IntKind.i64.wrap ((V : Int) * 10))) (some 34) ?_
   rw [show IntKind.i64.wrap ((V : Int) * 10) = (V : Int) * 10 from IntWalk.i64_in _ (by omega)]
   refine lnow 2 (sT l) (some 35) ?_
   refine lnow 3 (.int .i64 (k : Int)) (some 36) ?_
   refine lnowP 4 (.int .u8 (c.toNat : Int)) (some 37) (exec_sIdx (.tmp 35) (.tmp 36) (by kernel_rfl) (l) (by kernel_rfl) (k) (by kernel_rfl) c hc.out) ?_
   refine lnow 5 (.int .u8 (IntKind.u8.wrap ((c.toNat : Int) - 48))) (some 38) ?_
   rw [show IntKind.u8.wrap ((c.toNat : Int) - 48) = (c.toNat : Int) - 48 from u8w _ (by omega)]
   refine lnow 6 (.int .i64 (IntKind.i64.wrap ((c.toNat : Int) - 48))) (some 39) ?_
   rw [show IntKind.i64.wrap ((c.toNat : Int) - 48) = (c.toNat : Int) - 48 from IntWalk.i64_in _ (by omega)]
   refine lnow 7 (.int .i64 (IntKind.i64.wrap ((V : Int) * 10 + ((c.toNat : Int) - 48)))) (some 40) ?_
   rw [show IntKind.i64.wrap ((V : Int) * 10 + ((c.toNat : Int) - 48)) = (V : Int) * 10 + ((c.toNat : Int) - 48) from IntWalk.i64_in _ (by omega)]
   refine lnow 8 (.int .i64 ((V : Int) * 10 + ((c.toNat : Int) - 48))) (some 4) ?_
   refine ldn 9 ?_
   generalize hact : Act.put _ (some 4) _ = act
   simp only [Act.put, sA, sC, sZ] at hact
   subst hact
   clear hc hV
   go_wp2
   go_round
   case rel => exact ⟨k + 1, by omega, by go_num, by rw [EV.out]; congr 1; omega, EA⟩
   case measure => simp [intOf]; omega
set_option maxHeartbeats 2000000 in
theorem xnum_walk (c : UInt8) (r : List UInt8) (l : List UInt8) (el : l = c :: r) (hl : l.length ≤ 1000000) (w : World) : Calls Try.prog 28 #[sT l] w fun e w' => e = .returned (.int .i64 (numLx l : Int)) ∧ w' = w := by
 have HL := Lib.hid hl
 have HC : Hid (l[0]? = some c) := by rw [Hid, el]; rfl
 have EL := Lib.hid el
 clear el hl
 obtain ⟨n, hn⟩ : ∃ n, Hid (runL isDig l = n) := ⟨_, rfl⟩
 have NL : Hid (n ≤ l.length) := by rw [Hid, ← hn.out]; exact runL_le _ _
 obtain ⟨R, hR⟩ : ∃ R, Hid (numLx l = R) := ⟨_, rfl⟩
 rw [hR.out]
 have ER : Hid (R = if (numO (l.take n)).isSome = true then n else 0) := by rw [Hid, ← hR.out, numLx, hn.out]
 clear EL HC
 go_enter Try.func28, Try.ntmps28
 go_upto_region 0 with (fail)
 refine lbeg (opsOf Try.f28 0) ?_
 refine lnow 0 (.int .i64 0) (some 2) ?_
 refine ldn 1 ?_
 generalize hact : Act.put _ (some 2) _ = act
 simp only [Act.put, sA, sC, sZ] at hact
 subst hact
 go_upto_region 1 with (fail)
 refine lbeg (opsOf Try.f28 1) ?_
 refine lnow 0 (sT l) (some 6) ?_
 refine lcal 1 32 #[sT l, .func (.func 43) #[] #[]] (some 7) _ (xrun_walk 43 isDig (enters_of Try.func43 (by kernel_rfl) rfl) xisdig_walk l HL.out _) ?_
 rintro e w1 ⟨rfl, hw1⟩
 obtain rfl := hw1.symm
 refine ⟨_, rfl, ?_⟩
 rw [hn.out]
 refine lnow 2 (.int .i64 (n : Int)) (some 3) ?_
 refine ldn 3 ?_
 generalize hact : Act.put _ (some 3) _ = act
 simp only [Act.put, sA, sC, sZ] at hact
 subst hact
 go_upto_region 2 with (fail)
 refine lbeg (opsOf Try.f28 2) ?_
 refine lnow 0 (sT l) (some 9) ?_
 refine lnow 1 (.int .i64 (n : Int)) (some 10) ?_
 refine lnowP 2 (sT (l.take n)) (some 11) (exec_of (Instr.sliceAt 9 (sT l) none (some (.int .i64 (n : Int))) none) _ (by kernel_rfl) (run_sTo l n NL.out _)) ?_
 refine lcal 3 44 #[sT (l.take n)] (some 12) _ (xnumber_walk (l.take n) _) ?_
 rintro e w1 ⟨rfl, hw1⟩
 obtain rfl := hw1.symm
 refine ⟨_, rfl, ?_⟩
 generalize numO (l.take n) = oo at ER ⊢
 refine lnow 4 (.tuple #[.int .i64 ((oo.getD 0 : Nat) : Int), .bool oo.isSome]) (some 8) ?_
 refine lnow 5 (.int .i64 ((oo.getD 0 : Nat) : Int)) (some 13) ?_
 refine lnow 6 (.bool oo.isSome) (some 14) ?_
 refine lnow 7 (.int .i64 ((oo.getD 0 : Nat) : Int)) (some 4) ?_
 refine lnow 8 (.bool oo.isSome) (some 5) ?_
 refine ldn 9 ?_
 generalize hact : Act.put _ (some 5) _ = act
 simp only [Act.put, sA, sC, sZ] at hact
 subst hact
 cases oo with
 | none =>
  have E0 : Hid (R = 0) := ER.out
  clear ER hR
  go_wp2
  go_ret
  exact ⟨by rw [E0.out]; rfl, rfl⟩
 | some v =>
  have E0 : Hid (R = n) := ER.out
  clear ER hR
  go_wp2
  go_ret
  exact ⟨by rw [E0.out]; rfl, rfl⟩
set_option maxHeartbeats 2000000 in
theorem xsign_walk (c : UInt8) (r : List UInt8) (l : List UInt8) (el : l = c :: r) (hl : l.length ≤ 1000000) (w : World) : Calls Try.prog 29 #[sT l] w fun e w' => e = .returned (.int .i64 (signL l : Int)) ∧ w' = w := by
 have HL := Lib.hid hl
 have HC : Hid (l[0]? = some c) := by rw [Hid, el]; rfl
 have EL := Lib.hid el
 clear el hl
 obtain ⟨R, hR⟩ : ∃ R, Hid (signL l = R) := ⟨_, rfl⟩
 rw [hR.out]
 have EW : Hid (R = if Lib.hasPrefix l [58, 61] = true then 2 else if 0 ≤ Lib.indexByte signs12 c then 1 else 0) := by rw [Hid, ← hR.out, EL.out, signL]
 go_enter Try.func29, Try.ntmps29
 go_upto_region 0 with (fail)
 refine lbeg (opsOf Try.f29 0) ?_
 refine lnow 0 (.int .i64 0) (some 2) ?_
 refine ldn 1 ?_
 generalize hact : Act.put _ (some 2) _ = act
 simp only [Act.put, sA, sC, sZ] at hact
 subst hact
 go_upto_region 1 with (fail)
 refine lbeg (opsOf Try.f29 1) ?_
 refine lnow 0 (sT l) (some 4) ?_
 refine lcal 1 31 #[sT l, sT [58, 61]] (some 5) _ (sprefix_walk l [58, 61] _) ?_
 rintro e w1 ⟨rfl, hw1⟩
 obtain rfl := hw1.symm
 refine ⟨_, rfl, ?_⟩
 cases hb : Lib.hasPrefix l [58, 61] with
 | true =>
  have E0 : Hid (R = 2) := by rw [Hid, EW.out, hb]; rfl
  refine lnow 2 (.bool true) (some 3) ?_
  refine ldn 3 ?_
  generalize hact : Act.put _ (some 3) _ = act
  simp only [Act.put, sA, sC, sZ] at hact
  subst hact
  clear hb EW hR
  go_wp2
  go_ret
  exact ⟨by rw [E0.out]; rfl, rfl⟩
 | false =>
  refine lnow 2 (.bool false) (some 3) ?_
  refine ldn 3 ?_
  generalize hact : Act.put _ (some 3) _ = act
  simp only [Act.put, sA, sC, sZ] at hact
  subst hact
  go_upto_region 3 with (fail)
  refine lbeg (opsOf Try.f29 3) ?_
  refine lnow 0 (sT l) (some 7) ?_
  refine lnowP 1 (.int .u8 (c.toNat : Int)) (some 8) (exec_sIdx (.tmp 7) (.const (.int .i64 0)) (by kernel_rfl) (l) (by kernel_rfl) (0) (by kernel_rfl) c HC.out) ?_
  refine lcal 2 45 #[sT signs12, .int .u8 (c.toNat : Int)] (some 9) _ (sidxb_walk signs12 c _) ?_
  rintro e w1 ⟨rfl, hw1⟩
  obtain rfl := hw1.symm
  refine ⟨_, rfl, ?_⟩
  obtain ⟨x, hx⟩ : ∃ x, Hid (Lib.indexByte signs12 c = x) := ⟨_, rfl⟩
  rw [hx.out]
  refine lnow 3 (.bool (decide (x ≥ 0))) (some 10) ?_
  by_cases h0 : x ≥ 0
  ·have E0 : Hid (R = 1) := by rw [Hid, EW.out, hb, if_neg (by simp), hx.out, if_pos h0]
   rw [decide_eq_true h0]
   refine lnow 4 (.bool true) (some 6) ?_
   refine ldn 5 ?_
   generalize hact : Act.put _ (some 6) _ = act
   simp only [Act.put, sA, sC, sZ] at hact
   subst hact
   clear hb EW hR
   go_wp2
   go_ret
   exact ⟨by rw [E0.out]; rfl, rfl⟩
  ·have E0 : Hid (R = 0) := by rw [Hid, EW.out, hb, if_neg (by simp), hx.out, if_neg h0]
   rw [decide_eq_false h0]
   refine lnow 4 (.bool false) (some 6) ?_
   refine ldn 5 ?_
   generalize hact : Act.put _ (some 6) _ = act
   simp only [Act.put, sA, sC, sZ] at hact
   subst hact
   clear hb EW hR
   go_wp2
   go_ret
   exact ⟨by rw [E0.out]; rfl, rfl⟩
set_option maxHeartbeats 2000000 in
theorem xgap_walk (c : UInt8) (r : List UInt8) (l : List UInt8) (el : l = c :: r) (hl : l.length ≤ 1000000) (w : World) : Calls Try.prog 15 #[sT l] w fun e w' => e = .returned (.int .i64 (gapL l : Int)) ∧ w' = w := by
 have HL := Lib.hid hl
 have HC : Hid (l[0]? = some c) := by rw [Hid, el]; rfl
 have EL := Lib.hid el
 clear el hl
 obtain ⟨R, hR⟩ : ∃ R, Hid (gapL l = R) := ⟨_, rfl⟩
 rw [hR.out]
 have EW : Hid (R = if Lib.hasPrefix l [45, 45] = true then runL inC l else if c = 32 ∨ c = 10 then 1 else 0) := by rw [Hid, ← hR.out, EL.out, gapL]
 go_enter Try.func15, Try.ntmps15
 go_upto_region 0 with (fail)
 refine lbeg (opsOf Try.f15 0) ?_
 refine lnow 0 (.int .i64 0) (some 2) ?_
 refine ldn 1 ?_
 generalize hact : Act.put _ (some 2) _ = act
 simp only [Act.put, sA, sC, sZ] at hact
 subst hact
 go_upto_region 1 with (fail)
 refine lbeg (opsOf Try.f15 1) ?_
 refine lnow 0 (sT l) (some 4) ?_
 refine lcal 1 31 #[sT l, sT [45, 45]] (some 5) _ (sprefix_walk l [45, 45] _) ?_
 rintro e w1 ⟨rfl, hw1⟩
 obtain rfl := hw1.symm
 refine ⟨_, rfl, ?_⟩
 cases hb : Lib.hasPrefix l [45, 45] with
 | true =>
  have E0 : Hid (runL inC l = R) := by rw [Hid, EW.out, hb]; rfl
  refine lnow 2 (.bool true) (some 3) ?_
  refine ldn 3 ?_
  generalize hact : Act.put _ (some 3) _ = act
  simp only [Act.put, sA, sC, sZ] at hact
  subst hact
  clear hb EW hR
  go_upto_region 2 with (fail)
  refine lbeg (opsOf Try.f15 2) ?_
  refine lnow 0 (sT l) (some 6) ?_
  refine lcal 1 32 #[sT l, .func (.func 33) #[] #[]] (some 7) _ (xrun_walk 33 inC (enters_of Try.func33 (by kernel_rfl) rfl) xincom_walk l HL.out _) ?_
  rintro e w1 ⟨rfl, hw1⟩
  obtain rfl := hw1.symm
  refine ⟨_, rfl, ?_⟩
  rw [E0.out]
  refine lnow 2 (.int .i64 (R : Int)) (some 2) ?_
  refine ldn 3 ?_
  generalize hact : Act.put _ (some 2) _ = act
  simp only [Act.put, sA, sC, sZ] at hact
  subst hact
  go_wp2
  go_ret
  exact ⟨rfl, rfl⟩
 | false =>
  refine lnow 2 (.bool false) (some 3) ?_
  refine ldn 3 ?_
  generalize hact : Act.put _ (some 3) _ = act
  simp only [Act.put, sA, sC, sZ] at hact
  subst hact
  go_upto_region 3 with (fail)
  refine lbeg (opsOf Try.f15 3) ?_
  refine lnow 0 (sT l) (some 9) ?_
  refine lnowP 1 (.int .u8 (c.toNat : Int)) (some 10) (exec_sIdx (.tmp 9) (.const (.int .i64 0)) (by kernel_rfl) (l) (by kernel_rfl) (0) (by kernel_rfl) c HC.out) ?_
  refine lnow 2 (.bool (decide ((c.toNat : Int) = 32))) (some 11) ?_
  by_cases h1 : (c.toNat : Int) = 32
  ·have E0 : Hid (R = 1) := by rw [Hid, EW.out, hb, if_neg (by simp), if_pos (.inl (by rw [← UInt8.toNat_inj]; exact Int.ofNat.inj h1))]
   rw [decide_eq_true h1]
   refine lnow 3 (.bool true) (some 12) ?_
   refine lpas 4 (some 13) ?_
   refine lpas 5 (some 14) ?_
   refine lpas 6 (some 15) ?_
   refine lnow 7 (.bool true) (some 16) ?_
   refine lnow 8 (.bool true) (some 8) ?_
   refine ldn 9 ?_
   generalize hact : Act.put _ (some 8) _ = act
   simp only [Act.put, sA, sC, sZ] at hact
   subst hact
   clear hb EW hR h1
   go_wp2
   go_ret
   exact ⟨by rw [E0.out]; rfl, rfl⟩
  rw [decide_eq_false h1]
  refine lnow 3 (.bool false) (some 12) ?_
  refine lnow 4 (sT l) (some 13) ?_
  refine lnowP 5 (.int .u8 (c.toNat : Int)) (some 14) (exec_sIdx (.tmp 13) (.const (.int .i64 0)) (by kernel_rfl) (l) (by kernel_rfl) (0) (by kernel_rfl) c HC.out) ?_
  refine lnow 6 (.bool (decide ((c.toNat : Int) = 10))) (some 15) ?_
  by_cases h2 : (c.toNat : Int) = 10
  ·have E0 : Hid (R = 1) := by rw [Hid, EW.out, hb, if_neg (by simp), if_pos (.inr (by rw [← UInt8.toNat_inj]; exact Int.ofNat.inj h2))]
   rw [decide_eq_true h2]
   refine lnow 7 (.bool true) (some 16) ?_
   refine lnow 8 (.bool true) (some 8) ?_
   refine ldn 9 ?_
   generalize hact : Act.put _ (some 8) _ = act
   simp only [Act.put, sA, sC, sZ] at hact
   subst hact
   clear hb EW hR h1 h2
   go_wp2
   go_ret
   exact ⟨by rw [E0.out]; rfl, rfl⟩
  ·have E0 : Hid (R = 0) := by rw [Hid, EW.out, hb, if_neg (by simp), if_neg (by rintro (rfl | rfl); exact h1 rfl; exact h2 rfl)]
   rw [decide_eq_false h2]
   refine lnow 7 (.bool false) (some 16) ?_
   refine lnow 8 (.bool false) (some 8) ?_
   refine ldn 9 ?_
   generalize hact : Act.put _ (some 8) _ = act
   simp only [Act.put, sA, sC, sZ] at hact
   subst hact
   clear hb EW hR h1 h2
   go_wp2
   go_ret
   exact ⟨by rw [E0.out]; rfl, rfl⟩
set_option maxHeartbeats 2000000 in
theorem xlength1 (c : UInt8) (r : List UInt8) (l : List UInt8) (el : l = c :: r) (hl : l.length ≤ 1000000) (w : World) : Calls Try.prog 13 #[.int .i64 1, sT l] w fun e w' => e = .returned (.int .i64 (wordL l : Int)) ∧ w' = w := by
 have CW := xword_walk c r l el hl
 generalize wordL l = R at CW ⊢
 clear el hl
 go_enter Try.func13, Try.ntmps13
 go_upto_region 0 with (fail)
 refine lbeg (opsOf Try.f13 0) ?_
 refine lnow 0 (.int .i64 0) (some 4) ?_
 refine ldn 1 ?_
 generalize hact : Act.put _ (some 4) _ = act
 simp only [Act.put, sA, sC, sZ] at hact
 subst hact
 go_upto_region 1 with (fail)
 refine lbeg (opsOf Try.f13 1) ?_
 refine lnow 0 (.int .i64 1) (some 5) ?_
 refine ldn 1 ?_
 generalize hact : Act.put _ (some 5) _ = act
 simp only [Act.put, sA, sC, sZ] at hact
 subst hact
 go_upto_region 4 with (fail)
 refine lbeg (opsOf Try.f13 4) ?_
 refine lnow 0 (sT l) (some 10) ?_
 refine lcal 1 27 #[sT l] (some 11) _ (CW _) ?_
 rintro e w1 ⟨rfl, hw1⟩
 obtain rfl := hw1.symm
 refine ⟨_, rfl, ?_⟩
 refine lnow 2 (.int .i64 (R : Int)) (some 4) ?_
 refine ldn 3 ?_
 generalize hact : Act.put _ (some 4) _ = act
 simp only [Act.put, sA, sC, sZ] at hact
 subst hact
 go_wp2
 go_ret
 exact ⟨rfl, rfl⟩
set_option maxHeartbeats 2000000 in
theorem xlength2 (c : UInt8) (r : List UInt8) (l : List UInt8) (el : l = c :: r) (hl : l.length ≤ 1000000) (w : World) : Calls Try.prog 13 #[.int .i64 2, sT l] w fun e w' => e = .returned (.int .i64 (numLx l : Int)) ∧ w' = w := by
 have CW := xnum_walk c r l el hl
 generalize numLx l = R at CW ⊢
 clear el hl
 go_enter Try.func13, Try.ntmps13
 go_upto_region 0 with (fail)
 refine lbeg (opsOf Try.f13 0) ?_
 refine lnow 0 (.int .i64 0) (some 4) ?_
 refine ldn 1 ?_
 generalize hact : Act.put _ (some 4) _ = act
 simp only [Act.put, sA, sC, sZ] at hact
 subst hact
 go_upto_region 1 with (fail)
 refine lbeg (opsOf Try.f13 1) ?_
 refine lnow 0 (.int .i64 2) (some 5) ?_
 refine ldn 1 ?_
 generalize hact : Act.put _ (some 5) _ = act
 simp only [Act.put, sA, sC, sZ] at hact
 subst hact
 go_upto_region 6 with (fail)
 refine lbeg (opsOf Try.f13 6) ?_
 refine lnow 0 (sT l) (some 14) ?_
 refine lcal 1 28 #[sT l] (some 15) _ (CW _) ?_
 rintro e w1 ⟨rfl, hw1⟩
 obtain rfl := hw1.symm
 refine ⟨_, rfl, ?_⟩
 refine lnow 2 (.int .i64 (R : Int)) (some 4) ?_
 refine ldn 3 ?_
 generalize hact : Act.put _ (some 4) _ = act
 simp only [Act.put, sA, sC, sZ] at hact
 subst hact
 go_wp2
 go_ret
 exact ⟨rfl, rfl⟩
set_option maxHeartbeats 2000000 in
theorem xlength3 (c : UInt8) (r : List UInt8) (l : List UInt8) (el : l = c :: r) (hl : l.length ≤ 1000000) (w : World) : Calls Try.prog 13 #[.int .i64 3, sT l] w fun e w' => e = .returned (.int .i64 (signL l : Int)) ∧ w' = w := by
 have CW := xsign_walk c r l el hl
 generalize signL l = R at CW ⊢
 clear el hl
 go_enter Try.func13, Try.ntmps13
 go_upto_region 0 with (fail)
 refine lbeg (opsOf Try.f13 0) ?_
 refine lnow 0 (.int .i64 0) (some 4) ?_
 refine ldn 1 ?_
 generalize hact : Act.put _ (some 4) _ = act
 simp only [Act.put, sA, sC, sZ] at hact
 subst hact
 go_upto_region 1 with (fail)
 refine lbeg (opsOf Try.f13 1) ?_
 refine lnow 0 (.int .i64 3) (some 5) ?_
 refine ldn 1 ?_
 generalize hact : Act.put _ (some 5) _ = act
 simp only [Act.put, sA, sC, sZ] at hact
 subst hact
 go_upto_region 2 with (fail)
 refine lbeg (opsOf Try.f13 2) ?_
 refine lnow 0 (sT l) (some 6) ?_
 refine lcal 1 29 #[sT l] (some 7) _ (CW _) ?_
 rintro e w1 ⟨rfl, hw1⟩
 obtain rfl := hw1.symm
 refine ⟨_, rfl, ?_⟩
 refine lnow 2 (.int .i64 (R : Int)) (some 4) ?_
 refine ldn 3 ?_
 generalize hact : Act.put _ (some 4) _ = act
 simp only [Act.put, sA, sC, sZ] at hact
 subst hact
 go_wp2
 go_ret
 exact ⟨rfl, rfl⟩
end Go.Proofs.Ytdacmogedchnaaa
