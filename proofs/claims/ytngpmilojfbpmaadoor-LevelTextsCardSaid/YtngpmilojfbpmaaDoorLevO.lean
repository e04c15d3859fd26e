/- LevelOrder and LevelMax answer true. -/
import Derived.Test.YtngpmilojfbpmaaDoorLevL
namespace Go.Proofs.YtngpmilojfbpmaaDoor
open Go Go.RowKit
set_option maxRecDepth 100000

/-- The levels that a statement has laid in blocks of its own, and its numbers. -/
structure LvS (q : Nat) (w0 : World) (L : List (Nat × Lv)) (v : Value) (vals : List Int) (w : World) : Prop where
  l : ∀ x ∈ L, Blk w x.1 46 (ints .i64 x.2.zs)
  n : NumsIn w v vals
  b : Below q w0 w
  s : q ≤ w.heap.size
theorem LvS.next {q : Nat} {w0 : World} {L : List (Nat × Lv)} {v : Value} {vals : List Int} {w w' : World} (h : LvS q w0 L v vals w) (hb : Below w.heap.size w w') : LvS q w0 L v vals w' :=
  ⟨fun x hx => (h.l x hx).below hb (h.l x hx).lt, h.n.below hb (Nat.le_refl _), h.b.trans (hb.mono h.s), Nat.le_trans h.s hb.size⟩
theorem neq_same (b : Bool) : (b != b) = false := by cases b <;> rfl
theorem exec_neqb {P : Program} {a : Act} {w : World} {op : Oper} (t t2 : TypeId) (x y : Operand) (ho : op.op = .binOp .neq t x y t2) (ht : P.underlying t = some .bool) (b c : Bool) (ex : a.eval x = .bool b) (ey : a.eval y = .bool c) (hg : ∀ w, (eqGuard .neq t x y (.bool b) (.bool c)).run P w = .ok () w) : (execOp a.eval op).run P w = .ok (.value (.bool (!(b == c)))) w := by
  unfold execOp
  simp only [ho, ex, ey, Sem.run_bind, hg, Result.andThen_ok, run_neq_bool w t b c ht]
  rfl
theorem exec_eqlb {P : Program} {a : Act} {w : World} {op : Oper} (t t2 : TypeId) (x y : Operand) (ho : op.op = .binOp .eql t x y t2) (ht : P.underlying t = some .bool) (b c : Bool) (ex : a.eval x = .bool b) (ey : a.eval y = .bool c) (hg : ∀ w, (eqGuard .eql t x y (.bool b) (.bool c)).run P w = .ok () w) : (execOp a.eval op).run P w = .ok (.value (.bool (b == c))) w := by
  unfold execOp
  simp only [ho, ex, ey, Sem.run_bind, hg, Result.andThen_ok, run_eql_bool w t b c ht]
  rfl
set_option maxHeartbeats 8000000 in
theorem order_main (a b c : Lv) (ha : a.p.length = 4) (hb : b.p.length = 4) (hc : c.p.length = 4) (v : Value) (vals : List Int) (w : World) (hv : NumsIn w v vals) (hnl : NilOk v) (hint : ∀ x ∈ vals, -9223372036854775808 ≤ x ∧ x ≤ 9223372036854775807) (hT : TabW w) : Calls Tryd.prog 4 #[.agg (ints .i64 a.zs).toArray, .agg (ints .i64 b.zs).toArray, .agg (ints .i64 c.zs).toArray, v] w fun e w' => e = .returned (.bool true) ∧ Below w.heap.size w w' := by
  obtain ⟨q, hq⟩ : ∃ q, Hid (w.heap.size = q) := ⟨_, rfl⟩
  have HA := Lib.hid ha
  have HB := Lib.hid hb
  have HC := Lib.hid hc
  have HT := Lib.hid hT
  have HI := Lib.hid hint
  obtain ⟨va, vc, rfl, -⟩ := id hv
  have HV := Lib.hid hv
  have HN := Lib.hid hnl
  obtain ⟨n, hn⟩ : ∃ n, Hid (vals.length = n) := ⟨_, rfl⟩
  rw [hn.out] at HV HN ⊢
  rw [hq.out]
  clear ha hb hc hT hint hv hnl
  go_enter Tryd.func4, Tryd.ntmps4
  go_upto_region 0 with (fail)
  refine lin_begin (opsOf Tryd.f4 0) (by kernel_rfl) ?_
  refine lin_box 0 46 (.tmp 0) (ints .i64 a.zs) (q) (some 4) (by kernel_rfl) (by kernel_rfl) (by kernel_rfl) (by kernel_rfl) hq ?_
  intro w1 b1 be1 hs1
  refine lin_box 1 46 (.tmp 1) (ints .i64 b.zs) (q + 1) (some 5) (by kernel_rfl) (by kernel_rfl) (by kernel_rfl) (by kernel_rfl) hs1 ?_
  intro w2 b2 be2 hs2
  refine lin_box 2 46 (.tmp 2) (ints .i64 c.zs) (q + 1 + 1) (some 6) (by kernel_rfl) (by kernel_rfl) (by kernel_rfl) (by kernel_rfl) hs2 ?_
  intro w3 b3 be3 hs3
  refine lin_now 3 (.bool false) (some 8) (by kernel_rfl) (by kernel_rfl) (by kernel_rfl) ?_
  refine lin_done 4 (by kernel_rfl) ?_
  have be03 : Below q w w3 := (be1.trans (be2.mono (Nat.le_succ _))).trans (be3.mono (by omega))
  have S3 : Hid (LvS q w [(q, a), (q + 1, b), (q + 1 + 1, c)] (.slice va n vc) vals w3) := ⟨fun x hx => by
    simp only [List.mem_cons, List.not_mem_nil, or_false] at hx
    rcases hx with rfl | rfl | rfl
    · exact (b1.below be2 (Nat.lt_succ_self _)).below be3 (by omega)
    · exact b2.below be3 (Nat.lt_succ_self _)
    · exact b3, HV.out.below be03 (by rw [hq.out]; exact Nat.le_refl _), be03, by rw [hs3.out]; omega⟩
  have T3 : Hid (TabW w3) := HT.out.below (by rw [hq.out]; exact be03)
  clear b1 be1 hs1 b2 be2 hs2 b3 be3 hs3 be03
  generalize hact : Act.put _ (some 8) _ = act
  simp only [Act.put, List.setIfInBounds_toArray, List.set_cons_succ, List.set_cons_zero] at hact
  subst hact
  go_wp2_with fail
  refine (alive7_walk _ T3.out).mono ?_
  rintro e w4 ⟨rfl, hb4⟩
  have S4 := Lib.hid (S3.out.next hb4)
  clear hb4 S3 T3
  by_cases hlen : 30 < n
  · have r0 : (30 : Int) < (n : Int) := by omega
    go_wp2
    go_ret
    exact ⟨rfl, S4.out.b⟩
  · have r0 : ¬ (30 : Int) < (n : Int) := by omega
    go_upto_region 5 with (fail)
    refine region_begin (opsOf Tryd.f4 5) (LvS q w [(q, a), (q + 1, b), (q + 1 + 1, c)] (.slice va n vc) vals) (by kernel_rfl) (by kernel_rfl) 12 (by kernel_rfl) ?_
    intro Q' hQN hN
    have X1 := S4.out.next (Below.refl _ _).drew
    generalize World.drew _ = wr1 at X1 ⊢
    refine reg_nowIf 0 (.agg (ints .i64 (a).zs).toArray) (some 14) hQN X1 (by kernel_rfl) (by kernel_rfl) (fun w' hw => exec_load_mid 46 (.tmp 4) (by kernel_rfl) (q) 0 (by kernel_rfl) (ints .i64 (a).zs) _ (hw.l (q, a) (by simp)).whole Tryd.underlying46 rfl (lvSize HA.out)) ?_
    refine reg_nowIf 1 (.agg (ints .i64 (b).zs).toArray) (some 15) hQN X1 (by kernel_rfl) (by kernel_rfl) (fun w' hw => exec_load_mid 46 (.tmp 5) (by kernel_rfl) (q + 1) 0 (by kernel_rfl) (ints .i64 (b).zs) _ (hw.l (q + 1, b) (by simp)).whole Tryd.underlying46 rfl (lvSize HB.out)) ?_
    refine reg_call 2 17 #[.agg (ints .i64 (a).zs).toArray, .agg (ints .i64 (b).zs).toArray] (some 16) _ (by kernel_rfl) (by kernel_rfl) (by kernel_rfl) (leq_walk a b HA.out HB.out _) ?_
    rintro e wd1 ⟨rfl, hd1⟩
    have Y1 := X1.next hd1
    clear hd1
    refine ⟨_, rfl, Y1, ?_⟩
    obtain ⟨ab, hab⟩ : ∃ x, Hid (leqL a b = x) := ⟨_, rfl⟩
    rw [hab.out]
    refine reg_now 3 (.bool ab) (some 17) hQN Y1 (by kernel_rfl) (by kernel_rfl) (fun w => by kernel_rfl) ?_
    cases ab with
    | false =>
      refine reg_pass 4 (some 18) hQN Y1 (by kernel_rfl) (by kernel_rfl) ?_
      refine reg_pass 5 (some 19) hQN Y1 (by kernel_rfl) (by kernel_rfl) ?_
      refine reg_pass 6 (some 20) hQN Y1 (by kernel_rfl) (by kernel_rfl) ?_
      refine reg_pass 7 (some 21) hQN Y1 (by kernel_rfl) (by kernel_rfl) ?_
      refine reg_pass 8 (some 22) hQN Y1 (by kernel_rfl) (by kernel_rfl) ?_
      refine reg_pass 9 (some 23) hQN Y1 (by kernel_rfl) (by kernel_rfl) ?_
      refine reg_pass 10 (some 24) hQN Y1 (by kernel_rfl) (by kernel_rfl) ?_
      refine reg_now 11 (.bool false) (some 25) hQN Y1 (by kernel_rfl) (by kernel_rfl) (fun w => by kernel_rfl) ?_
      refine reg_done (by kernel_rfl) (hN _ _ ?_)
      have S5 := Lib.hid Y1
      clear hQN hN
      generalize hact : Act.put _ (some 25) _ = act
      simp only [Act.put, List.setIfInBounds_toArray, List.set_cons_succ, List.set_cons_zero] at hact
      subst hact
      go_upto_region 7 with (fail)
      refine region_begin (opsOf Tryd.f4 7) (LvS q w [(q, a), (q + 1, b), (q + 1 + 1, c)] (.slice va n vc) vals) (by kernel_rfl) (by kernel_rfl) 12 (by kernel_rfl) ?_
      intro Q' hQN hN
      have X2f := S5.out.next (Below.refl _ _).drew
      generalize World.drew _ = wr2f at X2f ⊢
      refine reg_nowIf 0 (.agg (ints .i64 (a).zs).toArray) (some 26) hQN X2f (by kernel_rfl) (by kernel_rfl) (fun w' hw => exec_load_mid 46 (.tmp 4) (by kernel_rfl) (q) 0 (by kernel_rfl) (ints .i64 (a).zs) _ (hw.l (q, a) (by simp)).whole Tryd.underlying46 rfl (lvSize HA.out)) ?_
      refine reg_nowIf 1 (.agg (ints .i64 (b).zs).toArray) (some 27) hQN X2f (by kernel_rfl) (by kernel_rfl) (fun w' hw => exec_load_mid 46 (.tmp 5) (by kernel_rfl) (q + 1) 0 (by kernel_rfl) (ints .i64 (b).zs) _ (hw.l (q + 1, b) (by simp)).whole Tryd.underlying46 rfl (lvSize HB.out)) ?_
      refine reg_call 2 17 #[.agg (ints .i64 (a).zs).toArray, .agg (ints .i64 (b).zs).toArray] (some 28) _ (by kernel_rfl) (by kernel_rfl) (by kernel_rfl) (leq_walk a b HA.out HB.out _) ?_
      rintro e wd2 ⟨rfl, hd2⟩
      rw [hab.out]
      have Y2 := X2f.next hd2
      clear hd2
      refine ⟨_, rfl, Y2, ?_⟩
      refine reg_now 3 (.bool false) (some 29) hQN Y2 (by kernel_rfl) (by kernel_rfl) (fun w => by kernel_rfl) ?_
      refine reg_pass 4 (some 30) hQN Y2 (by kernel_rfl) (by kernel_rfl) ?_
      refine reg_pass 5 (some 31) hQN Y2 (by kernel_rfl) (by kernel_rfl) ?_
      refine reg_pass 6 (some 32) hQN Y2 (by kernel_rfl) (by kernel_rfl) ?_
      refine reg_pass 7 (some 33) hQN Y2 (by kernel_rfl) (by kernel_rfl) ?_
      refine reg_pass 8 (some 34) hQN Y2 (by kernel_rfl) (by kernel_rfl) ?_
      refine reg_pass 9 (some 35) hQN Y2 (by kernel_rfl) (by kernel_rfl) ?_
      refine reg_pass 10 (some 36) hQN Y2 (by kernel_rfl) (by kernel_rfl) ?_
      refine reg_now 11 (.bool false) (some 37) hQN Y2 (by kernel_rfl) (by kernel_rfl) (fun w => by kernel_rfl) ?_
      refine reg_done (by kernel_rfl) (hN _ _ ?_)
      have S6 := Lib.hid Y2
      clear hQN hN
      generalize hact : Act.put _ (some 37) _ = act
      simp only [Act.put, List.setIfInBounds_toArray, List.set_cons_succ, List.set_cons_zero] at hact
      subst hact
      go_upto_region 9 with (fail)
      refine region_begin (opsOf Tryd.f4 9) (LvS q w [(q, a), (q + 1, b), (q + 1 + 1, c)] (.slice va n vc) vals) (by kernel_rfl) (by kernel_rfl) 24 (by kernel_rfl) ?_
      intro Q' hQN hN
      have X3f := S6.out.next (Below.refl _ _).drew
      generalize World.drew _ = wr3f at X3f ⊢
      refine reg_nowIf 0 (.agg (ints .i64 (a).zs).toArray) (some 38) hQN X3f (by kernel_rfl) (by kernel_rfl) (fun w' hw => exec_load_mid 46 (.tmp 4) (by kernel_rfl) (q) 0 (by kernel_rfl) (ints .i64 (a).zs) _ (hw.l (q, a) (by simp)).whole Tryd.underlying46 rfl (lvSize HA.out)) ?_
      refine reg_nowIf 1 (.agg (ints .i64 (a).zs).toArray) (some 39) hQN X3f (by kernel_rfl) (by kernel_rfl) (fun w' hw => exec_load_mid 46 (.tmp 4) (by kernel_rfl) (q) 0 (by kernel_rfl) (ints .i64 (a).zs) _ (hw.l (q, a) (by simp)).whole Tryd.underlying46 rfl (lvSize HA.out)) ?_
      refine reg_nowIf 3 (.agg (ints .i64 (a).zs).toArray) (some 41) hQN X3f (by kernel_rfl) (by kernel_rfl) (fun w' hw => exec_load_mid 46 (.tmp 4) (by kernel_rfl) (q) 0 (by kernel_rfl) (ints .i64 (a).zs) _ (hw.l (q, a) (by simp)).whole Tryd.underlying46 rfl (lvSize HA.out)) ?_
      refine reg_call 2 17 #[.agg (ints .i64 (a).zs).toArray, .agg (ints .i64 (a).zs).toArray] (some 40) _ (by kernel_rfl) (by kernel_rfl) (by kernel_rfl) (leq_walk a a HA.out HA.out _) ?_
      rintro e wd3 ⟨rfl, hd3⟩
      rw [leqL_refl HA.out]
      have Y3 := X3f.next hd3
      clear hd3
      refine ⟨_, rfl, Y3, ?_⟩
      refine reg_call 4 19 #[.agg (ints .i64 (a).zs).toArray] (some 42) _ (by kernel_rfl) (by kernel_rfl) (by kernel_rfl) (right_walk a HA.out _) ?_
      rintro e wd4 ⟨rfl, hd4⟩
      have Y4 := Y3.next hd4
      clear hd4
      refine ⟨_, rfl, Y4, ?_⟩
      obtain ⟨ra, hra⟩ : ∃ x, Hid (rightL a = x) := ⟨_, rfl⟩
      rw [hra.out]
      refine reg_now 5 (.bool (ra == ra)) (some 43) hQN Y4 (by kernel_rfl) (by kernel_rfl) (fun w' => exec_eqlb 4 4 (.tmp 40) (.tmp 42) (by kernel_rfl) Tryd.underlying4 ra ra (by kernel_rfl) (by kernel_rfl) (fun w => by kernel_rfl)) ?_
      rw [show (ra == ra) = true by cases ra <;> rfl]
      refine reg_now 6 (.bool true) (some 44) hQN Y4 (by kernel_rfl) (by kernel_rfl) (fun w => by kernel_rfl) ?_
      refine reg_nowIf 7 (.agg (ints .i64 (a).zs).toArray) (some 45) hQN Y4 (by kernel_rfl) (by kernel_rfl) (fun w' hw => exec_load_mid 46 (.tmp 4) (by kernel_rfl) (q) 0 (by kernel_rfl) (ints .i64 (a).zs) _ (hw.l (q, a) (by simp)).whole Tryd.underlying46 rfl (lvSize HA.out)) ?_
      refine reg_nowIf 8 (.agg (ints .i64 (b).zs).toArray) (some 46) hQN Y4 (by kernel_rfl) (by kernel_rfl) (fun w' hw => exec_load_mid 46 (.tmp 5) (by kernel_rfl) (q + 1) 0 (by kernel_rfl) (ints .i64 (b).zs) _ (hw.l (q + 1, b) (by simp)).whole Tryd.underlying46 rfl (lvSize HB.out)) ?_
      refine reg_call 9 17 #[.agg (ints .i64 (a).zs).toArray, .agg (ints .i64 (b).zs).toArray] (some 47) _ (by kernel_rfl) (by kernel_rfl) (by kernel_rfl) (leq_walk a b HA.out HB.out _) ?_
      rintro e wd5 ⟨rfl, hd5⟩
      rw [hab.out]
      have Y5 := Y4.next hd5
      clear hd5
      refine ⟨_, rfl, Y5, ?_⟩
      refine reg_now 10 (.bool true) (some 48) hQN Y5 (by kernel_rfl) (by kernel_rfl) (fun w => by kernel_rfl) ?_
      refine reg_now 11 (.bool true) (some 49) hQN Y5 (by kernel_rfl) (by kernel_rfl) (fun w => by kernel_rfl) ?_
      refine reg_pass 12 (some 50) hQN Y5 (by kernel_rfl) (by kernel_rfl) ?_
      refine reg_pass 13 (some 51) hQN Y5 (by kernel_rfl) (by kernel_rfl) ?_
      refine reg_pass 14 (some 52) hQN Y5 (by kernel_rfl) (by kernel_rfl) ?_
      refine reg_pass 15 (some 53) hQN Y5 (by kernel_rfl) (by kernel_rfl) ?_
      refine reg_now 16 (.bool true) (some 54) hQN Y5 (by kernel_rfl) (by kernel_rfl) (fun w => by kernel_rfl) ?_
      refine reg_now 17 (.bool true) (some 55) hQN Y5 (by kernel_rfl) (by kernel_rfl) (fun w => by kernel_rfl) ?_
      refine reg_pass 18 (some 56) hQN Y5 (by kernel_rfl) (by kernel_rfl) ?_
      refine reg_pass 19 (some 57) hQN Y5 (by kernel_rfl) (by kernel_rfl) ?_
      refine reg_pass 20 (some 58) hQN Y5 (by kernel_rfl) (by kernel_rfl) ?_
      refine reg_now 21 (.bool true) (some 59) hQN Y5 (by kernel_rfl) (by kernel_rfl) (fun w => by kernel_rfl) ?_
      refine reg_now 22 (.bool true) (some 60) hQN Y5 (by kernel_rfl) (by kernel_rfl) (fun w => by kernel_rfl) ?_
      refine reg_now 23 (.bool true) (some 8) hQN Y5 (by kernel_rfl) (by kernel_rfl) (fun w => by kernel_rfl) ?_
      refine reg_done (by kernel_rfl) (hN _ _ ?_)
      have BF := Lib.hid Y5.b
      clear hQN hN
      generalize hact : Act.put _ (some 8) _ = act
      simp only [Act.put, List.setIfInBounds_toArray, List.set_cons_succ, List.set_cons_zero] at hact
      subst hact
      go_wp2
      go_ret
      exact ⟨rfl, BF.out⟩
    | true =>
      refine reg_nowIf 4 (.agg (ints .i64 (a).zs).toArray) (some 18) hQN Y1 (by kernel_rfl) (by kernel_rfl) (fun w' hw => exec_load_mid 46 (.tmp 4) (by kernel_rfl) (q) 0 (by kernel_rfl) (ints .i64 (a).zs) _ (hw.l (q, a) (by simp)).whole Tryd.underlying46 rfl (lvSize HA.out)) ?_
      refine reg_now 5 (.slice va n vc) (some 19) hQN Y1 (by kernel_rfl) (by kernel_rfl) (fun w => by kernel_rfl) ?_
      refine reg_nowIf 7 (.agg (ints .i64 (b).zs).toArray) (some 21) hQN Y1 (by kernel_rfl) (by kernel_rfl) (fun w' hw => exec_load_mid 46 (.tmp 5) (by kernel_rfl) (q + 1) 0 (by kernel_rfl) (ints .i64 (b).zs) _ (hw.l (q + 1, b) (by simp)).whole Tryd.underlying46 rfl (lvSize HB.out)) ?_
      refine reg_now 8 (.slice va n vc) (some 22) hQN Y1 (by kernel_rfl) (by kernel_rfl) (fun w => by kernel_rfl) ?_
      refine reg_call 6 18 #[.agg (ints .i64 (a).zs).toArray, .slice va n vc] (some 20) _ (by kernel_rfl) (by kernel_rfl) (by kernel_rfl) (value_walk a HA.out _ vals _ Y1.n HN.out HI.out) ?_
      rintro e wd6 ⟨rfl, hd6⟩
      have Y6 := Y1.next hd6
      clear hd6
      refine ⟨_, rfl, Y6, ?_⟩
      refine reg_call 9 18 #[.agg (ints .i64 (b).zs).toArray, .slice va n vc] (some 23) _ (by kernel_rfl) (by kernel_rfl) (by kernel_rfl) (value_walk b HB.out _ vals _ Y6.n HN.out HI.out) ?_
      rintro e wd7 ⟨rfl, hd7⟩
      have Y7 := Y6.next hd7
      clear hd7
      refine ⟨_, rfl, Y7, ?_⟩
      have VO := order_value HA.out HB.out hab.out vals
      obtain ⟨xa, hxa⟩ : ∃ x, Hid (valueL a vals = x) := ⟨_, rfl⟩
      obtain ⟨xb, hxb⟩ : ∃ x, Hid (valueL b vals = x) := ⟨_, rfl⟩
      rw [hxa.out, hxb.out] at VO ⊢
      refine reg_now 10 (.bool (decide (xb < xa))) (some 24) hQN Y7 (by kernel_rfl) (by kernel_rfl) (fun w => by kernel_rfl) ?_
      rw [decide_eq_false (show ¬ xb < xa by omega)]
      refine reg_now 11 (.bool false) (some 25) hQN Y7 (by kernel_rfl) (by kernel_rfl) (fun w => by kernel_rfl) ?_
      refine reg_done (by kernel_rfl) (hN _ _ ?_)
      have S5 := Lib.hid Y7
      clear hQN hN VO
      generalize hact : Act.put _ (some 25) _ = act
      simp only [Act.put, List.setIfInBounds_toArray, List.set_cons_succ, List.set_cons_zero] at hact
      subst hact
      go_upto_region 7 with (fail)
      refine region_begin (opsOf Tryd.f4 7) (LvS q w [(q, a), (q + 1, b), (q + 1 + 1, c)] (.slice va n vc) vals) (by kernel_rfl) (by kernel_rfl) 12 (by kernel_rfl) ?_
      intro Q' hQN hN
      have X2t := S5.out.next (Below.refl _ _).drew
      generalize World.drew _ = wr2t at X2t ⊢
      refine reg_nowIf 0 (.agg (ints .i64 (a).zs).toArray) (some 26) hQN X2t (by kernel_rfl) (by kernel_rfl) (fun w' hw => exec_load_mid 46 (.tmp 4) (by kernel_rfl) (q) 0 (by kernel_rfl) (ints .i64 (a).zs) _ (hw.l (q, a) (by simp)).whole Tryd.underlying46 rfl (lvSize HA.out)) ?_
      refine reg_nowIf 1 (.agg (ints .i64 (b).zs).toArray) (some 27) hQN X2t (by kernel_rfl) (by kernel_rfl) (fun w' hw => exec_load_mid 46 (.tmp 5) (by kernel_rfl) (q + 1) 0 (by kernel_rfl) (ints .i64 (b).zs) _ (hw.l (q + 1, b) (by simp)).whole Tryd.underlying46 rfl (lvSize HB.out)) ?_
      refine reg_call 2 17 #[.agg (ints .i64 (a).zs).toArray, .agg (ints .i64 (b).zs).toArray] (some 28) _ (by kernel_rfl) (by kernel_rfl) (by kernel_rfl) (leq_walk a b HA.out HB.out _) ?_
      rintro e wd8 ⟨rfl, hd8⟩
      rw [hab.out]
      have Y8 := X2t.next hd8
      clear hd8
      refine ⟨_, rfl, Y8, ?_⟩
      refine reg_now 3 (.bool true) (some 29) hQN Y8 (by kernel_rfl) (by kernel_rfl) (fun w => by kernel_rfl) ?_
      refine reg_nowIf 4 (.agg (ints .i64 (b).zs).toArray) (some 30) hQN Y8 (by kernel_rfl) (by kernel_rfl) (fun w' hw => exec_load_mid 46 (.tmp 5) (by kernel_rfl) (q + 1) 0 (by kernel_rfl) (ints .i64 (b).zs) _ (hw.l (q + 1, b) (by simp)).whole Tryd.underlying46 rfl (lvSize HB.out)) ?_
      refine reg_nowIf 5 (.agg (ints .i64 (a).zs).toArray) (some 31) hQN Y8 (by kernel_rfl) (by kernel_rfl) (fun w' hw => exec_load_mid 46 (.tmp 4) (by kernel_rfl) (q) 0 (by kernel_rfl) (ints .i64 (a).zs) _ (hw.l (q, a) (by simp)).whole Tryd.underlying46 rfl (lvSize HA.out)) ?_
      refine reg_nowIf 7 (.agg (ints .i64 (a).zs).toArray) (some 33) hQN Y8 (by kernel_rfl) (by kernel_rfl) (fun w' hw => exec_load_mid 46 (.tmp 4) (by kernel_rfl) (q) 0 (by kernel_rfl) (ints .i64 (a).zs) _ (hw.l (q, a) (by simp)).whole Tryd.underlying46 rfl (lvSize HA.out)) ?_
      refine reg_nowIf 8 (.agg (ints .i64 (b).zs).toArray) (some 34) hQN Y8 (by kernel_rfl) (by kernel_rfl) (fun w' hw => exec_load_mid 46 (.tmp 5) (by kernel_rfl) (q + 1) 0 (by kernel_rfl) (ints .i64 (b).zs) _ (hw.l (q + 1, b) (by simp)).whole Tryd.underlying46 rfl (lvSize HB.out)) ?_
      refine reg_now 9 (.bool (decide (a = b))) (some 35) hQN Y8 (by kernel_rfl) (by kernel_rfl) (fun w' => exec_eqlv (.tmp 33) (.tmp 34) 46 (by kernel_rfl) HA.out HB.out (by kernel_rfl) (by kernel_rfl)) ?_
      obtain ⟨eb, heb⟩ : ∃ x, Hid (decide (a = b) = x) := ⟨_, rfl⟩
      rw [heb.out]
      refine reg_call 6 17 #[.agg (ints .i64 (b).zs).toArray, .agg (ints .i64 (a).zs).toArray] (some 32) _ (by kernel_rfl) (by kernel_rfl) (by kernel_rfl) (leq_walk b a HB.out HA.out _) ?_
      rintro e wd9 ⟨rfl, hd9⟩
      rw [leqL_anti HA.out HB.out hab.out, heb.out]
      have Y9 := Y8.next hd9
      clear hd9
      refine ⟨_, rfl, Y9, ?_⟩
      refine reg_now 10 (.bool (!(eb == eb))) (some 36) hQN Y9 (by kernel_rfl) (by kernel_rfl) (fun w' => exec_neqb 4 4 (.tmp 32) (.tmp 35) (by kernel_rfl) Tryd.underlying4 eb eb (by kernel_rfl) (by kernel_rfl) (fun w => by kernel_rfl)) ?_
      rw [show (!(eb == eb)) = false by cases eb <;> rfl]
      refine reg_now 11 (.bool false) (some 37) hQN Y9 (by kernel_rfl) (by kernel_rfl) (fun w => by kernel_rfl) ?_
      refine reg_done (by kernel_rfl) (hN _ _ ?_)
      have S6 := Lib.hid Y9
      clear hQN hN
      generalize hact : Act.put _ (some 37) _ = act
      simp only [Act.put, List.setIfInBounds_toArray, List.set_cons_succ, List.set_cons_zero] at hact
      subst hact
      go_upto_region 9 with (fail)
      refine region_begin (opsOf Tryd.f4 9) (LvS q w [(q, a), (q + 1, b), (q + 1 + 1, c)] (.slice va n vc) vals) (by kernel_rfl) (by kernel_rfl) 24 (by kernel_rfl) ?_
      intro Q' hQN hN
      have X3t := S6.out.next (Below.refl _ _).drew
      generalize World.drew _ = wr3t at X3t ⊢
      refine reg_nowIf 0 (.agg (ints .i64 (a).zs).toArray) (some 38) hQN X3t (by kernel_rfl) (by kernel_rfl) (fun w' hw => exec_load_mid 46 (.tmp 4) (by kernel_rfl) (q) 0 (by kernel_rfl) (ints .i64 (a).zs) _ (hw.l (q, a) (by simp)).whole Tryd.underlying46 rfl (lvSize HA.out)) ?_
      refine reg_nowIf 1 (.agg (ints .i64 (a).zs).toArray) (some 39) hQN X3t (by kernel_rfl) (by kernel_rfl) (fun w' hw => exec_load_mid 46 (.tmp 4) (by kernel_rfl) (q) 0 (by kernel_rfl) (ints .i64 (a).zs) _ (hw.l (q, a) (by simp)).whole Tryd.underlying46 rfl (lvSize HA.out)) ?_
      refine reg_nowIf 3 (.agg (ints .i64 (a).zs).toArray) (some 41) hQN X3t (by kernel_rfl) (by kernel_rfl) (fun w' hw => exec_load_mid 46 (.tmp 4) (by kernel_rfl) (q) 0 (by kernel_rfl) (ints .i64 (a).zs) _ (hw.l (q, a) (by simp)).whole Tryd.underlying46 rfl (lvSize HA.out)) ?_
      refine reg_call 2 17 #[.agg (ints .i64 (a).zs).toArray, .agg (ints .i64 (a).zs).toArray] (some 40) _ (by kernel_rfl) (by kernel_rfl) (by kernel_rfl) (leq_walk a a HA.out HA.out _) ?_
      rintro e wd10 ⟨rfl, hd10⟩
      rw [leqL_refl HA.out]
      have Y10 := X3t.next hd10
      clear hd10
      refine ⟨_, rfl, Y10, ?_⟩
      refine reg_call 4 19 #[.agg (ints .i64 (a).zs).toArray] (some 42) _ (by kernel_rfl) (by kernel_rfl) (by kernel_rfl) (right_walk a HA.out _) ?_
      rintro e wd11 ⟨rfl, hd11⟩
      have Y11 := Y10.next hd11
      clear hd11
      refine ⟨_, rfl, Y11, ?_⟩
      obtain ⟨ra, hra⟩ : ∃ x, Hid (rightL a = x) := ⟨_, rfl⟩
      rw [hra.out]
      refine reg_now 5 (.bool (ra == ra)) (some 43) hQN Y11 (by kernel_rfl) (by kernel_rfl) (fun w' => exec_eqlb 4 4 (.tmp 40) (.tmp 42) (by kernel_rfl) Tryd.underlying4 ra ra (by kernel_rfl) (by kernel_rfl) (fun w => by kernel_rfl)) ?_
      rw [show (ra == ra) = true by cases ra <;> rfl]
      refine reg_now 6 (.bool true) (some 44) hQN Y11 (by kernel_rfl) (by kernel_rfl) (fun w => by kernel_rfl) ?_
      refine reg_nowIf 7 (.agg (ints .i64 (a).zs).toArray) (some 45) hQN Y11 (by kernel_rfl) (by kernel_rfl) (fun w' hw => exec_load_mid 46 (.tmp 4) (by kernel_rfl) (q) 0 (by kernel_rfl) (ints .i64 (a).zs) _ (hw.l (q, a) (by simp)).whole Tryd.underlying46 rfl (lvSize HA.out)) ?_
      refine reg_nowIf 8 (.agg (ints .i64 (b).zs).toArray) (some 46) hQN Y11 (by kernel_rfl) (by kernel_rfl) (fun w' hw => exec_load_mid 46 (.tmp 5) (by kernel_rfl) (q + 1) 0 (by kernel_rfl) (ints .i64 (b).zs) _ (hw.l (q + 1, b) (by simp)).whole Tryd.underlying46 rfl (lvSize HB.out)) ?_
      refine reg_call 9 17 #[.agg (ints .i64 (a).zs).toArray, .agg (ints .i64 (b).zs).toArray] (some 47) _ (by kernel_rfl) (by kernel_rfl) (by kernel_rfl) (leq_walk a b HA.out HB.out _) ?_
      rintro e wd12 ⟨rfl, hd12⟩
      rw [hab.out]
      have Y12 := Y11.next hd12
      clear hd12
      refine ⟨_, rfl, Y12, ?_⟩
      refine reg_now 10 (.bool false) (some 48) hQN Y12 (by kernel_rfl) (by kernel_rfl) (fun w => by kernel_rfl) ?_
      refine reg_now 11 (.bool false) (some 49) hQN Y12 (by kernel_rfl) (by kernel_rfl) (fun w => by kernel_rfl) ?_
      refine reg_nowIf 12 (.agg (ints .i64 (b).zs).toArray) (some 50) hQN Y12 (by kernel_rfl) (by kernel_rfl) (fun w' hw => exec_load_mid 46 (.tmp 5) (by kernel_rfl) (q + 1) 0 (by kernel_rfl) (ints .i64 (b).zs) _ (hw.l (q + 1, b) (by simp)).whole Tryd.underlying46 rfl (lvSize HB.out)) ?_
      refine reg_nowIf 13 (.agg (ints .i64 (c).zs).toArray) (some 51) hQN Y12 (by kernel_rfl) (by kernel_rfl) (fun w' hw => exec_load_mid 46 (.tmp 6) (by kernel_rfl) (q + 1 + 1) 0 (by kernel_rfl) (ints .i64 (c).zs) _ (hw.l (q + 1 + 1, c) (by simp)).whole Tryd.underlying46 rfl (lvSize HC.out)) ?_
      refine reg_call 14 17 #[.agg (ints .i64 (b).zs).toArray, .agg (ints .i64 (c).zs).toArray] (some 52) _ (by kernel_rfl) (by kernel_rfl) (by kernel_rfl) (leq_walk b c HB.out HC.out _) ?_
      rintro e wd13 ⟨rfl, hd13⟩
      have Y13 := Y12.next hd13
      clear hd13
      refine ⟨_, rfl, Y13, ?_⟩
      obtain ⟨bc, hbc⟩ : ∃ x, Hid (leqL b c = x) := ⟨_, rfl⟩
      rw [hbc.out]
      refine reg_now 15 (.bool (!bc)) (some 53) hQN Y13 (by kernel_rfl) (by kernel_rfl) (fun w => by kernel_rfl) ?_
      refine reg_now 16 (.bool (!bc)) (some 54) hQN Y13 (by kernel_rfl) (by kernel_rfl) (fun w => by kernel_rfl) ?_
      refine reg_now 17 (.bool (!bc)) (some 55) hQN Y13 (by kernel_rfl) (by kernel_rfl) (fun w => by kernel_rfl) ?_
      cases bc with
      | false =>
        refine reg_pass 18 (some 56) hQN Y13 (by kernel_rfl) (by kernel_rfl) ?_
        refine reg_pass 19 (some 57) hQN Y13 (by kernel_rfl) (by kernel_rfl) ?_
        refine reg_pass 20 (some 58) hQN Y13 (by kernel_rfl) (by kernel_rfl) ?_
        refine reg_now 21 (.bool true) (some 59) hQN Y13 (by kernel_rfl) (by kernel_rfl) (fun w => by kernel_rfl) ?_
        refine reg_now 22 (.bool true) (some 60) hQN Y13 (by kernel_rfl) (by kernel_rfl) (fun w => by kernel_rfl) ?_
        refine reg_now 23 (.bool true) (some 8) hQN Y13 (by kernel_rfl) (by kernel_rfl) (fun w => by kernel_rfl) ?_
        refine reg_done (by kernel_rfl) (hN _ _ ?_)
        have BF := Lib.hid Y13.b
        clear hQN hN
        generalize hact : Act.put _ (some 8) _ = act
        simp only [Act.put, List.setIfInBounds_toArray, List.set_cons_succ, List.set_cons_zero] at hact
        subst hact
        go_wp2
        go_ret
        exact ⟨rfl, BF.out⟩
      | true =>
        refine reg_nowIf 18 (.agg (ints .i64 (a).zs).toArray) (some 56) hQN Y13 (by kernel_rfl) (by kernel_rfl) (fun w' hw => exec_load_mid 46 (.tmp 4) (by kernel_rfl) (q) 0 (by kernel_rfl) (ints .i64 (a).zs) _ (hw.l (q, a) (by simp)).whole Tryd.underlying46 rfl (lvSize HA.out)) ?_
        refine reg_nowIf 19 (.agg (ints .i64 (c).zs).toArray) (some 57) hQN Y13 (by kernel_rfl) (by kernel_rfl) (fun w' hw => exec_load_mid 46 (.tmp 6) (by kernel_rfl) (q + 1 + 1) 0 (by kernel_rfl) (ints .i64 (c).zs) _ (hw.l (q + 1 + 1, c) (by simp)).whole Tryd.underlying46 rfl (lvSize HC.out)) ?_
        refine reg_call 20 17 #[.agg (ints .i64 (a).zs).toArray, .agg (ints .i64 (c).zs).toArray] (some 58) _ (by kernel_rfl) (by kernel_rfl) (by kernel_rfl) (leq_walk a c HA.out HC.out _) ?_
        rintro e wd14 ⟨rfl, hd14⟩
        rw [leqL_trans HA.out HB.out HC.out hab.out hbc.out]
        have Y14 := Y13.next hd14
        clear hd14
        refine ⟨_, rfl, Y14, ?_⟩
        refine reg_now 21 (.bool true) (some 59) hQN Y14 (by kernel_rfl) (by kernel_rfl) (fun w => by kernel_rfl) ?_
        refine reg_now 22 (.bool true) (some 60) hQN Y14 (by kernel_rfl) (by kernel_rfl) (fun w => by kernel_rfl) ?_
        refine reg_now 23 (.bool true) (some 8) hQN Y14 (by kernel_rfl) (by kernel_rfl) (fun w => by kernel_rfl) ?_
        refine reg_done (by kernel_rfl) (hN _ _ ?_)
        have BF := Lib.hid Y14.b
        clear hQN hN
        generalize hact : Act.put _ (some 8) _ = act
        simp only [Act.put, List.setIfInBounds_toArray, List.set_cons_succ, List.set_cons_zero] at hact
        subst hact
        go_wp2
        go_ret
        exact ⟨rfl, BF.out⟩
set_option maxHeartbeats 8000000 in
theorem max_main (a b c : Lv) (ha : a.p.length = 4) (hb : b.p.length = 4) (hc : c.p.length = 4) (v : Value) (vals : List Int) (w : World) (hv : NumsIn w v vals) (hnl : NilOk v) (hint : ∀ x ∈ vals, -9223372036854775808 ≤ x ∧ x ≤ 9223372036854775807) (hT : TabW w) : Calls Tryd.prog 5 #[.agg (ints .i64 a.zs).toArray, .agg (ints .i64 b.zs).toArray, .agg (ints .i64 c.zs).toArray, v] w fun e w' => e = .returned (.bool true) ∧ Below w.heap.size w w' := by
  obtain ⟨q, hq⟩ : ∃ q, Hid (w.heap.size = q) := ⟨_, rfl⟩
  have HA := Lib.hid ha
  have HB := Lib.hid hb
  have HC := Lib.hid hc
  have HT := Lib.hid hT
  have HI := Lib.hid hint
  obtain ⟨va, vc, rfl, -⟩ := id hv
  have HV := Lib.hid hv
  have HN := Lib.hid hnl
  obtain ⟨n, hn⟩ : ∃ n, Hid (vals.length = n) := ⟨_, rfl⟩
  rw [hn.out] at HV HN ⊢
  rw [hq.out]
  clear ha hb hc hT hint hv hnl
  go_enter Tryd.func5, Tryd.ntmps5
  go_upto_region 0 with (fail)
  refine lin_begin (opsOf Tryd.f5 0) (by kernel_rfl) ?_
  refine lin_box 0 46 (.tmp 0) (ints .i64 a.zs) (q) (some 4) (by kernel_rfl) (by kernel_rfl) (by kernel_rfl) (by kernel_rfl) hq ?_
  intro w1 b1 be1 hs1
  refine lin_box 1 46 (.tmp 1) (ints .i64 b.zs) (q + 1) (some 5) (by kernel_rfl) (by kernel_rfl) (by kernel_rfl) (by kernel_rfl) hs1 ?_
  intro w2 b2 be2 hs2
  refine lin_box 2 46 (.tmp 2) (ints .i64 c.zs) (q + 1 + 1) (some 6) (by kernel_rfl) (by kernel_rfl) (by kernel_rfl) (by kernel_rfl) hs2 ?_
  intro w3 b3 be3 hs3
  refine lin_now 3 (.bool false) (some 8) (by kernel_rfl) (by kernel_rfl) (by kernel_rfl) ?_
  refine lin_done 4 (by kernel_rfl) ?_
  have be03 : Below q w w3 := (be1.trans (be2.mono (Nat.le_succ _))).trans (be3.mono (by omega))
  have S3 : Hid (LvS q w [(q, a), (q + 1, b), (q + 1 + 1, c)] (.slice va n vc) vals w3) := ⟨fun x hx => by
    simp only [List.mem_cons, List.not_mem_nil, or_false] at hx
    rcases hx with rfl | rfl | rfl
    · exact (b1.below be2 (Nat.lt_succ_self _)).below be3 (by omega)
    · exact b2.below be3 (Nat.lt_succ_self _)
    · exact b3, HV.out.below be03 (by rw [hq.out]; exact Nat.le_refl _), be03, by rw [hs3.out]; omega⟩
  have T3 : Hid (TabW w3) := HT.out.below (by rw [hq.out]; exact be03)
  clear b1 be1 hs1 b2 be2 hs2 b3 be3 hs3 be03
  generalize hact : Act.put _ (some 8) _ = act
  simp only [Act.put, List.setIfInBounds_toArray, List.set_cons_succ, List.set_cons_zero] at hact
  subst hact
  go_wp2_with fail
  refine (alive7_walk _ T3.out).mono ?_
  rintro e w4 ⟨rfl, hb4⟩
  have S4 := Lib.hid (S3.out.next hb4)
  clear hb4 S3 T3
  by_cases hlen : 30 < n
  · have r0 : (30 : Int) < (n : Int) := by omega
    go_wp2
    go_ret
    exact ⟨rfl, S4.out.b⟩
  · have r0 : ¬ (30 : Int) < (n : Int) := by omega
    go_upto_region 5 with (fail)
    refine lin_begin (opsOf Tryd.f5 5) (by kernel_rfl) ?_
    refine lin_load 0 46 (.tmp 4) (q) _ (ints .i64 a.zs) (some 16) (by kernel_rfl) (by kernel_rfl) (by kernel_rfl) (by kernel_rfl) (S4.out.l (q, a) (by simp)) _ Tryd.underlying46 rfl (lvSize HA.out) ?_
    refine lin_load 1 46 (.tmp 5) (q + 1) _ (ints .i64 b.zs) (some 17) (by kernel_rfl) (by kernel_rfl) (by kernel_rfl) (by kernel_rfl) (S4.out.l (q + 1, b) (by simp)) _ Tryd.underlying46 rfl (lvSize HB.out) ?_
    obtain ⟨s, hs⟩ : ∃ s, Hid (w4.heap.size = s) := ⟨_, rfl⟩
    refine lin_row 2 46 (ints .i64 (a.zs ++ b.zs)) s 2 (some 18) (by kernel_rfl) (by kernel_rfl) hs (exec_of (Instr.buildSlice 53 2 #[(0, .agg (ints .i64 a.zs).toArray), (1, .agg (ints .i64 b.zs).toArray)]) _ (by kernel_rfl) (run_build_lvs2 HA.out HB.out _)) ?_
    intro w5 b5 be5 hs5
    have Sa := S4.out.next (by rw [hs.out]; exact be5)
    refine lin_call 3 20 #[.slice (some ⟨s, 0, none⟩) 2 2] (some 19) _ (by kernel_rfl) (by kernel_rfl) (by kernel_rfl) (max_walk _ [a, b] _ (two_in HA.out HB.out b5)) ?_
    rintro e w6 ⟨rfl, hb6⟩
    have Sb := Sa.next hb6
    obtain ⟨m, hm⟩ : ∃ m, Hid (maxL [a, b] = m) := ⟨_, rfl⟩
    rw [hm.out]
    have HM : Hid (m.p.length = 4) := by
      rw [Hid, ← hm.out]
      unfold maxL
      split
      · exact maxRow_len _ _ rfl (fun l hl => by simp at hl; rcases hl with rfl | rfl; exact HA.out; exact HB.out)
      · rfl
    obtain ⟨g, hg⟩ : ∃ g, Hid (w6.heap.size = g) := ⟨_, rfl⟩
    refine ⟨_, rfl, ?_⟩
    refine lin_alloc 4 46 (ints .i64 z5) (g) (some 9) (by kernel_rfl) (by kernel_rfl) (by kernel_rfl) zeroLv hg ?_
    intro w7 b7 be7 hs7
    refine lin_put 5 46 (.tmp 9) (.tmp 19) (g) _ (ints .i64 z5) (ints .i64 m.zs) (by kernel_rfl) (by kernel_rfl) (by kernel_rfl) (by kernel_rfl) (by kernel_rfl) b7 ((by rw [Lv.zlen HM.out]; rfl)) (lvSize HM.out) (ints_oneCell _ _) ?_
    intro w8 b8 u8
    refine lin_done 6 (by kernel_rfl) ?_
    have GQ : q + 1 + 1 < g := by rw [← hg.out]; exact (Sb.l (q + 1 + 1, c) (by simp)).lt
    have Sc := Sb.next (by rw [hg.out]; exact be7)
    have S8 : Hid (LvS q w [(q, a), (q + 1, b), (q + 1 + 1, c), (g, m)] (.slice va n vc) vals w8) := ⟨fun x hx => by
      simp only [List.mem_cons, List.not_mem_nil, or_false] at hx
      rcases hx with rfl | rfl | rfl | rfl
      · exact u8.blk (Sc.l (q, a) (by simp)) (by simp only; omega)
      · exact u8.blk (Sc.l (q + 1, b) (by simp)) (by simp only; omega)
      · exact u8.blk (Sc.l (q + 1 + 1, c) (by simp)) (by simp only; omega)
      · exact b8, HV.out.below (u8.below Sc.b (by omega) Sc.s) (by rw [hq.out]; exact Nat.le_refl _), u8.below Sc.b (by omega) Sc.s, Nat.le_trans Sc.s u8.size⟩
    clear hs b5 be5 hs5 Sa hb6 Sb hg b7 be7 hs7 b8 u8 GQ Sc S4
    generalize hact : Act.put _ none undef = act
    simp only [Act.put, List.setIfInBounds_toArray, List.set_cons_succ, List.set_cons_zero] at hact
    subst hact
    go_upto_region 6 with (fail)
    refine lin_begin (opsOf Tryd.f5 6) (by kernel_rfl) ?_
    refine lin_load 0 46 (.tmp 4) (q) _ (ints .i64 a.zs) (some 20) (by kernel_rfl) (by kernel_rfl) (by kernel_rfl) (by kernel_rfl) (S8.out.l (q, a) (by simp)) _ Tryd.underlying46 rfl (lvSize HA.out) ?_
    refine lin_call 1 19 #[.agg (ints .i64 (a).zs).toArray] (some 21) _ (by kernel_rfl) (by kernel_rfl) (by kernel_rfl) (right_walk a HA.out _) ?_
    rintro e w9 ⟨rfl, hb9⟩
    have S9 := Lib.hid (S8.out.next hb9)
    clear hb9 S8
    obtain ⟨ra, hra⟩ : ∃ x, Hid (rightL a = x) := ⟨_, rfl⟩
    rw [hra.out]
    refine ⟨_, rfl, ?_⟩
    refine lin_now 2 (.bool (!ra)) (some 22) (by kernel_rfl) (by kernel_rfl) (by kernel_rfl) ?_
    refine lin_now 3 (.bool (!ra)) (some 23) (by kernel_rfl) (by kernel_rfl) (by kernel_rfl) ?_
    cases ra with
    | false =>
      refine lin_pass 4 (some 24) (by kernel_rfl) (by kernel_rfl) ?_
      refine lin_pass 5 (some 25) (by kernel_rfl) (by kernel_rfl) ?_
      refine lin_pass 6 (some 26) (by kernel_rfl) (by kernel_rfl) ?_
      refine lin_now 7 (.bool true) (some 27) (by kernel_rfl) (by kernel_rfl) (by kernel_rfl) ?_
      refine lin_done 8 (by kernel_rfl) ?_
      generalize hact : Act.put _ (some 27) _ = act
      simp only [Act.put, List.setIfInBounds_toArray, List.set_cons_succ, List.set_cons_zero] at hact
      subst hact
      have MW : Hid (rightL m = false) := by rw [Hid, ← hm.out, maxL_wrong (by simp [hra.out])]; exact wrong_num
      go_upto_region 7 with (fail)
      refine lin_begin (opsOf Tryd.f5 7) (by kernel_rfl) ?_
      refine lin_load 0 46 (.tmp 9) (g) _ (ints .i64 m.zs) (some 28) (by kernel_rfl) (by kernel_rfl) (by kernel_rfl) (by kernel_rfl) (S9.out.l (g, m) (by simp)) _ Tryd.underlying46 rfl (lvSize HM.out) ?_
      refine lin_call 1 19 #[.agg (ints .i64 (m).zs).toArray] (some 29) _ (by kernel_rfl) (by kernel_rfl) (by kernel_rfl) (right_walk m HM.out _) ?_
      rintro e wx ⟨rfl, hbx⟩
      rw [MW.out]
      have BF := Lib.hid (S9.out.next hbx).b
      clear hbx
      refine ⟨_, rfl, ?_⟩
      refine lin_now 2 (.bool true) (some 30) (by kernel_rfl) (by kernel_rfl) (by kernel_rfl) ?_
      refine lin_now 3 (.bool true) (some 8) (by kernel_rfl) (by kernel_rfl) (by kernel_rfl) ?_
      refine lin_done 4 (by kernel_rfl) ?_
      generalize hact : Act.put _ (some 8) _ = act
      simp only [Act.put, List.setIfInBounds_toArray, List.set_cons_succ, List.set_cons_zero] at hact
      subst hact
      go_wp2
      go_ret
      exact ⟨rfl, BF.out⟩
    | true =>
      refine lin_load 4 46 (.tmp 5) (q + 1) _ (ints .i64 b.zs) (some 24) (by kernel_rfl) (by kernel_rfl) (by kernel_rfl) (by kernel_rfl) (S9.out.l (q + 1, b) (by simp)) _ Tryd.underlying46 rfl (lvSize HB.out) ?_
      refine lin_call 5 19 #[.agg (ints .i64 (b).zs).toArray] (some 25) _ (by kernel_rfl) (by kernel_rfl) (by kernel_rfl) (right_walk b HB.out _) ?_
      rintro e w10 ⟨rfl, hb10⟩
      have S10 := Lib.hid (S9.out.next hb10)
      clear hb10 S9
      obtain ⟨rb, hrb⟩ : ∃ x, Hid (rightL b = x) := ⟨_, rfl⟩
      rw [hrb.out]
      refine ⟨_, rfl, ?_⟩
      refine lin_now 6 (.bool (!rb)) (some 26) (by kernel_rfl) (by kernel_rfl) (by kernel_rfl) ?_
      refine lin_now 7 (.bool (!rb)) (some 27) (by kernel_rfl) (by kernel_rfl) (by kernel_rfl) ?_
      refine lin_done 8 (by kernel_rfl) ?_
      generalize hact : Act.put _ (some 27) _ = act
      simp only [Act.put, List.setIfInBounds_toArray, List.set_cons_succ, List.set_cons_zero] at hact
      subst hact
      cases rb with
      | false =>
        have MW : Hid (rightL m = false) := by rw [Hid, ← hm.out, maxL_wrong (by simp [hrb.out])]; exact wrong_num
        go_upto_region 7 with (fail)
        refine lin_begin (opsOf Tryd.f5 7) (by kernel_rfl) ?_
        refine lin_load 0 46 (.tmp 9) (g) _ (ints .i64 m.zs) (some 28) (by kernel_rfl) (by kernel_rfl) (by kernel_rfl) (by kernel_rfl) (S10.out.l (g, m) (by simp)) _ Tryd.underlying46 rfl (lvSize HM.out) ?_
        refine lin_call 1 19 #[.agg (ints .i64 (m).zs).toArray] (some 29) _ (by kernel_rfl) (by kernel_rfl) (by kernel_rfl) (right_walk m HM.out _) ?_
        rintro e wx ⟨rfl, hbx⟩
        rw [MW.out]
        have BF := Lib.hid (S10.out.next hbx).b
        clear hbx
        refine ⟨_, rfl, ?_⟩
        refine lin_now 2 (.bool true) (some 30) (by kernel_rfl) (by kernel_rfl) (by kernel_rfl) ?_
        refine lin_now 3 (.bool true) (some 8) (by kernel_rfl) (by kernel_rfl) (by kernel_rfl) ?_
        refine lin_done 4 (by kernel_rfl) ?_
        generalize hact : Act.put _ (some 8) _ = act
        simp only [Act.put, List.setIfInBounds_toArray, List.set_cons_succ, List.set_cons_zero] at hact
        subst hact
        go_wp2
        go_ret
        exact ⟨rfl, BF.out⟩
      | true =>
        have ME : Hid (m = max2 a b) := by rw [Hid, ← hm.out]; exact maxL_two HA.out hra.out hrb.out
        have MV : Hid (valueL m vals = max (valueL a vals) (valueL b vals)) := by rw [Hid, ME.out]; exact max2_value HA.out HB.out hra.out hrb.out vals
        have LA : Hid (leqL a m = true) := by rw [Hid, ME.out]; exact max2_left HA.out HB.out hra.out hrb.out
        have LB : Hid (leqL b m = true) := by rw [Hid, ME.out, max2_comm HA.out HB.out]; exact max2_left HB.out HA.out hrb.out hra.out
        have MC : Hid (maxL [b, a] = m) := by rw [Hid, maxL_two HB.out hrb.out hra.out, ME.out, max2_comm HA.out HB.out]
        go_upto_region 8 with (fail)
        refine region_begin (opsOf Tryd.f5 8) (LvS q w [(q, a), (q + 1, b), (q + 1 + 1, c), (g, m)] (.slice va n vc) vals) (by kernel_rfl) (by kernel_rfl) 8 (by kernel_rfl) ?_
        intro Q' hQN hN
        have X1 := S10.out.next (Below.refl _ _).drew
        generalize World.drew _ = wr1 at X1 ⊢
        refine reg_nowIf 0 (.agg (ints .i64 (a).zs).toArray) (some 31) hQN X1 (by kernel_rfl) (by kernel_rfl) (fun w' hw => exec_load_mid 46 (.tmp 4) (by kernel_rfl) (q) 0 (by kernel_rfl) (ints .i64 (a).zs) _ (hw.l (q, a) (by simp)).whole Tryd.underlying46 rfl (lvSize HA.out)) ?_
        refine reg_now 1 (.slice va n vc) (some 32) hQN X1 (by kernel_rfl) (by kernel_rfl) (fun w => by kernel_rfl) ?_
        refine reg_nowIf 3 (.agg (ints .i64 (b).zs).toArray) (some 34) hQN X1 (by kernel_rfl) (by kernel_rfl) (fun w' hw => exec_load_mid 46 (.tmp 5) (by kernel_rfl) (q + 1) 0 (by kernel_rfl) (ints .i64 (b).zs) _ (hw.l (q + 1, b) (by simp)).whole Tryd.underlying46 rfl (lvSize HB.out)) ?_
        refine reg_now 4 (.slice va n vc) (some 35) hQN X1 (by kernel_rfl) (by kernel_rfl) (fun w => by kernel_rfl) ?_
        refine reg_call 2 18 #[.agg (ints .i64 (a).zs).toArray, .slice va n vc] (some 33) _ (by kernel_rfl) (by kernel_rfl) (by kernel_rfl) (value_walk a HA.out _ vals _ X1.n HN.out HI.out) ?_
        rintro e wd1 ⟨rfl, hd1⟩
        have Y1 := X1.next hd1
        clear hd1
        refine ⟨_, rfl, Y1, ?_⟩
        refine reg_call 5 18 #[.agg (ints .i64 (b).zs).toArray, .slice va n vc] (some 36) _ (by kernel_rfl) (by kernel_rfl) (by kernel_rfl) (value_walk b HB.out _ vals _ Y1.n HN.out HI.out) ?_
        rintro e wd2 ⟨rfl, hd2⟩
        have Y2 := Y1.next hd2
        clear hd2
        refine ⟨_, rfl, Y2, ?_⟩
        refine reg_now 6 (.int .i64 (max (valueL a vals) (valueL b vals))) (some 37) hQN Y2 (by kernel_rfl) (by kernel_rfl) (fun w' => exec_max #[3, 3] 3 (valueL a vals) (valueL b vals) (by kernel_rfl)) ?_
        rw [← MV.out]
        refine reg_now 7 (.int .i64 (valueL m vals)) (some 10) hQN Y2 (by kernel_rfl) (by kernel_rfl) (fun w => by kernel_rfl) ?_
        refine reg_done (by kernel_rfl) (hN _ _ ?_)
        have S11 := Lib.hid Y2
        clear hQN hN MV
        generalize hact : Act.put _ (some 10) _ = act
        simp only [Act.put, List.setIfInBounds_toArray, List.set_cons_succ, List.set_cons_zero] at hact
        subst hact
        go_upto_region 9 with (fail)
        refine region_begin (opsOf Tryd.f5 9) (LvS q w [(q, a), (q + 1, b), (q + 1 + 1, c), (g, m)] (.slice va n vc) vals) (by kernel_rfl) (by kernel_rfl) 41 (by kernel_rfl) ?_
        intro Q' hQN hN
        have X2 := S11.out.next (Below.refl _ _).drew
        generalize World.drew _ = wr2 at X2 ⊢
        refine reg_nowIf 0 (.agg (ints .i64 (a).zs).toArray) (some 38) hQN X2 (by kernel_rfl) (by kernel_rfl) (fun w' hw => exec_load_mid 46 (.tmp 4) (by kernel_rfl) (q) 0 (by kernel_rfl) (ints .i64 (a).zs) _ (hw.l (q, a) (by simp)).whole Tryd.underlying46 rfl (lvSize HA.out)) ?_
        refine reg_nowIf 1 (.agg (ints .i64 (m).zs).toArray) (some 39) hQN X2 (by kernel_rfl) (by kernel_rfl) (fun w' hw => exec_load_mid 46 (.tmp 9) (by kernel_rfl) (g) 0 (by kernel_rfl) (ints .i64 (m).zs) _ (hw.l (g, m) (by simp)).whole Tryd.underlying46 rfl (lvSize HM.out)) ?_
        refine reg_call 2 17 #[.agg (ints .i64 (a).zs).toArray, .agg (ints .i64 (m).zs).toArray] (some 40) _ (by kernel_rfl) (by kernel_rfl) (by kernel_rfl) (leq_walk a m HA.out HM.out _) ?_
        rintro e wd3 ⟨rfl, hd3⟩
        rw [LA.out]
        have Y3 := X2.next hd3
        clear hd3
        refine ⟨_, rfl, Y3, ?_⟩
        refine reg_now 3 (.bool true) (some 41) hQN Y3 (by kernel_rfl) (by kernel_rfl) (fun w => by kernel_rfl) ?_
        refine reg_nowIf 4 (.agg (ints .i64 (b).zs).toArray) (some 42) hQN Y3 (by kernel_rfl) (by kernel_rfl) (fun w' hw => exec_load_mid 46 (.tmp 5) (by kernel_rfl) (q + 1) 0 (by kernel_rfl) (ints .i64 (b).zs) _ (hw.l (q + 1, b) (by simp)).whole Tryd.underlying46 rfl (lvSize HB.out)) ?_
        refine reg_nowIf 5 (.agg (ints .i64 (m).zs).toArray) (some 43) hQN Y3 (by kernel_rfl) (by kernel_rfl) (fun w' hw => exec_load_mid 46 (.tmp 9) (by kernel_rfl) (g) 0 (by kernel_rfl) (ints .i64 (m).zs) _ (hw.l (g, m) (by simp)).whole Tryd.underlying46 rfl (lvSize HM.out)) ?_
        refine reg_call 6 17 #[.agg (ints .i64 (b).zs).toArray, .agg (ints .i64 (m).zs).toArray] (some 44) _ (by kernel_rfl) (by kernel_rfl) (by kernel_rfl) (leq_walk b m HB.out HM.out _) ?_
        rintro e wd4 ⟨rfl, hd4⟩
        rw [LB.out]
        have Y4 := Y3.next hd4
        clear hd4
        refine ⟨_, rfl, Y4, ?_⟩
        refine reg_now 7 (.bool true) (some 45) hQN Y4 (by kernel_rfl) (by kernel_rfl) (fun w => by kernel_rfl) ?_
        refine reg_now 8 (.bool true) (some 46) hQN Y4 (by kernel_rfl) (by kernel_rfl) (fun w => by kernel_rfl) ?_
        refine reg_nowIf 9 (.agg (ints .i64 (m).zs).toArray) (some 47) hQN Y4 (by kernel_rfl) (by kernel_rfl) (fun w' hw => exec_load_mid 46 (.tmp 9) (by kernel_rfl) (g) 0 (by kernel_rfl) (ints .i64 (m).zs) _ (hw.l (g, m) (by simp)).whole Tryd.underlying46 rfl (lvSize HM.out)) ?_
        refine reg_now 10 (.slice va n vc) (some 48) hQN Y4 (by kernel_rfl) (by kernel_rfl) (fun w => by kernel_rfl) ?_
        refine reg_now 12 (.int .i64 (valueL m vals)) (some 50) hQN Y4 (by kernel_rfl) (by kernel_rfl) (fun w => by kernel_rfl) ?_
        refine reg_call 11 18 #[.agg (ints .i64 (m).zs).toArray, .slice va n vc] (some 49) _ (by kernel_rfl) (by kernel_rfl) (by kernel_rfl) (value_walk m HM.out _ vals _ Y4.n HN.out HI.out) ?_
        rintro e wd5 ⟨rfl, hd5⟩
        have Y5 := Y4.next hd5
        clear hd5
        refine ⟨_, rfl, Y5, ?_⟩
        obtain ⟨xm, hxm⟩ : ∃ x, Hid (valueL m vals = x) := ⟨_, rfl⟩
        rw [hxm.out]
        refine reg_now 13 (.bool (xm == xm)) (some 51) hQN Y5 (by kernel_rfl) (by kernel_rfl) (fun w => by kernel_rfl) ?_
        rw [show (xm == xm) = true by simp]
        refine reg_now 14 (.bool true) (some 52) hQN Y5 (by kernel_rfl) (by kernel_rfl) (fun w => by kernel_rfl) ?_
        refine reg_now 15 (.bool true) (some 53) hQN Y5 (by kernel_rfl) (by kernel_rfl) (fun w => by kernel_rfl) ?_
        refine reg_nowIf 16 (.agg (ints .i64 (m).zs).toArray) (some 54) hQN Y5 (by kernel_rfl) (by kernel_rfl) (fun w' hw => exec_load_mid 46 (.tmp 9) (by kernel_rfl) (g) 0 (by kernel_rfl) (ints .i64 (m).zs) _ (hw.l (g, m) (by simp)).whole Tryd.underlying46 rfl (lvSize HM.out)) ?_
        refine reg_nowIf 17 (.agg (ints .i64 (b).zs).toArray) (some 55) hQN Y5 (by kernel_rfl) (by kernel_rfl) (fun w' hw => exec_load_mid 46 (.tmp 5) (by kernel_rfl) (q + 1) 0 (by kernel_rfl) (ints .i64 (b).zs) _ (hw.l (q + 1, b) (by simp)).whole Tryd.underlying46 rfl (lvSize HB.out)) ?_
        refine reg_nowIf 18 (.agg (ints .i64 (a).zs).toArray) (some 56) hQN Y5 (by kernel_rfl) (by kernel_rfl) (fun w' hw => exec_load_mid 46 (.tmp 4) (by kernel_rfl) (q) 0 (by kernel_rfl) (ints .i64 (a).zs) _ (hw.l (q, a) (by simp)).whole Tryd.underlying46 rfl (lvSize HA.out)) ?_
        obtain ⟨s2, hs2⟩ : ∃ s, Hid (wd5.heap.size = s) := ⟨_, rfl⟩
        refine reg_row 19 46 (ints .i64 (b.zs ++ a.zs)) s2 2 (some 57) (by kernel_rfl) (by kernel_rfl) hs2 (exec_of (Instr.buildSlice 53 2 #[(0, .agg (ints .i64 b.zs).toArray), (1, .agg (ints .i64 a.zs).toArray)]) _ (by kernel_rfl) (run_build_lvs2 HB.out HA.out _)) ?_
        intro wi bi bei hsi
        have Yi := Y5.next (by rw [hs2.out]; exact bei)
        refine ⟨Yi, ?_⟩
        refine reg_call 20 20 #[.slice (some ⟨s2, 0, none⟩) 2 2] (some 58) _ (by kernel_rfl) (by kernel_rfl) (by kernel_rfl) (max_walk _ [b, a] _ (two_in HB.out HA.out bi)) ?_
        rintro e wd6 ⟨rfl, hd6⟩
        rw [MC.out]
        have Y6 := Yi.next hd6
        clear hd6
        refine ⟨_, rfl, Y6, ?_⟩
        refine reg_now 21 (.bool true) (some 59) hQN Y6 (by kernel_rfl) (by kernel_rfl) (fun w' => exec_eqlv_yes (.tmp 54) (.tmp 58) 46 (by kernel_rfl) HM.out (by kernel_rfl) (by kernel_rfl)) ?_
        refine reg_now 22 (.bool true) (some 60) hQN Y6 (by kernel_rfl) (by kernel_rfl) (fun w => by kernel_rfl) ?_
        refine reg_now 23 (.bool true) (some 61) hQN Y6 (by kernel_rfl) (by kernel_rfl) (fun w => by kernel_rfl) ?_
        refine reg_nowIf 24 (.agg (ints .i64 (a).zs).toArray) (some 62) hQN Y6 (by kernel_rfl) (by kernel_rfl) (fun w' hw => exec_load_mid 46 (.tmp 4) (by kernel_rfl) (q) 0 (by kernel_rfl) (ints .i64 (a).zs) _ (hw.l (q, a) (by simp)).whole Tryd.underlying46 rfl (lvSize HA.out)) ?_
        refine reg_nowIf 25 (.agg (ints .i64 (c).zs).toArray) (some 63) hQN Y6 (by kernel_rfl) (by kernel_rfl) (fun w' hw => exec_load_mid 46 (.tmp 6) (by kernel_rfl) (q + 1 + 1) 0 (by kernel_rfl) (ints .i64 (c).zs) _ (hw.l (q + 1 + 1, c) (by simp)).whole Tryd.underlying46 rfl (lvSize HC.out)) ?_
        refine reg_call 26 17 #[.agg (ints .i64 (a).zs).toArray, .agg (ints .i64 (c).zs).toArray] (some 64) _ (by kernel_rfl) (by kernel_rfl) (by kernel_rfl) (leq_walk a c HA.out HC.out _) ?_
        rintro e wd7 ⟨rfl, hd7⟩
        have Y7 := Y6.next hd7
        clear hd7
        refine ⟨_, rfl, Y7, ?_⟩
        obtain ⟨ac, hac⟩ : ∃ x, Hid (leqL a c = x) := ⟨_, rfl⟩
        rw [hac.out]
        refine reg_now 27 (.bool (!ac)) (some 65) hQN Y7 (by kernel_rfl) (by kernel_rfl) (fun w => by kernel_rfl) ?_
        refine reg_now 28 (.bool (!ac)) (some 66) hQN Y7 (by kernel_rfl) (by kernel_rfl) (fun w => by kernel_rfl) ?_
        cases ac with
        | false =>
          refine reg_pass 29 (some 67) hQN Y7 (by kernel_rfl) (by kernel_rfl) ?_
          refine reg_pass 30 (some 68) hQN Y7 (by kernel_rfl) (by kernel_rfl) ?_
          refine reg_pass 31 (some 69) hQN Y7 (by kernel_rfl) (by kernel_rfl) ?_
          refine reg_pass 32 (some 70) hQN Y7 (by kernel_rfl) (by kernel_rfl) ?_
          refine reg_now 33 (.bool true) (some 71) hQN Y7 (by kernel_rfl) (by kernel_rfl) (fun w => by kernel_rfl) ?_
          refine reg_now 34 (.bool true) (some 72) hQN Y7 (by kernel_rfl) (by kernel_rfl) (fun w => by kernel_rfl) ?_
          refine reg_pass 35 (some 73) hQN Y7 (by kernel_rfl) (by kernel_rfl) ?_
          refine reg_pass 36 (some 74) hQN Y7 (by kernel_rfl) (by kernel_rfl) ?_
          refine reg_pass 37 (some 75) hQN Y7 (by kernel_rfl) (by kernel_rfl) ?_
          refine reg_now 38 (.bool true) (some 76) hQN Y7 (by kernel_rfl) (by kernel_rfl) (fun w => by kernel_rfl) ?_
          refine reg_now 39 (.bool true) (some 77) hQN Y7 (by kernel_rfl) (by kernel_rfl) (fun w => by kernel_rfl) ?_
          refine reg_now 40 (.bool true) (some 8) hQN Y7 (by kernel_rfl) (by kernel_rfl) (fun w => by kernel_rfl) ?_
          refine reg_done (by kernel_rfl) (hN _ _ ?_)
          have BF := Lib.hid Y7.b
          clear hQN hN
          generalize hact : Act.put _ (some 8) _ = act
          simp only [Act.put, List.setIfInBounds_toArray, List.set_cons_succ, List.set_cons_zero] at hact
          subst hact
          go_wp2
          go_ret
          exact ⟨rfl, BF.out⟩
        | true =>
          refine reg_nowIf 29 (.agg (ints .i64 (b).zs).toArray) (some 67) hQN Y7 (by kernel_rfl) (by kernel_rfl) (fun w' hw => exec_load_mid 46 (.tmp 5) (by kernel_rfl) (q + 1) 0 (by kernel_rfl) (ints .i64 (b).zs) _ (hw.l (q + 1, b) (by simp)).whole Tryd.underlying46 rfl (lvSize HB.out)) ?_
          refine reg_nowIf 30 (.agg (ints .i64 (c).zs).toArray) (some 68) hQN Y7 (by kernel_rfl) (by kernel_rfl) (fun w' hw => exec_load_mid 46 (.tmp 6) (by kernel_rfl) (q + 1 + 1) 0 (by kernel_rfl) (ints .i64 (c).zs) _ (hw.l (q + 1 + 1, c) (by simp)).whole Tryd.underlying46 rfl (lvSize HC.out)) ?_
          refine reg_call 31 17 #[.agg (ints .i64 (b).zs).toArray, .agg (ints .i64 (c).zs).toArray] (some 69) _ (by kernel_rfl) (by kernel_rfl) (by kernel_rfl) (leq_walk b c HB.out HC.out _) ?_
          rintro e wd8 ⟨rfl, hd8⟩
          have Y8 := Y7.next hd8
          clear hd8
          refine ⟨_, rfl, Y8, ?_⟩
          obtain ⟨bc, hbc⟩ : ∃ x, Hid (leqL b c = x) := ⟨_, rfl⟩
          rw [hbc.out]
          refine reg_now 32 (.bool (!bc)) (some 70) hQN Y8 (by kernel_rfl) (by kernel_rfl) (fun w => by kernel_rfl) ?_
          refine reg_now 33 (.bool (!bc)) (some 71) hQN Y8 (by kernel_rfl) (by kernel_rfl) (fun w => by kernel_rfl) ?_
          refine reg_now 34 (.bool (!bc)) (some 72) hQN Y8 (by kernel_rfl) (by kernel_rfl) (fun w => by kernel_rfl) ?_
          cases bc with
          | false =>
            refine reg_pass 35 (some 73) hQN Y8 (by kernel_rfl) (by kernel_rfl) ?_
            refine reg_pass 36 (some 74) hQN Y8 (by kernel_rfl) (by kernel_rfl) ?_
            refine reg_pass 37 (some 75) hQN Y8 (by kernel_rfl) (by kernel_rfl) ?_
            refine reg_now 38 (.bool true) (some 76) hQN Y8 (by kernel_rfl) (by kernel_rfl) (fun w => by kernel_rfl) ?_
            refine reg_now 39 (.bool true) (some 77) hQN Y8 (by kernel_rfl) (by kernel_rfl) (fun w => by kernel_rfl) ?_
            refine reg_now 40 (.bool true) (some 8) hQN Y8 (by kernel_rfl) (by kernel_rfl) (fun w => by kernel_rfl) ?_
            refine reg_done (by kernel_rfl) (hN _ _ ?_)
            have BF := Lib.hid Y8.b
            clear hQN hN
            generalize hact : Act.put _ (some 8) _ = act
            simp only [Act.put, List.setIfInBounds_toArray, List.set_cons_succ, List.set_cons_zero] at hact
            subst hact
            go_wp2
            go_ret
            exact ⟨rfl, BF.out⟩
          | true =>
            refine reg_nowIf 35 (.agg (ints .i64 (m).zs).toArray) (some 73) hQN Y8 (by kernel_rfl) (by kernel_rfl) (fun w' hw => exec_load_mid 46 (.tmp 9) (by kernel_rfl) (g) 0 (by kernel_rfl) (ints .i64 (m).zs) _ (hw.l (g, m) (by simp)).whole Tryd.underlying46 rfl (lvSize HM.out)) ?_
            refine reg_nowIf 36 (.agg (ints .i64 (c).zs).toArray) (some 74) hQN Y8 (by kernel_rfl) (by kernel_rfl) (fun w' hw => exec_load_mid 46 (.tmp 6) (by kernel_rfl) (q + 1 + 1) 0 (by kernel_rfl) (ints .i64 (c).zs) _ (hw.l (q + 1 + 1, c) (by simp)).whole Tryd.underlying46 rfl (lvSize HC.out)) ?_
            refine reg_call 37 17 #[.agg (ints .i64 (m).zs).toArray, .agg (ints .i64 (c).zs).toArray] (some 75) _ (by kernel_rfl) (by kernel_rfl) (by kernel_rfl) (leq_walk m c HM.out HC.out _) ?_
            rintro e wd9 ⟨rfl, hd9⟩
            rw [show leqL m c = true by rw [ME.out]; exact max2_least HA.out HB.out HC.out hac.out hbc.out]
            have Y9 := Y8.next hd9
            clear hd9
            refine ⟨_, rfl, Y9, ?_⟩
            refine reg_now 38 (.bool true) (some 76) hQN Y9 (by kernel_rfl) (by kernel_rfl) (fun w => by kernel_rfl) ?_
            refine reg_now 39 (.bool true) (some 77) hQN Y9 (by kernel_rfl) (by kernel_rfl) (fun w => by kernel_rfl) ?_
            refine reg_now 40 (.bool true) (some 8) hQN Y9 (by kernel_rfl) (by kernel_rfl) (fun w => by kernel_rfl) ?_
            refine reg_done (by kernel_rfl) (hN _ _ ?_)
            have BF := Lib.hid Y9.b
            clear hQN hN
            generalize hact : Act.put _ (some 8) _ = act
            simp only [Act.put, List.setIfInBounds_toArray, List.set_cons_succ, List.set_cons_zero] at hact
            subst hact
            go_wp2
            go_ret
            exact ⟨rfl, BF.out⟩
end Go.Proofs.YtngpmilojfbpmaaDoor
