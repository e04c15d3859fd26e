/- The laws LexJoins and LexRows. -/
import Derived.Test.YtjclhlnkojbidaaLexK
import Derived.Laws.Concat
import Derived.Laws.StructEq
namespace Go.Proofs.Ytjclhlnkojbidaa
open Go Go.RowKit
set_option maxRecDepth 100000

theorem scan_len3 {s : List UInt8} {a : Nat} {ts : List Tk} (h : scanS s a = .ok ts) : ts.length ≤ s.length ∧ sumT ts ≤ 2 * s.length := by
  obtain ⟨-, h2, h3, -⟩ := scan_toks _ s a ts (Nat.le_refl _) h
  unfold sumT
  omega
/-- What is joined is scanned as the same kinds and texts. -/
theorem join_scan {s : List UInt8} {ts : List Tk} (h : scanS s 0 = .ok ts) (hs : s.length ≤ 3000) : ∃ us, scanR (joinB (textsOf ts)) = (us, 0, 0) ∧ us.map (fun x => (x.k, x.t)) = ts.map (fun x => (x.k, x.t)) := by
  obtain ⟨us, e1, e2⟩ := scan_join ts 0 (scan_toks _ s 0 ts (Nat.le_refl _) h).1
  have hl := joinT_len ts
  have h2 := (scan_len3 h).2
  exact ⟨us, scanR_ok (by omega) e1, e2⟩
theorem map_at {us ts : List Tk} (h : us.map (fun x => (x.k, x.t)) = ts.map (fun x => (x.k, x.t))) {k : Nat} {x : Tk} (hx : ts[k]? = some x) : ∃ p, us[k]? = some ⟨x.k, x.t, p⟩ := by
  have := congrArg (fun l : List (Nat × List UInt8) => l[k]?) h
  simp only [List.getElem?_map, hx, Option.map_some] at this
  cases hu : us[k]? with
  | none => rw [hu] at this; cases this
  | some y =>
    rw [hu] at this
    have e := Option.some.inj this
    obtain ⟨yk, yt, yp⟩ := y
    have e1 : yk = x.k := (Prod.mk.inj e).1
    have e2 : yt = x.t := (Prod.mk.inj e).2
    exact ⟨yp, by rw [e1, e2]⟩
/-- The next token: what is between, and where it stands. -/
theorem next_tok {s : List UInt8} {E : Nat} {x : Tk} {ts : List Tk} (hE : E ≤ s.length) (h : scanS (s.drop E) E = .ok (x :: ts)) :
    E ≤ x.p ∧ x.p + x.t.length ≤ s.length ∧ scanS ((s.drop E).take (x.p - E)) 0 = .ok [] ∧ (s.drop x.p).take x.t.length = x.t ∧ scanS (s.drop (x.p + x.t.length)) (x.p + x.t.length) = .ok ts := by
  obtain ⟨g, r, e1, e2, e3, e4, -⟩ := scan_first _ _ E x ts (Nat.le_refl _) h
  have hlen := congrArg List.length e1
  rw [List.length_drop, List.length_append, List.length_append] at hlen
  have hd : s.drop x.p = x.t ++ r := by
    rw [e2, ← List.drop_drop, e1, List.drop_left' rfl]
  refine ⟨by omega, by omega, ?_, ?_, ?_⟩
  · rw [e1, e2, Nat.add_sub_cancel_left, List.take_left' rfl]; exact e3 0
  · rw [hd, List.take_left' rfl]
  · rw [← List.drop_drop, hd, List.drop_left' rfl]; exact e4
theorem scanR_gap {g : List UInt8} (h : scanS g 0 = .ok []) (hg : g.length ≤ 3000) : scanR g = ([], 0, 0) := scanR_ok (by omega) h
/-- Two texts with a line's end between. -/
def rowsR (a b : List UInt8) : List Tk × Nat × Nat := match scanS a 0 with
  | .error p => ([], p, 10)
  | .ok xs => match scanS b 0 with
    | .error p => ([], p + (a.length + 1), 10)
    | .ok ys => (xs ++ ys.map (shiftT (a.length + 1)), 0, 0)
theorem scanR_rows {a b : List UInt8} (ha : a.length ≤ 2000) (hb : b.length ≤ 2000) : scanR (a ++ 10 :: b) = rowsR a b := by
  have hl : ¬ 65536 < (a ++ 10 :: b).length := by rw [List.length_append, List.length_cons]; omega
  have h1 := scan_rows b _ a 0 (Nat.le_refl _)
  have h2 := scan_shift (a.length + 1) _ b 0 (Nat.le_refl _)
  rw [Nat.zero_add] at h1 h2
  unfold rowsR
  cases hs : scanS a 0 with
  | error p =>
    rw [hs] at h1
    exact scanR_bad hl h1
  | ok xs =>
    rw [hs] at h1
    dsimp only at h1
    rw [h2] at h1
    cases ht : scanS b 0 with
    | error p => rw [ht] at h1; exact scanR_bad hl h1
    | ok ys => rw [ht] at h1; exact scanR_ok hl h1
theorem exec_sCat {a : Act} {w : World} {op : Oper} (x y : Operand) (t2 : TypeId) (ho : op.op = .binOp .add 9 x y t2) (xs ys : List UInt8) (ex : a.eval x = sT xs) (ey : a.eval y = sT ys) (hx : xs.length ≤ 5000) (hy : ys.length ≤ 5000) : (execOp a.eval op).run Try.prog w = .ok (.value (sT (xs ++ ys))) w := by
  have hr : (binOp .add 9 (sT xs) (sT ys)).run Try.prog w = .ok (sT (xs ++ ys)) w := by
    have h := run_string_add_lists (P := Try.prog) w xs ys (by omega) (by omega)
    unfold sT
    simpa [binOp] using h
  unfold execOp
  simp only [ho, ex, ey, Sem.run_bind]
  first | rw [hr] | (simp only [eqGuard]; simp [hr])
noncomputable def tkF0 : Field := (Try.prog.fieldsOf 31)[0]!
noncomputable def tkF1 : Field := (Try.prog.fieldsOf 31)[1]!
noncomputable def tkF2 : Field := (Try.prog.fieldsOf 31)[2]!
theorem tkFs : (Try.prog.fieldsOf 31).toList = [tkF0, tkF1, tkF2] := by kernel_rfl
theorem tkF0n : tkF0.name = "Kind" := by kernel_rfl
theorem tkF1n : tkF1.name = "Text" := by kernel_rfl
theorem tkF2n : tkF2.name = "At" := by kernel_rfl
theorem tkF0t : tkF0.type = 3 := by kernel_rfl
theorem tkF1t : tkF1.type = 9 := by kernel_rfl
theorem tkF2t : tkF2.type = 3 := by kernel_rfl
theorem tkF0o : tkF0.offset = 0 := by kernel_rfl
theorem tkF1o : tkF1.offset = 1 := by kernel_rfl
theorem tkF2o : tkF2.offset = 2 := by kernel_rfl
theorem run_eq_tok (x : Tk) (w : World) : (Op.equalIn 10000 31 (.agg (tkC x).toArray) (.agg (tkC x).toArray)).run Try.prog w = .ok true w := by
  rw [show (10000 : Nat) = 9999 + 1 from rfl, run_equalIn_struct w 9999 _ _ _ (by kernel_rfl) (by kernel_rfl), tkFs]
  have p0 : (part 3 (tkC x).toArray 0).run Try.prog w = .ok (.int .i64 (x.k : Int)) w := by kernel_rfl
  have p1 : (part 9 (tkC x).toArray 1).run Try.prog w = .ok (sT x.t) w := by kernel_rfl
  have p2 : (part 3 (tkC x).toArray 2).run Try.prog w = .ok (.int .i64 (x.p : Int)) w := by kernel_rfl
  have q0 : (Op.equalIn 9999 3 (.int .i64 (x.k : Int)) (.int .i64 (x.k : Int))).run Try.prog w = .ok true w := by
    have h := run_equalIn_int w 9998 3 .i64 .i64 (x.k : Int) (x.k : Int) Try.underlying3
    simpa using h
  have q1 : (Op.equalIn 9999 9 (sT x.t) (sT x.t)).run Try.prog w = .ok true w := by
    have h := run_equalIn_string w 9998 9 ⟨x.t.toArray⟩ ⟨x.t.toArray⟩ Try.underlying9
    unfold sT
    simpa using h
  have q2 : (Op.equalIn 9999 3 (.int .i64 (x.p : Int)) (.int .i64 (x.p : Int))).run Try.prog w = .ok true w := by
    have h := run_equalIn_int w 9998 3 .i64 .i64 (x.p : Int) (x.p : Int) Try.underlying3
    simpa using h
  have n0 : tkF0.name ≠ "_" := by rw [tkF0n]; decide
  have n1 : tkF1.name ≠ "_" := by rw [tkF1n]; decide
  have n2 : tkF2.name ≠ "_" := by rw [tkF2n]; decide
  unfold Op.eqFields
  rw [if_pos n0]
  simp only [Sem.run_bind, tkF0t, tkF0o, p0, Result.andThen_ok, q0]
  rw [if_neg (by decide)]
  unfold Op.eqFields
  rw [if_pos n1]
  simp only [Sem.run_bind, tkF1t, tkF1o, p1, Result.andThen_ok, q1]
  rw [if_neg (by decide)]
  unfold Op.eqFields
  rw [if_pos n2]
  simp only [Sem.run_bind, tkF2t, tkF2o, p2, Result.andThen_ok, q2]
  rw [if_neg (by decide)]
  rfl
theorem exec_tNe {a : Act} {w : World} {op : Oper} (x y : Operand) (yt : TypeId) (ho : op.op = .binOp .neq 31 x y yt) (k : Tk) (ex : a.eval x = .agg (tkC k).toArray) (ey : a.eval y = .agg (tkC k).toArray) : (execOp a.eval op).run Try.prog w = .ok (.value (.bool false)) w := by
  unfold execOp
  have hg : Try.prog.eqGuardType Try.prog.depth 31 = false := by kernel_rfl
  simp only [ho, ex, ey, Sem.run_bind, run_neq_struct, run_eqGuard_agg w _ 31 x y _ _ hg, run_eq_tok, Result.andThen_ok]
  rfl

theorem cell_lt {w : World} {p : Addr} {v : Value} (h : w.cell? p = some v) : p.block < w.heap.size := by
  rcases Nat.lt_or_ge p.block w.heap.size with h' | h'
  · exact h'
  · simp [World.cell?, Array.getElem?_eq_none h'] at h
set_option maxHeartbeats 8000000 in
theorem joins_main (s : List UInt8) (w : World) : Calls Try.prog 5 #[sT s] w fun e w' => e = .returned (.bool true) ∧ Below w.heap.size w w' := by
  obtain ⟨q, hq⟩ : ∃ q, Hid (w.heap.size = q) := ⟨_, rfl⟩
  rw [hq.out]
  obtain ⟨N, hNl⟩ : ∃ N, Hid (s.length = N) := ⟨_, rfl⟩
  go_enter Try.func5, Try.ntmps5
  go_upto_region 0 with (fail)
  refine lin_begin (opsOf Try.f5 0) (by kernel_rfl) ?_
  refine lnow 0 (.bool false) (some 2) ?_
  refine lin_done 1 (by kernel_rfl) ?_
  generalize hact : Act.put _ (some 2) _ = act
  simp only [Act.put, List.setIfInBounds_toArray, List.set_cons_succ, List.set_cons_zero] at hact
  subst hact
  go_upto_region 1 with (fail)
  refine lin_begin (opsOf Try.f5 1) (by kernel_rfl) ?_
  refine lin_call 0 7 #[] (some 15) _ (by kernel_rfl) (by kernel_rfl) (by kernel_rfl) (alive11_walk _) ?_
  rintro e w1 ⟨rfl, hb1⟩
  refine ⟨_, rfl, ?_⟩
  have BE1 : Hid (Below q w w1) := by rw [Hid, ← hq.out]; exact hb1
  have Q1 : Hid (q ≤ w1.heap.size) := by rw [Hid, ← hq.out]; exact hb1.size
  clear hb1
  refine lnow 1 (.bool false) (some 16) ?_
  refine lin_done 2 (by kernel_rfl) ?_
  generalize hact : Act.put _ (some 16) _ = act
  simp only [Act.put, List.setIfInBounds_toArray, List.set_cons_succ, List.set_cons_zero] at hact
  subst hact
  by_cases h1 : (N : Int) > 3000
  · skip
    go_upto_region 3 with (fail)
    refine lin_begin (opsOf Try.f5 3) (by kernel_rfl) ?_
    refine lnow 0 (sT s) (some 17) ?_
    refine lnow 1 (.int .i64 (s.length : Int)) (some 18) ?_
    rw [hNl.out]
    refine lnow 2 (.bool (decide ((N : Int) > 3000))) (some 19) ?_
    rw [decide_eq_true (h1)]
    refine lin_done 3 (by kernel_rfl) ?_
    generalize hact : Act.put _ (some 19) _ = act
    simp only [Act.put, List.setIfInBounds_toArray, List.set_cons_succ, List.set_cons_zero] at hact
    subst hact
    go_wp2
    go_ret
    exact ⟨rfl, BE1.out⟩
  go_upto_region 3 with (fail)
  refine lin_begin (opsOf Try.f5 3) (by kernel_rfl) ?_
  refine lnow 0 (sT s) (some 17) ?_
  refine lnow 1 (.int .i64 (s.length : Int)) (some 18) ?_
  rw [hNl.out]
  refine lnow 2 (.bool (decide ((N : Int) > 3000))) (some 19) ?_
  rw [decide_eq_false (h1)]
  refine lin_done 3 (by kernel_rfl) ?_
  generalize hact : Act.put _ (some 19) _ = act
  simp only [Act.put, List.setIfInBounds_toArray, List.set_cons_succ, List.set_cons_zero] at hact
  subst hact
  have N3 : Hid (N ≤ 3000) := by rw [Hid]; omega
  clear h1
  have C1 := xscan_walk s w1
  unfold ScanPost at C1
  cases hsc : scanS s 0 with
  | error p =>
    rw [scanR_bad (by have := hNl.out; have := N3.out; omega) hsc] at C1
    dsimp only at C1
    go_upto_region 5 with (fail)
    refine lin_begin (opsOf Try.f5 5) (by kernel_rfl) ?_
    refine lnow 0 (sT s) (some 21) ?_
    refine lin_call 1 8 #[sT s] (some 22) _ (by kernel_rfl) (by kernel_rfl) (by kernel_rfl) (C1) ?_
    rintro e0 w2 ⟨v1, rfl, ho1, hb2⟩
    refine ⟨_, rfl, ?_⟩
    obtain ⟨va, vc, hv⟩ := ho1.slice
    subst hv
    have FIN : Hid (Below q w w2) := BE1.out.trans (hb2.mono Q1.out)
    clear ho1 hb2 C1 hsc
    refine lnow 2 (.tuple #[.slice va 0 vc, .int .i64 (p : Int), .int .i64 10]) (some 20) ?_
    refine lnow 3 (.slice va 0 vc) (some 23) ?_
    refine lnow 4 (.int .i64 (p : Int)) (some 24) ?_
    refine lnow 5 (.int .i64 10) (some 25) ?_
    refine lnow 6 (.slice va 0 vc) (some 3) ?_
    refine lnow 7 (.int .i64 (p : Int)) (some 4) ?_
    refine lnow 8 (.int .i64 10) (some 5) ?_
    refine lin_done 9 (by kernel_rfl) ?_
    generalize hact : Act.put _ (some 5) _ = act
    simp only [Act.put, List.setIfInBounds_toArray, List.set_cons_succ, List.set_cons_zero] at hact
    subst hact
    go_upto_region 6 with (fail)
    refine lin_begin (opsOf Try.f5 6) (by kernel_rfl) ?_
    refine lnow 0 (.int .i64 10) (some 26) ?_
    refine lnow 1 (.bool true) (some 27) ?_
    refine lin_done 2 (by kernel_rfl) ?_
    generalize hact : Act.put _ (some 27) _ = act
    simp only [Act.put, List.setIfInBounds_toArray, List.set_cons_succ, List.set_cons_zero] at hact
    subst hact
    go_upto_region 7 with (fail)
    refine lin_begin (opsOf Try.f5 7) (by kernel_rfl) ?_
    refine lnow 0 (.slice va 0 vc) (some 28) ?_
    refine lnow 1 (.int .i64 (0 : Int)) (some 29) ?_
    refine lnow 2 (.bool (decide ((0 : Int) = 0))) (some 30) ?_
    rw [decide_eq_true (rfl)]
    refine lnow 3 (.bool true) (some 2) ?_
    refine lin_done 4 (by kernel_rfl) ?_
    generalize hact : Act.put _ (some 2) _ = act
    simp only [Act.put, List.setIfInBounds_toArray, List.set_cons_succ, List.set_cons_zero] at hact
    subst hact
    go_wp2
    go_ret
    exact ⟨rfl, FIN.out⟩
  | ok ts =>
    rw [scanR_ok (by have := hNl.out; have := N3.out; omega) hsc] at C1
    dsimp only at C1
    obtain ⟨us, hJ, hmap⟩ := join_scan hsc (by have := hNl.out; have := N3.out; omega)
    have HJ := Lib.hid hJ
    have HM := Lib.hid hmap
    have SL := Lib.hid (scan_len3 hsc)
    have SC0 : Hid (scanS (s.drop 0) 0 = .ok (ts.drop 0)) := by rw [Hid, List.drop_zero, List.drop_zero]; exact hsc
    have UL : Hid (us.length = ts.length) := by have h := congrArg List.length hmap; rw [Hid]; simpa using h
    clear hJ hmap hsc
    obtain ⟨M, hM⟩ : ∃ M, Hid (ts.length = M) := ⟨_, rfl⟩
    have MB : Hid (M ≤ 3000) := by have := SL.out.1; have := hM.out; have := hNl.out; have := N3.out; rw [Hid]; omega
    rw [hM.out] at UL
    go_upto_region 5 with (fail)
    refine lin_begin (opsOf Try.f5 5) (by kernel_rfl) ?_
    refine lnow 0 (sT s) (some 21) ?_
    refine lin_call 1 8 #[sT s] (some 22) _ (by kernel_rfl) (by kernel_rfl) (by kernel_rfl) (C1) ?_
    rintro e0 w2 ⟨v1, rfl, ho1, hb2⟩
    refine ⟨_, rfl, ?_⟩
    have SX := Lib.hid ho1.read
    have BE2 : Hid (Below q w w2) := BE1.out.trans (hb2.mono Q1.out)
    have Q2 : Hid (q ≤ w2.heap.size) := Nat.le_trans Q1.out hb2.size
    obtain ⟨va, vc, hv, -⟩ := id SX.out
    subst hv
    rw [hM.out] at SX ⊢
    clear ho1 hb2 C1 BE1 Q1
    refine lnow 2 (.tuple #[.slice va M vc, .int .i64 0, .int .i64 0]) (some 20) ?_
    refine lnow 3 (.slice va M vc) (some 23) ?_
    refine lnow 4 (.int .i64 0) (some 24) ?_
    refine lnow 5 (.int .i64 0) (some 25) ?_
    refine lnow 6 (.slice va M vc) (some 3) ?_
    refine lnow 7 (.int .i64 0) (some 4) ?_
    refine lnow 8 (.int .i64 0) (some 5) ?_
    refine lin_done 9 (by kernel_rfl) ?_
    generalize hact : Act.put _ (some 5) _ = act
    simp only [Act.put, List.setIfInBounds_toArray, List.set_cons_succ, List.set_cons_zero] at hact
    subst hact
    go_upto_region 6 with (fail)
    refine lin_begin (opsOf Try.f5 6) (by kernel_rfl) ?_
    refine lnow 0 (.int .i64 0) (some 26) ?_
    refine lnow 1 (.bool false) (some 27) ?_
    refine lin_done 2 (by kernel_rfl) ?_
    generalize hact : Act.put _ (some 27) _ = act
    simp only [Act.put, List.setIfInBounds_toArray, List.set_cons_succ, List.set_cons_zero] at hact
    subst hact
    have C2 := xjoin_walk _ ts w2 SX.out (by have := SL.out.2; have := hNl.out; have := N3.out; omega)
    go_upto_region 8 with (fail)
    refine lin_begin (opsOf Try.f5 8) (by kernel_rfl) ?_
    refine lnow 0 (.slice va M vc) (some 32) ?_
    refine lin_call 1 14 #[.slice va M vc] (some 33) _ (by kernel_rfl) (by kernel_rfl) (by kernel_rfl) (C2) ?_
    rintro e0 w3 ⟨rfl, hb3⟩
    refine ⟨_, rfl, ?_⟩
    have SX3 := Lib.hid (SX.out.below hb3)
    have BE3 : Hid (Below q w w3) := BE2.out.trans (hb3.mono Q2.out)
    have Q3 : Hid (q ≤ w3.heap.size) := Nat.le_trans Q2.out hb3.size
    clear hb3 C2 BE2 Q2 SX
    have C3 := xscan_walk (joinB (textsOf ts)) w3
    unfold ScanPost at C3
    rw [HJ.out] at C3
    dsimp only at C3
    obtain ⟨JT, hJT⟩ : ∃ JT, Hid (joinB (textsOf ts) = JT) := ⟨_, rfl⟩
    rw [hJT.out] at C3 ⊢
    refine lin_call 2 8 #[sT JT] (some 34) _ (by kernel_rfl) (by kernel_rfl) (by kernel_rfl) (C3) ?_
    rintro e0 w4 ⟨v2, rfl, ho2, hb4⟩
    refine ⟨_, rfl, ?_⟩
    have SY := Lib.hid ho2.read
    have SX4 := Lib.hid (SX3.out.below hb4)
    have BE4 : Hid (Below q w w4) := BE3.out.trans (hb4.mono Q3.out)
    have Q4 : Hid (q ≤ w4.heap.size) := Nat.le_trans Q3.out hb4.size
    obtain ⟨ua, uc, hv, -⟩ := id SY.out
    subst hv
    rw [UL.out] at SY ⊢
    clear ho2 hb4 C3 BE3 Q3 SX3 hJT HJ
    refine lnow 3 (.tuple #[.slice ua M uc, .int .i64 0, .int .i64 0]) (some 31) ?_
    refine lnow 4 (.slice ua M uc) (some 35) ?_
    refine lnow 5 (.int .i64 0) (some 36) ?_
    refine lnow 6 (.int .i64 0) (some 37) ?_
    refine lnow 7 (.slice ua M uc) (some 6) ?_
    refine lnow 8 (.int .i64 0) (some 7) ?_
    refine lnow 9 (.int .i64 0) (some 8) ?_
    refine lin_done 10 (by kernel_rfl) ?_
    generalize hact : Act.put _ (some 8) _ = act
    simp only [Act.put, List.setIfInBounds_toArray, List.set_cons_succ, List.set_cons_zero] at hact
    subst hact
    go_upto_region 9 with (fail)
    refine lin_begin (opsOf Try.f5 9) (by kernel_rfl) ?_
    refine lnow 0 (.int .i64 0) (some 38) ?_
    refine lnow 1 (.bool false) (some 39) ?_
    refine lnow 2 (.bool false) (some 40) ?_
    refine lnow 3 (.slice ua M uc) (some 41) ?_
    refine lnow 4 (.int .i64 (M : Int)) (some 42) ?_
    refine lnow 5 (.slice va M vc) (some 43) ?_
    refine lnow 6 (.int .i64 (M : Int)) (some 44) ?_
    refine lnow 7 (.bool (!decide ((M : Int) = (M : Int)))) (some 45) ?_
    rw [decide_eq_true (rfl)]
    rw [show (!true) = false from rfl]
    refine lnow 8 (.bool false) (some 46) ?_
    refine lin_done 9 (by kernel_rfl) ?_
    generalize hact : Act.put _ (some 46) _ = act
    simp only [Act.put, List.setIfInBounds_toArray, List.set_cons_succ, List.set_cons_zero] at hact
    subst hact
    go_upto_region 11 with (fail)
    refine lin_begin (opsOf Try.f5 11) (by kernel_rfl) ?_
    refine lnow 0 (.int .i64 0) (some 9) ?_
    refine lin_done 1 (by kernel_rfl) ?_
    generalize hact : Act.put _ (some 9) _ = act
    simp only [Act.put, List.setIfInBounds_toArray, List.set_cons_succ, List.set_cons_zero] at hact
    subst hact
    go_upto_region 12 with (fail)
    refine lin_begin (opsOf Try.f5 12) (by kernel_rfl) ?_
    refine lnow 0 (.int .i64 0) (some 10) ?_
    refine lin_done 1 (by kernel_rfl) ?_
    generalize hact : Act.put _ (some 10) _ = act
    simp only [Act.put, List.setIfInBounds_toArray, List.set_cons_succ, List.set_cons_zero] at hact
    subst hact
    go_wp2
    go_loopw [9, 10] (fun ev kv wr => ∃ k E : Nat, k ≤ M ∧ kv = .int .i64 (k : Int) ∧ ev = .int .i64 (E : Int) ∧ E ≤ N ∧ Hid (scanS (s.drop E) E = .ok (ts.drop k)) ∧ Hid (Below w4.heap.size w4 wr)) (fun _ kv _ => M - (intOf kv).toNat)
    case atStart => exact ⟨0, 0, Nat.zero_le _, rfl, rfl, Nat.zero_le _, SC0, Below.refl _ _⟩
    case round =>
      obtain ⟨k, E, hk, rfl, rfl, hE, SC, BR⟩ := hrel
      have mb := MB.out
      have n3 := N3.out
      by_cases hlt : (k : Int) < (M : Int)
      rotate_left
      · skip
        go_upto_region 13 with (fail)
        refine lin_begin (opsOf Try.f5 13) (by kernel_rfl) ?_
        refine lnow 0 (.int .i64 (k : Int)) (some 47) ?_
        refine lnow 1 (.slice va M vc) (some 48) ?_
        refine lnow 2 (.int .i64 (M : Int)) (some 49) ?_
        refine lnow 3 (.bool (decide ((k : Int) < (M : Int)))) (some 50) ?_
        rw [decide_eq_false (hlt)]
        refine lin_done 4 (by kernel_rfl) ?_
        generalize hact : Act.put _ (some 50) _ = act
        simp only [Act.put, List.setIfInBounds_toArray, List.set_cons_succ, List.set_cons_zero] at hact
        subst hact
        have FIN : Hid (Below q w wr) := BE4.out.trans (BR.out.mono Q4.out)
        go_wp2
        go_ret
        exact ⟨rfl, FIN.out⟩
      go_upto_region 13 with (fail)
      refine lin_begin (opsOf Try.f5 13) (by kernel_rfl) ?_
      refine lnow 0 (.int .i64 (k : Int)) (some 47) ?_
      refine lnow 1 (.slice va M vc) (some 48) ?_
      refine lnow 2 (.int .i64 (M : Int)) (some 49) ?_
      refine lnow 3 (.bool (decide ((k : Int) < (M : Int)))) (some 50) ?_
      rw [decide_eq_true (hlt)]
      refine lin_done 4 (by kernel_rfl) ?_
      generalize hact : Act.put _ (some 50) _ = act
      simp only [Act.put, List.setIfInBounds_toArray, List.set_cons_succ, List.set_cons_zero] at hact
      subst hact
      obtain ⟨x, hx⟩ : ∃ x, Hid (ts[k]? = some x) := ⟨_, List.getElem?_eq_getElem (by rw [hM.out]; omega)⟩
      obtain ⟨yp, hy⟩ := map_at HM.out hx.out
      have HY := Lib.hid hy
      clear hy
      obtain ⟨g, u, c1, hv1, -, -, hr1⟩ := (SX4.out.below BR.out).cell hx.out
      rw [hM.out] at hv1
      obtain ⟨rfl, -, rfl⟩ := Value.slice.inj hv1
      obtain ⟨g2, u2, c2, hv2, -, -, hr2⟩ := (SY.out.below BR.out).cell HY.out
      rw [UL.out] at hv2
      obtain ⟨rfl, -, rfl⟩ := Value.slice.inj hv2
      have HR1 := Lib.hid hr1
      have HR2 := Lib.hid hr2
      have DR : Hid (ts.drop k = x :: ts.drop (k + 1)) := by have h := hx.out; rw [Hid, List.drop_eq_getElem_cons (by rw [hM.out]; omega)]; rw [List.getElem?_eq_getElem (by rw [hM.out]; omega)] at h; rw [Option.some.inj h]
      obtain ⟨nx1, nx2, nx3, nx4, nx5⟩ := next_tok (x := x) (ts := ts.drop (k + 1)) (by rw [hNl.out]; exact hE) (by rw [SC.out, DR.out])
      rw [hNl.out] at nx2
      have G0 := Lib.hid nx3
      have XC := Lib.hid nx4
      have SC2 := Lib.hid nx5
      obtain ⟨T, hT⟩ : ∃ T, Hid (x.t.length = T) := ⟨_, rfl⟩
      rw [hT.out] at nx2 XC SC2
      clear hr1 hr2 hv1 hv2 nx3 nx4 nx5 SC DR
      have c1 : ¬ ((x.p : Int) < (E : Int)) := by omega
      have c2 : ¬ (((x.p + T : Nat) : Int) > (N : Int)) := by omega
      go_upto_region 15 with (fail)
      refine region_begin (opsOf Try.f5 15) (fun w' => ∀ p, w'.cell? p = World.cell? wr p) (by kernel_rfl) (by kernel_rfl) 77 (by kernel_rfl) ?_
      intro Q' hQN hN
      have HS : ∀ p, World.cell? (World.drew wr) p = World.cell? wr p := fun _ => rfl
      refine reg_now 0 (.slice (some ⟨g, u, none⟩) M vc) (some 53) hQN HS (by kernel_rfl) (by kernel_rfl) (fun w => by kernel_rfl) ?_
      refine reg_now 1 (.int .i64 (k : Int)) (some 54) hQN HS (by kernel_rfl) (by kernel_rfl) (fun w => by kernel_rfl) ?_
      refine reg_now 2 (.pointer (some ⟨g, u + k * 3, none⟩)) (some 55) hQN HS (by kernel_rfl) (by kernel_rfl) (fun w' => exec_indexAt 23 (.tmp 53) (.tmp 54) (by kernel_rfl) _ _ _ (by kernel_rfl) (by kernel_rfl) (run_at_tok g u M vc k (by omega) _)) ?_
      refine reg_now 3 (.pointer (some ⟨g, u + k * 3, none⟩)) (some 56) hQN HS (by kernel_rfl) (by kernel_rfl) (fun w => by kernel_rfl) ?_
      refine reg_nowIf 4 (.int .i64 (x.k : Int)) (some 57) hQN HS (by kernel_rfl) (by kernel_rfl) (fun w' hw => exec_load_cell 3 (.tmp 56) (by kernel_rfl) (g) (u + k * 3) (by kernel_rfl) _ ((hw _).trans (HR1.out 0 _ rfl)) _ Try.underlying3 rfl) ?_
      refine reg_now 5 (.slice (some ⟨g2, u2, none⟩) M uc) (some 58) hQN HS (by kernel_rfl) (by kernel_rfl) (fun w => by kernel_rfl) ?_
      refine reg_now 6 (.int .i64 (k : Int)) (some 59) hQN HS (by kernel_rfl) (by kernel_rfl) (fun w => by kernel_rfl) ?_
      refine reg_now 7 (.pointer (some ⟨g2, u2 + k * 3, none⟩)) (some 60) hQN HS (by kernel_rfl) (by kernel_rfl) (fun w' => exec_indexAt 23 (.tmp 58) (.tmp 59) (by kernel_rfl) _ _ _ (by kernel_rfl) (by kernel_rfl) (run_at_tok g2 u2 M uc k (by omega) _)) ?_
      refine reg_now 8 (.pointer (some ⟨g2, u2 + k * 3, none⟩)) (some 61) hQN HS (by kernel_rfl) (by kernel_rfl) (fun w => by kernel_rfl) ?_
      refine reg_nowIf 9 (.int .i64 (x.k : Int)) (some 62) hQN HS (by kernel_rfl) (by kernel_rfl) (fun w' hw => exec_load_cell 3 (.tmp 61) (by kernel_rfl) (g2) (u2 + k * 3) (by kernel_rfl) _ ((hw _).trans (HR2.out 0 _ rfl)) _ Try.underlying3 rfl) ?_
      refine reg_now 10 (.bool (!decide ((x.k : Int) = (x.k : Int)))) (some 63) hQN HS (by kernel_rfl) (by kernel_rfl) (fun w => by kernel_rfl) ?_
      rw [decide_eq_true (rfl)]
      rw [show (!true) = false from rfl]
      refine reg_now 11 (.bool false) (some 64) hQN HS (by kernel_rfl) (by kernel_rfl) (fun w => by kernel_rfl) ?_
      refine reg_now 12 (.slice (some ⟨g, u, none⟩) M vc) (some 65) hQN HS (by kernel_rfl) (by kernel_rfl) (fun w => by kernel_rfl) ?_
      refine reg_now 13 (.int .i64 (k : Int)) (some 66) hQN HS (by kernel_rfl) (by kernel_rfl) (fun w => by kernel_rfl) ?_
      refine reg_now 14 (.pointer (some ⟨g, u + k * 3, none⟩)) (some 67) hQN HS (by kernel_rfl) (by kernel_rfl) (fun w' => exec_indexAt 23 (.tmp 65) (.tmp 66) (by kernel_rfl) _ _ _ (by kernel_rfl) (by kernel_rfl) (run_at_tok g u M vc k (by omega) _)) ?_
      refine reg_now 15 (.pointer (some ⟨g, u + k * 3 + 1, none⟩)) (some 68) hQN HS (by kernel_rfl) (by kernel_rfl) (fun w => by kernel_rfl) ?_
      refine reg_nowIf 16 (sT (x.t)) (some 69) hQN HS (by kernel_rfl) (by kernel_rfl) (fun w' hw => exec_load_cell 9 (.tmp 68) (by kernel_rfl) (g) (u + k * 3 + 1) (by kernel_rfl) _ ((hw _).trans (HR1.out 1 _ rfl)) _ Try.underlying9 rfl) ?_
      refine reg_now 17 (.slice (some ⟨g2, u2, none⟩) M uc) (some 70) hQN HS (by kernel_rfl) (by kernel_rfl) (fun w => by kernel_rfl) ?_
      refine reg_now 18 (.int .i64 (k : Int)) (some 71) hQN HS (by kernel_rfl) (by kernel_rfl) (fun w => by kernel_rfl) ?_
      refine reg_now 19 (.pointer (some ⟨g2, u2 + k * 3, none⟩)) (some 72) hQN HS (by kernel_rfl) (by kernel_rfl) (fun w' => exec_indexAt 23 (.tmp 70) (.tmp 71) (by kernel_rfl) _ _ _ (by kernel_rfl) (by kernel_rfl) (run_at_tok g2 u2 M uc k (by omega) _)) ?_
      refine reg_now 20 (.pointer (some ⟨g2, u2 + k * 3 + 1, none⟩)) (some 73) hQN HS (by kernel_rfl) (by kernel_rfl) (fun w => by kernel_rfl) ?_
      refine reg_nowIf 21 (sT (x.t)) (some 74) hQN HS (by kernel_rfl) (by kernel_rfl) (fun w' hw => exec_load_cell 9 (.tmp 73) (by kernel_rfl) (g2) (u2 + k * 3 + 1) (by kernel_rfl) _ ((hw _).trans (HR2.out 1 _ rfl)) _ Try.underlying9 rfl) ?_
      refine reg_now 22 (.bool (!decide (x.t = x.t))) (some 75) hQN HS (by kernel_rfl) (by kernel_rfl) (fun w' => exec_sNe 9 9 (.tmp 69) (.tmp 74) (by kernel_rfl) (x.t) (x.t) (by kernel_rfl) (by kernel_rfl) (fun _ => rfl)) ?_
      rw [decide_eq_true rfl]
      rw [show (!true) = false from rfl]
      refine reg_now 23 (.bool false) (some 76) hQN HS (by kernel_rfl) (by kernel_rfl) (fun w => by kernel_rfl) ?_
      refine reg_now 24 (.bool false) (some 77) hQN HS (by kernel_rfl) (by kernel_rfl) (fun w => by kernel_rfl) ?_
      refine reg_now 25 (.slice (some ⟨g, u, none⟩) M vc) (some 78) hQN HS (by kernel_rfl) (by kernel_rfl) (fun w => by kernel_rfl) ?_
      refine reg_now 26 (.int .i64 (k : Int)) (some 79) hQN HS (by kernel_rfl) (by kernel_rfl) (fun w => by kernel_rfl) ?_
      refine reg_now 27 (.pointer (some ⟨g, u + k * 3, none⟩)) (some 80) hQN HS (by kernel_rfl) (by kernel_rfl) (fun w' => exec_indexAt 23 (.tmp 78) (.tmp 79) (by kernel_rfl) _ _ _ (by kernel_rfl) (by kernel_rfl) (run_at_tok g u M vc k (by omega) _)) ?_
      refine reg_now 28 (.pointer (some ⟨g, u + k * 3 + 2, none⟩)) (some 81) hQN HS (by kernel_rfl) (by kernel_rfl) (fun w => by kernel_rfl) ?_
      refine reg_nowIf 29 (.int .i64 (x.p : Int)) (some 82) hQN HS (by kernel_rfl) (by kernel_rfl) (fun w' hw => exec_load_cell 3 (.tmp 81) (by kernel_rfl) (g) (u + k * 3 + 2) (by kernel_rfl) _ ((hw _).trans (HR1.out 2 _ rfl)) _ Try.underlying3 rfl) ?_
      refine reg_now 30 (.int .i64 (E : Int)) (some 83) hQN HS (by kernel_rfl) (by kernel_rfl) (fun w => by kernel_rfl) ?_
      refine reg_now 31 (.bool (decide ((x.p : Int) < (E : Int)))) (some 84) hQN HS (by kernel_rfl) (by kernel_rfl) (fun w => by kernel_rfl) ?_
      rw [decide_eq_false (c1)]
      refine reg_now 32 (.bool false) (some 85) hQN HS (by kernel_rfl) (by kernel_rfl) (fun w => by kernel_rfl) ?_
      refine reg_now 33 (.bool false) (some 86) hQN HS (by kernel_rfl) (by kernel_rfl) (fun w => by kernel_rfl) ?_
      refine reg_now 34 (.slice (some ⟨g, u, none⟩) M vc) (some 87) hQN HS (by kernel_rfl) (by kernel_rfl) (fun w => by kernel_rfl) ?_
      refine reg_now 35 (.int .i64 (k : Int)) (some 88) hQN HS (by kernel_rfl) (by kernel_rfl) (fun w => by kernel_rfl) ?_
      refine reg_now 36 (.pointer (some ⟨g, u + k * 3, none⟩)) (some 89) hQN HS (by kernel_rfl) (by kernel_rfl) (fun w' => exec_indexAt 23 (.tmp 87) (.tmp 88) (by kernel_rfl) _ _ _ (by kernel_rfl) (by kernel_rfl) (run_at_tok g u M vc k (by omega) _)) ?_
      refine reg_now 37 (.pointer (some ⟨g, u + k * 3 + 2, none⟩)) (some 90) hQN HS (by kernel_rfl) (by kernel_rfl) (fun w => by kernel_rfl) ?_
      refine reg_nowIf 38 (.int .i64 (x.p : Int)) (some 91) hQN HS (by kernel_rfl) (by kernel_rfl) (fun w' hw => exec_load_cell 3 (.tmp 90) (by kernel_rfl) (g) (u + k * 3 + 2) (by kernel_rfl) _ ((hw _).trans (HR1.out 2 _ rfl)) _ Try.underlying3 rfl) ?_
      refine reg_now 39 (.slice (some ⟨g, u, none⟩) M vc) (some 92) hQN HS (by kernel_rfl) (by kernel_rfl) (fun w => by kernel_rfl) ?_
      refine reg_now 40 (.int .i64 (k : Int)) (some 93) hQN HS (by kernel_rfl) (by kernel_rfl) (fun w => by kernel_rfl) ?_
      refine reg_now 41 (.pointer (some ⟨g, u + k * 3, none⟩)) (some 94) hQN HS (by kernel_rfl) (by kernel_rfl) (fun w' => exec_indexAt 23 (.tmp 92) (.tmp 93) (by kernel_rfl) _ _ _ (by kernel_rfl) (by kernel_rfl) (run_at_tok g u M vc k (by omega) _)) ?_
      refine reg_now 42 (.pointer (some ⟨g, u + k * 3 + 1, none⟩)) (some 95) hQN HS (by kernel_rfl) (by kernel_rfl) (fun w => by kernel_rfl) ?_
      refine reg_nowIf 43 (sT (x.t)) (some 96) hQN HS (by kernel_rfl) (by kernel_rfl) (fun w' hw => exec_load_cell 9 (.tmp 95) (by kernel_rfl) (g) (u + k * 3 + 1) (by kernel_rfl) _ ((hw _).trans (HR1.out 1 _ rfl)) _ Try.underlying9 rfl) ?_
      refine reg_now 44 (.int .i64 ((x.t).length : Int)) (some 97) hQN HS (by kernel_rfl) (by kernel_rfl) (fun w => by kernel_rfl) ?_
      rw [hT.out]
      refine reg_now 45 (.int .i64 (IntKind.i64.wrap ((x.p : Int) + (T : Int)))) (some 98) hQN HS (by kernel_rfl) (by kernel_rfl) (fun w => by kernel_rfl) ?_
      rw [show IntKind.i64.wrap ((x.p : Int) + (T : Int)) = ((x.p + T : Nat) : Int) from (IntWalk.i64_in _ (by omega)).trans (by omega)]
      refine reg_now 46 (sT s) (some 99) hQN HS (by kernel_rfl) (by kernel_rfl) (fun w => by kernel_rfl) ?_
      refine reg_now 47 (.int .i64 (s.length : Int)) (some 100) hQN HS (by kernel_rfl) (by kernel_rfl) (fun w => by kernel_rfl) ?_
      rw [hNl.out]
      refine reg_now 48 (.bool (decide (((x.p + T : Nat) : Int) > (N : Int)))) (some 101) hQN HS (by kernel_rfl) (by kernel_rfl) (fun w => by kernel_rfl) ?_
      rw [decide_eq_false (c2)]
      refine reg_now 49 (.bool false) (some 102) hQN HS (by kernel_rfl) (by kernel_rfl) (fun w => by kernel_rfl) ?_
      refine reg_now 50 (.bool false) (some 103) hQN HS (by kernel_rfl) (by kernel_rfl) (fun w => by kernel_rfl) ?_
      refine reg_now 51 (sT s) (some 104) hQN HS (by kernel_rfl) (by kernel_rfl) (fun w => by kernel_rfl) ?_
      refine reg_now 52 (.slice (some ⟨g, u, none⟩) M vc) (some 105) hQN HS (by kernel_rfl) (by kernel_rfl) (fun w => by kernel_rfl) ?_
      refine reg_now 53 (.int .i64 (k : Int)) (some 106) hQN HS (by kernel_rfl) (by kernel_rfl) (fun w => by kernel_rfl) ?_
      refine reg_now 54 (.pointer (some ⟨g, u + k * 3, none⟩)) (some 107) hQN HS (by kernel_rfl) (by kernel_rfl) (fun w' => exec_indexAt 23 (.tmp 105) (.tmp 106) (by kernel_rfl) _ _ _ (by kernel_rfl) (by kernel_rfl) (run_at_tok g u M vc k (by omega) _)) ?_
      refine reg_now 55 (.pointer (some ⟨g, u + k * 3 + 2, none⟩)) (some 108) hQN HS (by kernel_rfl) (by kernel_rfl) (fun w => by kernel_rfl) ?_
      refine reg_nowIf 56 (.int .i64 (x.p : Int)) (some 109) hQN HS (by kernel_rfl) (by kernel_rfl) (fun w' hw => exec_load_cell 3 (.tmp 108) (by kernel_rfl) (g) (u + k * 3 + 2) (by kernel_rfl) _ ((hw _).trans (HR1.out 2 _ rfl)) _ Try.underlying3 rfl) ?_
      refine reg_now 57 (.slice (some ⟨g, u, none⟩) M vc) (some 110) hQN HS (by kernel_rfl) (by kernel_rfl) (fun w => by kernel_rfl) ?_
      refine reg_now 58 (.int .i64 (k : Int)) (some 111) hQN HS (by kernel_rfl) (by kernel_rfl) (fun w => by kernel_rfl) ?_
      refine reg_now 59 (.pointer (some ⟨g, u + k * 3, none⟩)) (some 112) hQN HS (by kernel_rfl) (by kernel_rfl) (fun w' => exec_indexAt 23 (.tmp 110) (.tmp 111) (by kernel_rfl) _ _ _ (by kernel_rfl) (by kernel_rfl) (run_at_tok g u M vc k (by omega) _)) ?_
      refine reg_now 60 (.pointer (some ⟨g, u + k * 3 + 2, none⟩)) (some 113) hQN HS (by kernel_rfl) (by kernel_rfl) (fun w => by kernel_rfl) ?_
      refine reg_nowIf 61 (.int .i64 (x.p : Int)) (some 114) hQN HS (by kernel_rfl) (by kernel_rfl) (fun w' hw => exec_load_cell 3 (.tmp 113) (by kernel_rfl) (g) (u + k * 3 + 2) (by kernel_rfl) _ ((hw _).trans (HR1.out 2 _ rfl)) _ Try.underlying3 rfl) ?_
      refine reg_now 62 (.slice (some ⟨g, u, none⟩) M vc) (some 115) hQN HS (by kernel_rfl) (by kernel_rfl) (fun w => by kernel_rfl) ?_
      refine reg_now 63 (.int .i64 (k : Int)) (some 116) hQN HS (by kernel_rfl) (by kernel_rfl) (fun w => by kernel_rfl) ?_
      refine reg_now 64 (.pointer (some ⟨g, u + k * 3, none⟩)) (some 117) hQN HS (by kernel_rfl) (by kernel_rfl) (fun w' => exec_indexAt 23 (.tmp 115) (.tmp 116) (by kernel_rfl) _ _ _ (by kernel_rfl) (by kernel_rfl) (run_at_tok g u M vc k (by omega) _)) ?_
      refine reg_now 65 (.pointer (some ⟨g, u + k * 3 + 1, none⟩)) (some 118) hQN HS (by kernel_rfl) (by kernel_rfl) (fun w => by kernel_rfl) ?_
      refine reg_nowIf 66 (sT (x.t)) (some 119) hQN HS (by kernel_rfl) (by kernel_rfl) (fun w' hw => exec_load_cell 9 (.tmp 118) (by kernel_rfl) (g) (u + k * 3 + 1) (by kernel_rfl) _ ((hw _).trans (HR1.out 1 _ rfl)) _ Try.underlying9 rfl) ?_
      refine reg_now 67 (.int .i64 ((x.t).length : Int)) (some 120) hQN HS (by kernel_rfl) (by kernel_rfl) (fun w => by kernel_rfl) ?_
      rw [hT.out]
      refine reg_now 68 (.int .i64 (IntKind.i64.wrap ((x.p : Int) + (T : Int)))) (some 121) hQN HS (by kernel_rfl) (by kernel_rfl) (fun w => by kernel_rfl) ?_
      rw [show IntKind.i64.wrap ((x.p : Int) + (T : Int)) = ((x.p + T : Nat) : Int) from (IntWalk.i64_in _ (by omega)).trans (by omega)]
      refine reg_now 69 (sT x.t) (some 122) hQN HS (by kernel_rfl) (by kernel_rfl) (fun w' => by have h := run_sCut s x.p (x.p + T) (by omega) (by rw [hNl.out]; omega) w'; rw [Nat.add_sub_cancel_left, XC.out] at h; exact exec_of (Instr.sliceAt 9 (sT s) (some (.int .i64 (x.p : Int))) (some (.int .i64 ((x.p + T : Nat) : Int))) none) _ (by kernel_rfl) h) ?_
      refine reg_now 70 (.slice (some ⟨g, u, none⟩) M vc) (some 123) hQN HS (by kernel_rfl) (by kernel_rfl) (fun w => by kernel_rfl) ?_
      refine reg_now 71 (.int .i64 (k : Int)) (some 124) hQN HS (by kernel_rfl) (by kernel_rfl) (fun w => by kernel_rfl) ?_
      refine reg_now 72 (.pointer (some ⟨g, u + k * 3, none⟩)) (some 125) hQN HS (by kernel_rfl) (by kernel_rfl) (fun w' => exec_indexAt 23 (.tmp 123) (.tmp 124) (by kernel_rfl) _ _ _ (by kernel_rfl) (by kernel_rfl) (run_at_tok g u M vc k (by omega) _)) ?_
      refine reg_now 73 (.pointer (some ⟨g, u + k * 3 + 1, none⟩)) (some 126) hQN HS (by kernel_rfl) (by kernel_rfl) (fun w => by kernel_rfl) ?_
      refine reg_nowIf 74 (sT (x.t)) (some 127) hQN HS (by kernel_rfl) (by kernel_rfl) (fun w' hw => exec_load_cell 9 (.tmp 126) (by kernel_rfl) (g) (u + k * 3 + 1) (by kernel_rfl) _ ((hw _).trans (HR1.out 1 _ rfl)) _ Try.underlying9 rfl) ?_
      refine reg_now 75 (.bool (!decide (x.t = x.t))) (some 128) hQN HS (by kernel_rfl) (by kernel_rfl) (fun w' => exec_sNe 9 9 (.tmp 122) (.tmp 127) (by kernel_rfl) (x.t) (x.t) (by kernel_rfl) (by kernel_rfl) (fun _ => rfl)) ?_
      rw [decide_eq_true rfl]
      rw [show (!true) = false from rfl]
      refine reg_now 76 (.bool false) (some 129) hQN HS (by kernel_rfl) (by kernel_rfl) (fun w => by kernel_rfl) ?_
      refine reg_done (by kernel_rfl) (hN _ _ ?_)
      generalize hact : Act.put _ (some 129) _ = act
      simp only [Act.put, List.setIfInBounds_toArray, List.set_cons_succ, List.set_cons_zero] at hact
      subst hact
      have BRd : Hid (Below w4.heap.size w4 (World.drew wr)) := BR.out.drew
      have HRd : Hid (World.rangeAt (World.drew wr) g (u + k * 3) (tkC x)) := HR1.out
      clear HR2 HS hQN hN
      generalize World.drew wr = wd at BRd HRd ⊢
      clear BR HR1
      go_upto_region 17 with (fail)
      refine lin_begin (opsOf Try.f5 17) (by kernel_rfl) ?_
      refine lnow 0 (sT s) (some 130) ?_
      refine lnow 1 (.int .i64 (E : Int)) (some 131) ?_
      refine lnow 2 (.slice (some ⟨g, u, none⟩) M vc) (some 132) ?_
      refine lnow 3 (.int .i64 (k : Int)) (some 133) ?_
      refine lnowP 4 (.pointer (some ⟨g, u + k * 3, none⟩)) (some 134) (exec_indexAt 23 (.tmp 132) (.tmp 133) (by kernel_rfl) _ _ _ (by kernel_rfl) (by kernel_rfl) (run_at_tok g u M vc k (by omega) _)) ?_
      refine lnow 5 (.pointer (some ⟨g, u + k * 3 + 2, none⟩)) (some 135) ?_
      refine lnowP 6 (.int .i64 (x.p : Int)) (some 136) (exec_load_cell 3 (.tmp 135) (by kernel_rfl) (g) (u + k * 3 + 2) (by kernel_rfl) _ (HRd.out 2 _ rfl) _ Try.underlying3 rfl) ?_
      refine lnowP 7 (sT ((s.drop E).take (x.p - E))) (some 137) (exec_of (Instr.sliceAt 9 (sT s) (some (.int .i64 (E : Int))) (some (.int .i64 (x.p : Int))) none) _ (by kernel_rfl) (run_sCut s E x.p nx1 (by rw [hNl.out]; omega) _)) ?_
      refine lnow 8 (sT ((s.drop E).take (x.p - E))) (some 11) ?_
      refine lin_done 9 (by kernel_rfl) ?_
      generalize hact : Act.put _ (some 11) _ = act
      simp only [Act.put, List.setIfInBounds_toArray, List.set_cons_succ, List.set_cons_zero] at hact
      subst hact
      obtain ⟨G, hG⟩ : ∃ G, Hid ((s.drop E).take (x.p - E) = G) := ⟨_, rfl⟩
      rw [hG.out] at G0 ⊢
      have GL : Hid (G.length ≤ 3000) := by rw [Hid, ← hG.out, List.length_take, List.length_drop, hNl.out]; omega
      have C5 := xscan_walk G wd
      unfold ScanPost at C5
      rw [scanR_gap G0.out GL.out] at C5
      dsimp only at C5
      go_upto_region 18 with (fail)
      refine lin_begin (opsOf Try.f5 18) (by kernel_rfl) ?_
      refine lnow 0 (sT G) (some 139) ?_
      refine lin_call 1 8 #[sT G] (some 140) _ (by kernel_rfl) (by kernel_rfl) (by kernel_rfl) (C5) ?_
      rintro e0 w6 ⟨v6, rfl, ho6, hb6⟩
      refine ⟨_, rfl, ?_⟩
      obtain ⟨za, zc, hv⟩ := ho6.slice
      subst hv
      have BR6 : Hid (Below w4.heap.size w4 w6) := BRd.out.trans (hb6.mono BRd.out.size)
      have HR6 : Hid (w6.rangeAt g (u + k * 3) (tkC x)) := (fun j y hy => by rw [hb6.cell (p := ⟨g, u + k * 3 + j, none⟩) (cell_lt (HRd.out j y hy))]; exact HRd.out j y hy)
      clear ho6 hb6 C5 BRd HRd G0 GL hG
      refine lnow 2 (.tuple #[.slice za 0 zc, .int .i64 0, .int .i64 0]) (some 138) ?_
      refine lnow 3 (.slice za 0 zc) (some 141) ?_
      refine lnow 4 (.int .i64 0) (some 142) ?_
      refine lnow 5 (.int .i64 0) (some 143) ?_
      refine lnow 6 (.slice za 0 zc) (some 12) ?_
      refine lnow 7 (.int .i64 0) (some 13) ?_
      refine lnow 8 (.int .i64 0) (some 14) ?_
      refine lin_done 9 (by kernel_rfl) ?_
      generalize hact : Act.put _ (some 14) _ = act
      simp only [Act.put, List.setIfInBounds_toArray, List.set_cons_succ, List.set_cons_zero] at hact
      subst hact
      go_upto_region 19 with (fail)
      refine lin_begin (opsOf Try.f5 19) (by kernel_rfl) ?_
      refine lnow 0 (.int .i64 0) (some 144) ?_
      refine lnow 1 (.bool false) (some 145) ?_
      refine lnow 2 (.bool false) (some 146) ?_
      refine lnow 3 (.slice za 0 zc) (some 147) ?_
      refine lnow 4 (.int .i64 (0 : Int)) (some 148) ?_
      refine lnow 5 (.bool (!decide ((0 : Int) = 0))) (some 149) ?_
      rw [decide_eq_true (rfl)]
      rw [show (!true) = false from rfl]
      refine lnow 6 (.bool false) (some 150) ?_
      refine lin_done 7 (by kernel_rfl) ?_
      generalize hact : Act.put _ (some 150) _ = act
      simp only [Act.put, List.setIfInBounds_toArray, List.set_cons_succ, List.set_cons_zero] at hact
      subst hact
      go_upto_region 21 with (fail)
      refine region_begin (opsOf Try.f5 21) (fun w' => ∀ p, w'.cell? p = World.cell? w6 p) (by kernel_rfl) (by kernel_rfl) 13 (by kernel_rfl) ?_
      intro Q' hQN hN
      have HS : ∀ p, World.cell? (World.drew w6) p = World.cell? w6 p := fun _ => rfl
      refine reg_now 0 (.slice (some ⟨g, u, none⟩) M vc) (some 151) hQN HS (by kernel_rfl) (by kernel_rfl) (fun w => by kernel_rfl) ?_
      refine reg_now 1 (.int .i64 (k : Int)) (some 152) hQN HS (by kernel_rfl) (by kernel_rfl) (fun w => by kernel_rfl) ?_
      refine reg_now 2 (.pointer (some ⟨g, u + k * 3, none⟩)) (some 153) hQN HS (by kernel_rfl) (by kernel_rfl) (fun w' => exec_indexAt 23 (.tmp 151) (.tmp 152) (by kernel_rfl) _ _ _ (by kernel_rfl) (by kernel_rfl) (run_at_tok g u M vc k (by omega) _)) ?_
      refine reg_now 3 (.pointer (some ⟨g, u + k * 3 + 2, none⟩)) (some 154) hQN HS (by kernel_rfl) (by kernel_rfl) (fun w => by kernel_rfl) ?_
      refine reg_nowIf 4 (.int .i64 (x.p : Int)) (some 155) hQN HS (by kernel_rfl) (by kernel_rfl) (fun w' hw => exec_load_cell 3 (.tmp 154) (by kernel_rfl) (g) (u + k * 3 + 2) (by kernel_rfl) _ ((hw _).trans (HR6.out 2 _ rfl)) _ Try.underlying3 rfl) ?_
      refine reg_now 5 (.slice (some ⟨g, u, none⟩) M vc) (some 156) hQN HS (by kernel_rfl) (by kernel_rfl) (fun w => by kernel_rfl) ?_
      refine reg_now 6 (.int .i64 (k : Int)) (some 157) hQN HS (by kernel_rfl) (by kernel_rfl) (fun w => by kernel_rfl) ?_
      refine reg_now 7 (.pointer (some ⟨g, u + k * 3, none⟩)) (some 158) hQN HS (by kernel_rfl) (by kernel_rfl) (fun w' => exec_indexAt 23 (.tmp 156) (.tmp 157) (by kernel_rfl) _ _ _ (by kernel_rfl) (by kernel_rfl) (run_at_tok g u M vc k (by omega) _)) ?_
      refine reg_now 8 (.pointer (some ⟨g, u + k * 3 + 1, none⟩)) (some 159) hQN HS (by kernel_rfl) (by kernel_rfl) (fun w => by kernel_rfl) ?_
      refine reg_nowIf 9 (sT (x.t)) (some 160) hQN HS (by kernel_rfl) (by kernel_rfl) (fun w' hw => exec_load_cell 9 (.tmp 159) (by kernel_rfl) (g) (u + k * 3 + 1) (by kernel_rfl) _ ((hw _).trans (HR6.out 1 _ rfl)) _ Try.underlying9 rfl) ?_
      refine reg_now 10 (.int .i64 ((x.t).length : Int)) (some 161) hQN HS (by kernel_rfl) (by kernel_rfl) (fun w => by kernel_rfl) ?_
      rw [hT.out]
      refine reg_now 11 (.int .i64 (IntKind.i64.wrap ((x.p : Int) + (T : Int)))) (some 162) hQN HS (by kernel_rfl) (by kernel_rfl) (fun w => by kernel_rfl) ?_
      rw [show IntKind.i64.wrap ((x.p : Int) + (T : Int)) = ((x.p + T : Nat) : Int) from (IntWalk.i64_in _ (by omega)).trans (by omega)]
      refine reg_now 12 (.int .i64 ((x.p + T : Nat) : Int)) (some 9) hQN HS (by kernel_rfl) (by kernel_rfl) (fun w => by kernel_rfl) ?_
      refine reg_done (by kernel_rfl) (hN _ _ ?_)
      generalize hact : Act.put _ (some 9) _ = act
      simp only [Act.put, List.setIfInBounds_toArray, List.set_cons_succ, List.set_cons_zero] at hact
      subst hact
      have BR7 : Hid (Below w4.heap.size w4 (World.drew w6)) := BR6.out.drew
      clear BR6 HR6 HS
      go_wp2
      go_roundw
      case rel => exact ⟨k + 1, x.p + T, by omega, by go_num, rfl, nx2, SC2, BR7⟩
      case measure => simp [intOf]; omega
end Go.Proofs.Ytjclhlnkojbidaa
