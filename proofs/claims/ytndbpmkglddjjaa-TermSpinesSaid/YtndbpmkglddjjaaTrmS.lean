/- How many variables a term needs, how often one stands in it: by package term. -/
import Derived.Test.YtndbpmkglddjjaaTrmR
namespace Go.Proofs.Ytndbpmkglddjjaa
open Go Go.RowKit
set_option maxRecDepth 100000

mutual
theorem walk_deep : ∀ (t : Tm) (d : Int), ∀ x ∈ walkT t d, d ≤ x.2
  | .mk k n s l a, d, x, h => by
    rw [walkT] at h
    rcases List.mem_cons.1 h with rfl | h
    · exact Int.le_refl _
    · exact walks_deep a k d a.length 0 x h
theorem walks_deep : ∀ (ts : List Tm) (k d : Int) (N i : Nat), ∀ x ∈ walkTs k d N i ts, d ≤ x.2
  | [], k, d, N, i, x, h => by simp [walkTs] at h
  | t :: ts, k, d, N, i, x, h => by
    rw [walkTs] at h
    rcases List.mem_append.1 h with h | h
    · have := walk_deep t _ x h
      have h1 : 0 ≤ moreD k i N := by unfold moreD; split <;> omega
      omega
    · exact walks_deep ts k d N (i + 1) x h
end
mutual
theorem walk_len : ∀ (t : Tm) (d : Int), (walkT t d).length ≤ nodesT t
  | .mk k n s l a, d => by
    have := walks_len a k d a.length 0
    rw [walkT, nodesT, List.length_cons]
    omega
theorem walks_len : ∀ (ts : List Tm) (k d : Int) (N i : Nat), (walkTs k d N i ts).length ≤ nodesTs ts
  | [], k, d, N, i => by simp [walkTs]
  | t :: ts, k, d, N, i => by
    have h1 := walk_len t (d + moreD k i N)
    have h2 := walks_len ts k d N (i + 1)
    rw [walkTs, nodesTs, List.length_append]
    omega
end
theorem ok_var {p v : Int} {x : Tm × Int} (h : okN p v x = true) (hk : x.1.kind = 1) : 0 ≤ x.1.n ∧ x.1.n < v + x.2 ∧ x.2 ≤ 200 := by
  unfold okN fitsB fitsK at h
  rw [hk] at h
  simp [shapeT] at h
  omega
def lw (acc : Int) (x : Tm × Int) : Int := if x.1.kind = 1 then max acc (IntKind.i64.wrap (IntKind.i64.wrap (x.1.n - x.2) + 1)) else acc
theorem lw_fold (v : Int) (hv : v ≤ 1099511627776) : ∀ (l : List (Tm × Int)) (acc : Int), 0 ≤ acc → (∀ x ∈ l, okN 4 v x = true ∧ 0 ≤ x.2) → l.foldl lw acc = max acc (looseX l)
  | [], acc, h, _ => by simp only [List.foldl_nil, looseX]; omega
  | x :: l, acc, h, hx => by
    have h1 := hx x List.mem_cons_self
    have hs : lw acc x = max acc (loX x) := by
      unfold lw loX
      by_cases hk : x.1.kind = 1
      · have hr := ok_var h1.1 hk
        rw [if_pos hk, if_pos hk, IntWalk.i64_in (x.1.n - x.2) (by omega), IntWalk.i64_in _ (by omega)]
        omega
      · rw [if_neg hk, if_neg hk]
        omega
    rw [List.foldl_cons, hs, lw_fold v hv l _ (by omega) (fun y hy => hx y (List.mem_cons_of_mem _ hy)), looseX]
    omega
def uw (z acc : Int) (x : Tm × Int) : Int := if x.1.kind = 1 ∧ IntKind.i64.wrap (x.1.n - x.2) = z then acc + 1 else acc
theorem uw_fold (z v : Int) (hv : v ≤ 1099511627776) : ∀ (l : List (Tm × Int)) (acc : Int), (∀ x ∈ l, okN 4 v x = true ∧ 0 ≤ x.2) → l.foldl (uw z) acc = acc + usesX z l
  | [], acc, _ => by simp only [List.foldl_nil, usesX]; omega
  | x :: l, acc, hx => by
    have h1 := hx x List.mem_cons_self
    have hs : uw z acc x = acc + usX z x := by
      unfold uw usX
      by_cases hk : x.1.kind = 1
      · have hr := ok_var h1.1 hk
        rw [IntWalk.i64_in (x.1.n - x.2) (by omega)]
        split <;> omega
      · rw [if_neg (fun h => hk h.1), if_neg (fun h => hk h.1)]
        omega
    rw [List.foldl_cons, hs, uw_fold z v hv l _ (fun y hy => hx y (List.mem_cons_of_mem _ hy)), usesX]
    omega
theorem uw_bound (z : Int) : ∀ (l : List (Tm × Int)) (acc : Int), 0 ≤ acc → acc ≤ l.foldl (uw z) acc ∧ l.foldl (uw z) acc ≤ acc + l.length
  | [], acc, _ => by simp
  | x :: l, acc, h => by
    have hs : acc ≤ uw z acc x ∧ uw z acc x ≤ acc + 1 := by unfold uw; split <;> omega
    have := uw_bound z l (uw z acc x) (by omega)
    simp only [List.foldl_cons, List.length_cons]
    omega
/-- Loose, Uses as plain functions. -/
def looseP (t : Tm) : Int := if rightP 4 1099511627776 t then looseT 0 t else 0
def usesP (x : Int) (t : Tm) : Int := if x < 0 then 0 else if rightP 4 1099511627776 t then usesT x 0 t else 0
theorem rightP_all {t : Tm} (h : rightP 4 1099511627776 t = true) : nodesT t ≤ 3000 ∧ (walkT t 0).all (okN 4 1099511627776) = true := by
  rw [rightP_list _ _ _ (by omega)] at h
  simpa using h
theorem right_each {t : Tm} (h : rightP 4 1099511627776 t = true) : ∀ x ∈ walkT t 0, okN 4 1099511627776 x = true ∧ 0 ≤ x.2 := fun x hx => ⟨List.all_eq_true.1 (rightP_all h).2 x hx, walk_deep t 0 x hx⟩
theorem loose_of {t : Tm} (h : rightP 4 1099511627776 t = true) : (walkT t 0).foldl lw 0 = looseP t := by
  rw [lw_fold _ (Int.le_refl _) _ _ (Int.le_refl _) (right_each h), loose_walkT 4 1099511627776 t 0 (rightP_all h).2]
  unfold looseP
  rw [if_pos h]
  have := loose_nonneg t 0
  omega
theorem uses_of {t : Tm} {x : Int} (hx : ¬ x < 0) (h : rightP 4 1099511627776 t = true) : (walkT t 0).foldl (uw x) 0 = usesP x t := by
  rw [uw_fold x _ (Int.le_refl _) _ _ (right_each h), uses_walkT 4 1099511627776 x t 0 (rightP_all h).2]
  unfold usesP
  rw [if_neg hx, if_pos h]
  omega
theorem exec_max2 {P : Program} {a : Act} {w : World} {op : Oper} (ts : Array TypeId) (t : TypeId) (x y : Int) (h : execOp a.eval op = (Builtin.max_ ts t #[.int .i64 x, .int .i64 y] >>= fun x => pure (.value x))) : (execOp a.eval op).run P w = .ok (.value (.int .i64 (max x y))) w := by
  have hr : (Builtin.max_ ts t #[.int .i64 x, .int .i64 y]).run P w = .ok (.int .i64 (max x y)) w := by
    rw [run_max_int2]
    congr 2
    split <;> omega
  rw [h, Sem.run_bind, hr]
  rfl
set_option maxHeartbeats 8000000 in
theorem loose_walk {F : List Nat} (t : Tm) (cs : List Value) (w : World) (ht : TmAt F w t cs) (hs : SmT t) (hn : nodesT t ≤ 100000000000) : Calls Try.prog 32 #[.agg cs.toArray] w fun e w' => e = .returned (.int .i64 (looseP t)) ∧ Below w.heap.size w w' := by
  have C5 := Lib.hid ht.len
  have HT := Lib.hid ht
  have NN := Lib.hid hn
  have HS := Lib.hid hs
  clear ht hn hs
  obtain ⟨q, hq⟩ : ∃ q, w.heap.size = q := ⟨_, rfl⟩
  have HQ : Hid (w.heap.size = q) := hq
  rw [hq]
  clear hq
  refine calls_of_marks Try.func32 rfl ?_
  simp only [Try.ntmps32, List.size_toArray, List.length_cons, List.length_nil, Nat.reduceAdd, Nat.reduceSub, Array.replicate_succ, Array.replicate_zero, List.push_toArray, List.append_toArray, List.nil_append, List.cons_append]
  go_upto_region 0 with (fail)
  refine lin_begin (opsOf Try.f32 0) (by kernel_rfl) ?_
  refine lin_box 0 25 (.tmp 0) (cs) (q) (some 1) (by kernel_rfl) (by kernel_rfl) (by kernel_rfl) (by kernel_rfl) HQ ?_
  intro w1 bw1 bew1 hsw1
  refine lin_now 1 (.int .i64 0) (some 2) (by kernel_rfl) (by kernel_rfl) (by kernel_rfl) ?_
  refine lin_done 2 (by kernel_rfl) ?_
  generalize hact : Act.put _ (some 2) _ = act
  simp only [Act.put, List.setIfInBounds_toArray, List.set_cons_succ, List.set_cons_zero] at hact
  subst hact
  have RW := right_walk8 t cs 4 1099511627776 w1 (HT.out.step (Step.of_below bew1 (by have := HQ.out; omega))) HS.out NN.out
  obtain ⟨rb, hrb⟩ : ∃ y, Hid (rightP 4 1099511627776 t = y) := ⟨_, rfl⟩
  rw [hrb.out] at RW
  go_upto_region 1 with (fail)
  refine lin_begin (opsOf Try.f32 1) (by kernel_rfl) ?_
  refine lin_now 0 (.agg (cs).toArray) (some 6) (by kernel_rfl) (by kernel_rfl) (exec_load_mid 25 (.tmp 1) (by kernel_rfl) (q) 0 (by kernel_rfl) (cs) _ (bw1).whole Try.underlying25 rfl (t5Size C5.out)) ?_
  refine lin_call 1 30 #[.agg cs.toArray, .int .i64 4, .int .i64 1099511627776] (some 7) _ (by kernel_rfl) (by kernel_rfl) (by kernel_rfl) (RW) ?_
  rintro e w2 ⟨rfl, hb2⟩
  refine ⟨_, rfl, ?_⟩
  have B0 := Lib.hid (bw1.below hb2 bw1.lt)
  have BE : Hid (Below q w w2) := bew1.trans (hb2.mono (by have := hsw1.out; omega))
  have S2 : Hid (q + 1 ≤ w2.heap.size) := by have := hb2.size; have := hsw1.out; rw [Hid]; omega
  clear bw1 bew1 hsw1 hb2 RW
  cases rb
  · skip
    refine lin_now 2 (.bool true) (some 8) (by kernel_rfl) (by kernel_rfl) (by kernel_rfl) ?_
    refine lin_done 3 (by kernel_rfl) ?_
    generalize hact : Act.put _ (some 8) _ = act
    simp only [Act.put, List.setIfInBounds_toArray, List.set_cons_succ, List.set_cons_zero] at hact
    subst hact
    go_wp2
    refine ret_plain (results_tmp rfl _ _ _) rfl ⟨by unfold looseP; rw [hrb.out]; rfl, BE.out⟩
  refine lin_now 2 (.bool false) (some 8) (by kernel_rfl) (by kernel_rfl) (by kernel_rfl) ?_
  refine lin_done 3 (by kernel_rfl) ?_
  generalize hact : Act.put _ (some 8) _ = act
  simp only [Act.put, List.setIfInBounds_toArray, List.set_cons_succ, List.set_cons_zero] at hact
  subst hact
  have HR : Hid (rightP 4 1099511627776 t = true) := hrb.out
  obtain ⟨q3, hq3⟩ : ∃ y, Hid (w2.heap.size = y) := ⟨_, rfl⟩
  have HT2 := HT.out.step (Step.of_below BE.out (by have := HQ.out; omega))
  obtain ⟨xs, hxs, hstops⟩ := nodes_stops [w2.heap.size] w2 t cs (TmAt.sub (fun k hk => Or.inr (by simp at hk; omega)) t cs HT2) HS.out (by have := NN.out; omega)
  revert hstops hxs xs
  rw [hq3.out]
  intro xs hxs hstops
  have XS := Lib.hid hxs
  have STOPS := Lib.hid hstops
  clear hstops hxs HT2
  obtain ⟨G, hGd⟩ : ∃ G, Hid (([q3] : List Nat) = G) := ⟨_, rfl⟩
  revert STOPS XS xs
  rw [hGd.out]
  intro xs XS STOPS
  have M3 : Hid (q3 ∈ G) := by rw [Hid, ← hGd.out]; simp
  have GB : Hid (∀ g ∈ G, g = q3) := fun g hg => by rw [← hGd.out] at hg; simpa using hg
  clear hGd
  have S2o := S2.out
  rw [hq3.out] at S2o
  go_upto_region 3 with (fail)
  refine lin_begin (opsOf Try.f32 3) (by kernel_rfl) ?_
  refine lin_alloc1 0 3 (.int .i64 0) (q3) (some 3) (by kernel_rfl) (by kernel_rfl) (by kernel_rfl) (by kernel_rfl) (by rfl) hq3 ?_
  intro w3 bw3 bew3 hsw3
  refine lin_put1 1 3 (.tmp 3) (Operand.const (.int .i64 0)) (q3) _ (.int .i64 0) (.int .i64 0) (by kernel_rfl) (by kernel_rfl) (by kernel_rfl) (by kernel_rfl) (by kernel_rfl) bw3 (by kernel_rfl) (by rfl) (by rfl) ?_
  intro w4 bw4 uw4
  refine lin_done 2 (by kernel_rfl) ?_
  generalize hact : Act.put _ none _ = act
  simp only [Act.put, List.setIfInBounds_toArray, List.set_cons_succ, List.set_cons_zero] at hact
  subst hact
  have B0b : Hid (Blk w4 q 25 cs) := uw4.blk (B0.out.below bew3 (by omega)) (by omega)
  have B4 : Hid (IntAt w4 q3 0) := bw4
  have K4 : Hid (Below q3 w2 w4) := uw4.below bew3 (Nat.le_refl _) (by have := hsw3.out; omega)
  have S4 : Hid (q3 + 1 ≤ w4.heap.size) := by have := uw4.size; have := hsw3.out; rw [Hid]; omega
  clear bw3 bew3 hsw3 bw4 uw4 B0
  go_upto_region 4 with (fail)
  refine lin_begin (opsOf Try.f32 4) (by kernel_rfl) ?_
  refine lin_now 0 (.agg (cs).toArray) (some 9) (by kernel_rfl) (by kernel_rfl) (exec_load_mid 25 (.tmp 1) (by kernel_rfl) (q) 0 (by kernel_rfl) (cs) _ (B0b.out).whole Try.underlying25 rfl (t5Size C5.out)) ?_
  refine lin_call 1 67 #[.agg cs.toArray] (some 10) _ (by kernel_rfl) (by kernel_rfl) (by kernel_rfl) (iter_walk cs w4) ?_
  rintro e w5 ⟨rfl, hb5, hbe5, hs5⟩
  refine ⟨_, rfl, ?_⟩
  refine lin_done 2 (by kernel_rfl) ?_
  generalize hact : Act.put _ (some 10) _ = act
  simp only [Act.put, List.setIfInBounds_toArray, List.set_cons_succ, List.set_cons_zero] at hact
  subst hact
  obtain ⟨bt, hbt⟩ : ∃ bt, Hid (w4.heap.size = bt) := ⟨_, rfl⟩
  rw [hbt.out] at hb5 hbe5 hs5 S4 ⊢
  have S4o := S4.out
  have L5 : Hid (q3 + 1 ≤ w5.heap.size) := by have := hs5.out; rw [Hid]; omega
  have C4 : Hid (IntAt w5 q3 0) := B4.out.below hbe5 (by omega)
  have K5 : Hid (Below q3 w2 w5) := K4.out.trans (hbe5.mono (by omega))
  have BE5 : Hid (Below q w w5) := BE.out.trans (K5.out.mono (by omega))
  have B54 := Lib.hid hb5
  have KC5 : Hid (KeepC G w2 w5) := KeepC.of_below (by rw [hq3.out]; exact K5.out)
  have QL : Hid (q + 1 ≤ q3) := S2o
  clear hb5 hbe5 hs5 S4 S4o B0b B4 K4 S2 S2o
  go_wp2
  refine range_nodes G w2 w q bt xs (by kernel_rfl) (STOPS.out w5 bt B54.out KC5.out (fun g hg => by have := GB.out g hg; have := L5.out; omega)) KC5.out BE5.out (by have := L5.out; have := QL.out; omega) (fun g hg => by have := GB.out g hg; have := L5.out; omega) (fun g hg => by have := GB.out g hg; have := QL.out; omega)
    (fun pre W => IntAt W q3 ((pre.map Nd.pr).foldl (lw) 0)) (fun _ _ _ => False)
    (fun s A B row h hg hr => own_blk_any (β := Unit) _ _ _ _ () A B row h hg hr) (fun c s A B row h hg hr => h)
    C4.out (fun x nb => { tmps := #[.agg cs.toArray, .pointer (some ⟨q, 0, none⟩), .int .i64 0, .pointer (some ⟨q3, 0, none⟩), .pointer (some ⟨nb, 0, none⟩), .int .i64 x.d, .agg cs.toArray, .bool true, .bool false, .agg cs.toArray, .func (.func 101) #[] #[.pointer (some ⟨bt, 0, none⟩)], .agg x.cs.toArray, .int .i64 x.d, undef, undef, undef, undef, undef, undef, undef, undef, undef, undef, undef], defers := [] }) ?_ ?_ ?_ ?_
  · intro l x W K hK
    obtain ⟨q2, hq2⟩ : ∃ q2, Hid (W.heap.size = q2) := ⟨_, rfl⟩
    rw [hq2.out] at hK
    refine wpIn_seq ?_
    refine rin_lin (opsOf Try.f32 5) (by kernel_rfl) (by kernel_rfl) (fun ⟨_, _, h⟩ => h) ?_
    refine lin_alloc 0 25 z5T (q2) (some 4) (by kernel_rfl) (by kernel_rfl) (by kernel_rfl) (by kernel_rfl) hq2 ?_
    intro wa bwa bewa hswa
    refine lin_put 1 25 (.tmp 4) (.tmp 11) (q2) _ (z5T) (x.cs) (by kernel_rfl) (by kernel_rfl) (by kernel_rfl) (by kernel_rfl) (by kernel_rfl) bwa (x.at_.len.trans (rfl : z5T.length = 5).symm) (t5Size x.at_.len) (by simpa using x.at_.one) ?_
    intro wb bwb uwb
    refine lin_done 2 (by kernel_rfl) ?_
    generalize hact : Act.put _ none _ = act
    simp only [Act.put, List.setIfInBounds_toArray, List.set_cons_succ, List.set_cons_zero] at hact
    subst hact
    refine then_normal ?_
    refine rin_lin (opsOf Try.f32 6) (by kernel_rfl) (by kernel_rfl) (fun ⟨_, _, h⟩ => h) ?_
    refine lin_now 0 (.int .i64 x.d) (some 5) (by kernel_rfl) (by kernel_rfl) (by kernel_rfl) ?_
    refine lin_done 1 (by kernel_rfl) ?_
    generalize hact : Act.put _ (some 5) _ = act
    simp only [Act.put, List.setIfInBounds_toArray, List.set_cons_succ, List.set_cons_zero] at hact
    subst hact
    exact hK wb bwb (uwb.below bewa (Nat.le_refl _) (by have := bewa.size; have := hq2.out; omega))
  · rintro l pre x nb W hi hnb hxb hxt hbl hnW hlen
    obtain ⟨lv, av, hcs, -, -⟩ := hxt.open
    have NB : Hid (nb ≠ q3) := by have := L5.out; rw [Hid]; omega
    have k0 : W.cell? ⟨nb, 0, none⟩ = some (.int .i64 x.t.kind) := hxb.cell (by rw [hcs]; rfl)
    have k1 : W.cell? ⟨nb, 1, none⟩ = some (.int .i64 x.t.n) := hxb.cell (by rw [hcs]; rfl)
    have HV : ((pre ++ [x]).map Nd.pr).foldl (lw) 0 = lw ((pre.map Nd.pr).foldl (lw) 0) (x.t, x.d) := by rw [List.map_append, List.foldl_append]; rfl
    obtain ⟨u, hu⟩ : ∃ u, Hid ((pre.map Nd.pr).foldl (lw) 0 = u) := ⟨_, rfl⟩
    rw [hu.out] at HV hi
    have HI := Lib.hid hi
    obtain ⟨xk, hxk⟩ : ∃ y, Hid (x.t.kind = y) := ⟨_, rfl⟩
    obtain ⟨xn, hxn⟩ : ∃ y, Hid (x.t.n = y) := ⟨_, rfl⟩
    rw [hxk.out] at k0
    rw [hxn.out] at k1
    have KK0 := Lib.hid k0
    have KK1 := Lib.hid k1
    obtain ⟨xd, hxd⟩ : ∃ y, Hid (x.d = y) := ⟨_, rfl⟩
    have HV2 : Hid (((pre ++ [x]).map Nd.pr).foldl (lw) 0 = if xk = 1 then max u (IntKind.i64.wrap (IntKind.i64.wrap (xn - xd) + 1)) else u) := by
      rw [Hid, HV]
      unfold lw
      dsimp only
      rw [hxk.out, hxn.out, hxd.out]
    rw [hxd.out]
    clear hi k0 k1 hcs hxb hxt hbl hnW hlen hnb HV
    refine wpIn_block ?_
    refine wpIn_seq ?_
    refine rin_lin (opsOf Try.f32 7) (by kernel_rfl) (by kernel_rfl) (fun ⟨_, _, h⟩ => h) ?_
    refine lin_now 0 (.pointer (some ⟨nb, 0, none⟩)) (some 13) (by kernel_rfl) (by kernel_rfl) (by kernel_rfl) ?_
    refine lin_now 1 (.int .i64 xk) (some 14) (by kernel_rfl) (by kernel_rfl) (exec_load_cell 3 (.tmp 13) (by kernel_rfl) (nb) 0 (by kernel_rfl) _ (KK0.out) _ Try.underlying3 rfl) ?_
    by_cases hk : xk = 1
    · have r1 : decide (xk = 1) = true := decide_eq_true hk
      refine lin_now 2 (.bool (decide (xk = 1))) (some 15) (by kernel_rfl) (by kernel_rfl) (by kernel_rfl) ?_
      rw [r1]
      refine lin_done 3 (by kernel_rfl) ?_
      generalize hact : Act.put _ (some 15) _ = act
      simp only [Act.put, List.setIfInBounds_toArray, List.set_cons_succ, List.set_cons_zero] at hact
      subst hact
      refine then_normal ?_
      refine wpIn_cond_true (by kernel_rfl) ?_
      refine rin_lin (opsOf Try.f32 8) (by kernel_rfl) (by kernel_rfl) (fun ⟨_, _, h⟩ => h) ?_
      refine lin_now 0 (.int .i64 u) (some 16) (by kernel_rfl) (by kernel_rfl) (exec_load_cell 3 (.tmp 3) (by kernel_rfl) (q3) 0 (by kernel_rfl) _ (HI.out.cell rfl) _ Try.underlying3 rfl) ?_
      refine lin_now 1 (.pointer (some ⟨nb, 1, none⟩)) (some 17) (by kernel_rfl) (by kernel_rfl) (by kernel_rfl) ?_
      refine lin_now 2 (.int .i64 xn) (some 18) (by kernel_rfl) (by kernel_rfl) (exec_load_cell 3 (.tmp 17) (by kernel_rfl) (nb) 1 (by kernel_rfl) _ (KK1.out) _ Try.underlying3 rfl) ?_
      refine lin_now 3 (.int .i64 xd) (some 19) (by kernel_rfl) (by kernel_rfl) (by kernel_rfl) ?_
      refine lin_now 4 (.int .i64 (IntKind.i64.wrap (xn - xd))) (some 20) (by kernel_rfl) (by kernel_rfl) (by kernel_rfl) ?_
      refine lin_now 5 (.int .i64 (IntKind.i64.wrap (IntKind.i64.wrap (xn - xd) + 1))) (some 21) (by kernel_rfl) (by kernel_rfl) (by kernel_rfl) ?_
      obtain ⟨m, hm⟩ : ∃ y, Hid (IntKind.i64.wrap (IntKind.i64.wrap (xn - xd) + 1) = y) := ⟨_, rfl⟩
      rw [hm.out]
      rw [hm.out] at HV2
      refine lin_now 6 (.int .i64 (max u m)) (some 22) (by kernel_rfl) (by kernel_rfl) (exec_max2 #[3, 3] 3 _ _ (by kernel_rfl)) ?_
      refine lin_put1 7 3 (.tmp 3) (.tmp 22) (q3) _ (.int .i64 u) (.int .i64 (max u m)) (by kernel_rfl) (by kernel_rfl) (by kernel_rfl) (by kernel_rfl) (by kernel_rfl) HI.out (by kernel_rfl) (by rfl) (by rfl) ?_
      intro w8 bw8 uw8
      refine lin_done 8 (by kernel_rfl) ?_
      generalize hact : Act.put _ none _ = act
      simp only [Act.put, List.setIfInBounds_toArray, List.set_cons_succ, List.set_cons_zero] at hact
      subst hact
      exact ⟨(Keeps.refl G W).upd uw8 (.inl M3.out), by show IntAt _ q3 _; rw [HV2.out, if_pos hk]; exact bw8⟩
    · have r1 : decide (xk = 1) = false := decide_eq_false hk
      refine lin_now 2 (.bool (decide (xk = 1))) (some 15) (by kernel_rfl) (by kernel_rfl) (by kernel_rfl) ?_
      rw [r1]
      refine lin_done 3 (by kernel_rfl) ?_
      generalize hact : Act.put _ (some 15) _ = act
      simp only [Act.put, List.setIfInBounds_toArray, List.set_cons_succ, List.set_cons_zero] at hact
      subst hact
      refine then_normal ?_
      refine wpIn_cond_false (by kernel_rfl) ?_
      refine wpIn_skip ?_
      exact ⟨Keeps.refl G W, by show IntAt _ q3 _; rw [HV2.out, if_neg hk]; exact HI.out⟩
  · rintro D W hi hD hK hb
    rw [XS.out, loose_of HR.out] at hi
    have HI := Lib.hid hi
    have HD : Hid (q3 + 1 ≤ D) := by have := L5.out; rw [Hid]; omega
    have HK := Lib.hid hK
    have HB := Lib.hid hb
    clear hi hD hK hb
    obtain ⟨rv, hrv⟩ : ∃ y, Hid (looseP t = y) := ⟨_, rfl⟩
    rw [hrv.out] at HI
    dsimp only [Act.marked]
    go_upto_region 9 with (fail)
    refine lin_begin (opsOf Try.f32 9) (by kernel_rfl) ?_
    refine lin_now 0 (.int .i64 rv) (some 23) (by kernel_rfl) (by kernel_rfl) (exec_load_cell 3 (.tmp 3) (by kernel_rfl) (q3) 0 (by kernel_rfl) _ (HI.out.cell rfl) _ Try.underlying3 rfl) ?_
    refine lin_now 1 (.int .i64 rv) (some 2) (by kernel_rfl) (by kernel_rfl) (by kernel_rfl) ?_
    refine lin_done 2 (by kernel_rfl) ?_
    generalize hact : Act.put _ (some 2) _ = act
    simp only [Act.put, List.setIfInBounds_toArray, List.set_cons_succ, List.set_cons_zero] at hact
    subst hact
    go_wp2
    refine ret_marks rfl HK.out (results_tmp rfl _ _ _) ⟨by rw [hrv.out]; rfl, below_put HB.out (by have := HD.out; have := QL.out; omega) (Array.getElem?_eq_some_iff.1 HK.out).1⟩
  · rintro D c pre W hp h hD hK hb
    exact h.elim

set_option maxHeartbeats 8000000 in
theorem uses_walk {F : List Nat} (t : Tm) (z : Int) (cs : List Value) (w : World) (ht : TmAt F w t cs) (hs : SmT t) (hn : nodesT t ≤ 100000000000) : Calls Try.prog 36 #[.agg cs.toArray, .int .i64 z] w fun e w' => e = .returned (.int .i64 (usesP z t)) ∧ Below w.heap.size w w' := by
  have C5 := Lib.hid ht.len
  have HT := Lib.hid ht
  have NN := Lib.hid hn
  have HS := Lib.hid hs
  clear ht hn hs
  obtain ⟨q, hq⟩ : ∃ q, w.heap.size = q := ⟨_, rfl⟩
  have HQ : Hid (w.heap.size = q) := hq
  rw [hq]
  clear hq
  refine calls_of_marks Try.func36 rfl ?_
  simp only [Try.ntmps36, List.size_toArray, List.length_cons, List.length_nil, Nat.reduceAdd, Nat.reduceSub, Array.replicate_succ, Array.replicate_zero, List.push_toArray, List.append_toArray, List.nil_append, List.cons_append]
  go_upto_region 0 with (fail)
  refine lin_begin (opsOf Try.f36 0) (by kernel_rfl) ?_
  refine lin_box 0 25 (.tmp 0) (cs) (q) (some 2) (by kernel_rfl) (by kernel_rfl) (by kernel_rfl) (by kernel_rfl) HQ ?_
  intro w1 bw1 bew1 hsw1
  refine lin_box1 1 3 (.tmp 1) (.int .i64 z) (q + 1) (some 3) (by kernel_rfl) (by kernel_rfl) (by kernel_rfl) (by kernel_rfl) (by rfl) hsw1 ?_
  intro w1b bw1b bew1b hsw1b
  refine lin_now 2 (.int .i64 0) (some 4) (by kernel_rfl) (by kernel_rfl) (by kernel_rfl) ?_
  refine lin_done 3 (by kernel_rfl) ?_
  generalize hact : Act.put _ (some 4) _ = act
  simp only [Act.put, List.setIfInBounds_toArray, List.set_cons_succ, List.set_cons_zero] at hact
  subst hact
  have B1 : Hid (Blk w1b q 25 cs) := bw1.below bew1b (by omega)
  have N1 : Hid (IntAt w1b (q + 1) z) := bw1b
  have BE1 : Hid (Below q w w1b) := bew1.trans (bew1b.mono (by omega))
  have S1 : Hid (w1b.heap.size = q + 2) := hsw1b
  clear bw1 bew1 hsw1 bw1b bew1b hsw1b
  by_cases hz0 : z < 0
  · have r0 : decide (z < 0) = true := decide_eq_true hz0
    go_upto_region 1 with (fail)
    refine lin_begin (opsOf Try.f36 1) (by kernel_rfl) ?_
    refine lin_now 0 (.int .i64 z) (some 8) (by kernel_rfl) (by kernel_rfl) (exec_load_cell 3 (.tmp 3) (by kernel_rfl) (q + 1) 0 (by kernel_rfl) _ (N1.out.cell rfl) _ Try.underlying3 rfl) ?_
    refine lin_now 1 (.bool (decide (z < 0))) (some 9) (by kernel_rfl) (by kernel_rfl) (by kernel_rfl) ?_
    rw [r0]
    refine lin_now 2 (.bool true) (some 10) (by kernel_rfl) (by kernel_rfl) (by kernel_rfl) ?_
    refine lin_pass 3 (some 11) (by kernel_rfl) (by kernel_rfl) ?_
    refine lin_pass 4 (some 12) (by kernel_rfl) (by kernel_rfl) ?_
    refine lin_pass 5 (some 13) (by kernel_rfl) (by kernel_rfl) ?_
    refine lin_now 6 (.bool true) (some 14) (by kernel_rfl) (by kernel_rfl) (by kernel_rfl) ?_
    refine lin_done 7 (by kernel_rfl) ?_
    generalize hact : Act.put _ (some 14) _ = act
    simp only [Act.put, List.setIfInBounds_toArray, List.set_cons_succ, List.set_cons_zero] at hact
    subst hact
    go_wp2
    refine ret_plain (results_tmp rfl _ _ _) rfl ⟨by unfold usesP; rw [if_pos hz0]; rfl, BE1.out⟩
  have r0 : decide (z < 0) = false := decide_eq_false hz0
  have HZ0 : Hid (¬ z < 0) := hz0
  clear hz0
  have RW := right_walk8 t cs 4 1099511627776 w1b (HT.out.step (Step.of_below BE1.out (by have := HQ.out; omega))) HS.out NN.out
  obtain ⟨rb, hrb⟩ : ∃ y, Hid (rightP 4 1099511627776 t = y) := ⟨_, rfl⟩
  rw [hrb.out] at RW
  go_upto_region 1 with (fail)
  refine lin_begin (opsOf Try.f36 1) (by kernel_rfl) ?_
  refine lin_now 0 (.int .i64 z) (some 8) (by kernel_rfl) (by kernel_rfl) (exec_load_cell 3 (.tmp 3) (by kernel_rfl) (q + 1) 0 (by kernel_rfl) _ (N1.out.cell rfl) _ Try.underlying3 rfl) ?_
  refine lin_now 1 (.bool (decide (z < 0))) (some 9) (by kernel_rfl) (by kernel_rfl) (by kernel_rfl) ?_
  rw [r0]
  refine lin_now 2 (.bool false) (some 10) (by kernel_rfl) (by kernel_rfl) (by kernel_rfl) ?_
  refine lin_now 3 (.agg (cs).toArray) (some 11) (by kernel_rfl) (by kernel_rfl) (exec_load_mid 25 (.tmp 2) (by kernel_rfl) (q) 0 (by kernel_rfl) (cs) _ (B1.out).whole Try.underlying25 rfl (t5Size C5.out)) ?_
  refine lin_call 4 30 #[.agg cs.toArray, .int .i64 4, .int .i64 1099511627776] (some 12) _ (by kernel_rfl) (by kernel_rfl) (by kernel_rfl) (RW) ?_
  rintro e w2 ⟨rfl, hb2⟩
  refine ⟨_, rfl, ?_⟩
  have B0 := Lib.hid (B1.out.below hb2 B1.out.lt)
  have N0 := Lib.hid (N1.out.below hb2 N1.out.lt)
  have BE : Hid (Below q w w2) := BE1.out.trans (hb2.mono (by have := S1.out; omega))
  have S2 : Hid (q + 2 ≤ w2.heap.size) := by have := hb2.size; have := S1.out; rw [Hid]; omega
  clear B1 N1 BE1 S1 hb2 RW r0
  cases rb
  · skip
    refine lin_now 5 (.bool true) (some 13) (by kernel_rfl) (by kernel_rfl) (by kernel_rfl) ?_
    refine lin_now 6 (.bool true) (some 14) (by kernel_rfl) (by kernel_rfl) (by kernel_rfl) ?_
    refine lin_done 7 (by kernel_rfl) ?_
    generalize hact : Act.put _ (some 14) _ = act
    simp only [Act.put, List.setIfInBounds_toArray, List.set_cons_succ, List.set_cons_zero] at hact
    subst hact
    go_wp2
    refine ret_plain (results_tmp rfl _ _ _) rfl ⟨by unfold usesP; rw [if_neg (show ¬ z < 0 by have := HZ0.out; omega), hrb.out]; rfl, BE.out⟩
  refine lin_now 5 (.bool false) (some 13) (by kernel_rfl) (by kernel_rfl) (by kernel_rfl) ?_
  refine lin_now 6 (.bool false) (some 14) (by kernel_rfl) (by kernel_rfl) (by kernel_rfl) ?_
  refine lin_done 7 (by kernel_rfl) ?_
  generalize hact : Act.put _ (some 14) _ = act
  simp only [Act.put, List.setIfInBounds_toArray, List.set_cons_succ, List.set_cons_zero] at hact
  subst hact
  have HR : Hid (rightP 4 1099511627776 t = true) := hrb.out
  obtain ⟨q3, hq3⟩ : ∃ y, Hid (w2.heap.size = y) := ⟨_, rfl⟩
  have HT2 := HT.out.step (Step.of_below BE.out (by have := HQ.out; omega))
  obtain ⟨xs, hxs, hstops⟩ := nodes_stops [w2.heap.size] w2 t cs (TmAt.sub (fun k hk => Or.inr (by simp at hk; omega)) t cs HT2) HS.out (by have := NN.out; omega)
  revert hstops hxs xs
  rw [hq3.out]
  intro xs hxs hstops
  have XS := Lib.hid hxs
  have STOPS := Lib.hid hstops
  clear hstops hxs HT2
  obtain ⟨G, hGd⟩ : ∃ G, Hid (([q3] : List Nat) = G) := ⟨_, rfl⟩
  revert STOPS XS xs
  rw [hGd.out]
  intro xs XS STOPS
  have M3 : Hid (q3 ∈ G) := by rw [Hid, ← hGd.out]; simp
  have NX : Hid (xs.length ≤ 3000) := by
    have h1 := congrArg List.length XS.out
    have h2 := walk_len t 0
    have h3 := (rightP_all HR.out).1
    rw [List.length_map] at h1
    rw [Hid]; omega
  have GB : Hid (∀ g ∈ G, g = q3) := fun g hg => by rw [← hGd.out] at hg; simpa using hg
  clear hGd
  have S2o := S2.out
  rw [hq3.out] at S2o
  go_upto_region 3 with (fail)
  refine lin_begin (opsOf Try.f36 3) (by kernel_rfl) ?_
  refine lin_alloc1 0 3 (.int .i64 0) (q3) (some 5) (by kernel_rfl) (by kernel_rfl) (by kernel_rfl) (by kernel_rfl) (by rfl) hq3 ?_
  intro w3 bw3 bew3 hsw3
  refine lin_put1 1 3 (.tmp 5) (Operand.const (.int .i64 0)) (q3) _ (.int .i64 0) (.int .i64 0) (by kernel_rfl) (by kernel_rfl) (by kernel_rfl) (by kernel_rfl) (by kernel_rfl) bw3 (by kernel_rfl) (by rfl) (by rfl) ?_
  intro w4 bw4 uw4
  refine lin_done 2 (by kernel_rfl) ?_
  generalize hact : Act.put _ none _ = act
  simp only [Act.put, List.setIfInBounds_toArray, List.set_cons_succ, List.set_cons_zero] at hact
  subst hact
  have B0b : Hid (Blk w4 q 25 cs) := uw4.blk (B0.out.below bew3 (by omega)) (by omega)
  have N0b : Hid (IntAt w4 (q + 1) z) := uw4.blk (N0.out.below bew3 (by omega)) (by omega)
  have B4 : Hid (IntAt w4 q3 0) := bw4
  have K4 : Hid (Below q3 w2 w4) := uw4.below bew3 (Nat.le_refl _) (by have := hsw3.out; omega)
  have S4 : Hid (q3 + 1 ≤ w4.heap.size) := by have := uw4.size; have := hsw3.out; rw [Hid]; omega
  clear bw3 bew3 hsw3 bw4 uw4 B0
  go_upto_region 4 with (fail)
  refine lin_begin (opsOf Try.f36 4) (by kernel_rfl) ?_
  refine lin_now 0 (.agg (cs).toArray) (some 15) (by kernel_rfl) (by kernel_rfl) (exec_load_mid 25 (.tmp 2) (by kernel_rfl) (q) 0 (by kernel_rfl) (cs) _ (B0b.out).whole Try.underlying25 rfl (t5Size C5.out)) ?_
  refine lin_call 1 67 #[.agg cs.toArray] (some 16) _ (by kernel_rfl) (by kernel_rfl) (by kernel_rfl) (iter_walk cs w4) ?_
  rintro e w5 ⟨rfl, hb5, hbe5, hs5⟩
  refine ⟨_, rfl, ?_⟩
  refine lin_done 2 (by kernel_rfl) ?_
  generalize hact : Act.put _ (some 16) _ = act
  simp only [Act.put, List.setIfInBounds_toArray, List.set_cons_succ, List.set_cons_zero] at hact
  subst hact
  obtain ⟨bt, hbt⟩ : ∃ bt, Hid (w4.heap.size = bt) := ⟨_, rfl⟩
  rw [hbt.out] at hb5 hbe5 hs5 S4 ⊢
  have S4o := S4.out
  have L5 : Hid (q3 + 1 ≤ w5.heap.size) := by have := hs5.out; rw [Hid]; omega
  have C4 : Hid (IntAt w5 q3 0) := B4.out.below hbe5 (by omega)
  have CN : Hid (IntAt w5 (q + 1) z) := N0b.out.below hbe5 (by omega)
  have K5 : Hid (Below q3 w2 w5) := K4.out.trans (hbe5.mono (by omega))
  have BE5 : Hid (Below q w w5) := BE.out.trans (K5.out.mono (by omega))
  have B54 := Lib.hid hb5
  have KC5 : Hid (KeepC G w2 w5) := KeepC.of_below (by rw [hq3.out]; exact K5.out)
  have QL : Hid (q + 2 ≤ q3) := S2o
  clear hb5 hbe5 hs5 S4 S4o B0b B4 K4 S2 S2o N0b
  go_wp2
  refine range_nodes G w2 w q bt xs (by kernel_rfl) (STOPS.out w5 bt B54.out KC5.out (fun g hg => by have := GB.out g hg; have := L5.out; omega)) KC5.out BE5.out (by have := L5.out; have := QL.out; omega) (fun g hg => by have := GB.out g hg; have := L5.out; omega) (fun g hg => by have := GB.out g hg; have := QL.out; omega)
    (fun pre W => IntAt W (q + 1) z ∧ IntAt W q3 ((pre.map Nd.pr).foldl (uw z) 0)) (fun _ _ _ => False)
    (fun s A B row h hg hr => ⟨own_blk_any (β := Unit) _ _ _ _ () A B row h.1 hg hr, own_blk_any (β := Unit) _ _ _ _ () A B row h.2 hg hr⟩) (fun c s A B row h hg hr => h)
    ⟨CN.out, C4.out⟩ (fun x nb => { tmps := #[.agg cs.toArray, .int .i64 z, .pointer (some ⟨q, 0, none⟩), .pointer (some ⟨q + 1, 0, none⟩), .int .i64 0, .pointer (some ⟨q3, 0, none⟩), .pointer (some ⟨nb, 0, none⟩), .int .i64 x.d, .int .i64 z, .bool false, .bool false, .agg cs.toArray, .bool true, .bool false, .bool false, .agg cs.toArray, .func (.func 101) #[] #[.pointer (some ⟨bt, 0, none⟩)], .agg x.cs.toArray, .int .i64 x.d, undef, undef, undef, undef, undef, undef, undef, undef, undef, undef, undef, undef, undef, undef], defers := [] }) ?_ ?_ ?_ ?_
  · intro l x W K hK
    obtain ⟨q2, hq2⟩ : ∃ q2, Hid (W.heap.size = q2) := ⟨_, rfl⟩
    rw [hq2.out] at hK
    refine wpIn_seq ?_
    refine rin_lin (opsOf Try.f36 5) (by kernel_rfl) (by kernel_rfl) (fun ⟨_, _, h⟩ => h) ?_
    refine lin_alloc 0 25 z5T (q2) (some 6) (by kernel_rfl) (by kernel_rfl) (by kernel_rfl) (by kernel_rfl) hq2 ?_
    intro wa bwa bewa hswa
    refine lin_put 1 25 (.tmp 6) (.tmp 17) (q2) _ (z5T) (x.cs) (by kernel_rfl) (by kernel_rfl) (by kernel_rfl) (by kernel_rfl) (by kernel_rfl) bwa (x.at_.len.trans (rfl : z5T.length = 5).symm) (t5Size x.at_.len) (by simpa using x.at_.one) ?_
    intro wb bwb uwb
    refine lin_done 2 (by kernel_rfl) ?_
    generalize hact : Act.put _ none _ = act
    simp only [Act.put, List.setIfInBounds_toArray, List.set_cons_succ, List.set_cons_zero] at hact
    subst hact
    refine then_normal ?_
    refine rin_lin (opsOf Try.f36 6) (by kernel_rfl) (by kernel_rfl) (fun ⟨_, _, h⟩ => h) ?_
    refine lin_now 0 (.int .i64 x.d) (some 7) (by kernel_rfl) (by kernel_rfl) (by kernel_rfl) ?_
    refine lin_done 1 (by kernel_rfl) ?_
    generalize hact : Act.put _ (some 7) _ = act
    simp only [Act.put, List.setIfInBounds_toArray, List.set_cons_succ, List.set_cons_zero] at hact
    subst hact
    exact hK wb bwb (uwb.below bewa (Nat.le_refl _) (by have := bewa.size; have := hq2.out; omega))
  · rintro l pre x nb W ⟨hz, hi⟩ hnb hxb hxt hbl hnW hlen
    obtain ⟨lv, av, hcs, -, -⟩ := hxt.open
    have NB : Hid (nb ≠ q3) := by have := L5.out; rw [Hid]; omega
    have k0 : W.cell? ⟨nb, 0, none⟩ = some (.int .i64 x.t.kind) := hxb.cell (by rw [hcs]; rfl)
    have k1 : W.cell? ⟨nb, 1, none⟩ = some (.int .i64 x.t.n) := hxb.cell (by rw [hcs]; rfl)
    have HV : ((pre ++ [x]).map Nd.pr).foldl (uw z) 0 = uw z ((pre.map Nd.pr).foldl (uw z) 0) (x.t, x.d) := by rw [List.map_append, List.foldl_append]; rfl
    have UB := uw_bound z (pre.map Nd.pr) 0 (Int.le_refl _)
    rw [List.length_map] at UB
    have HZ := Lib.hid hz
    obtain ⟨u, hu⟩ : ∃ u, Hid ((pre.map Nd.pr).foldl (uw z) 0 = u) := ⟨_, rfl⟩
    rw [hu.out] at HV hi UB
    have HI := Lib.hid hi
    obtain ⟨xk, hxk⟩ : ∃ y, Hid (x.t.kind = y) := ⟨_, rfl⟩
    obtain ⟨xn, hxn⟩ : ∃ y, Hid (x.t.n = y) := ⟨_, rfl⟩
    rw [hxk.out] at k0
    rw [hxn.out] at k1
    have KK0 := Lib.hid k0
    have KK1 := Lib.hid k1
    obtain ⟨xd, hxd⟩ : ∃ y, Hid (x.d = y) := ⟨_, rfl⟩
    have HV2 : Hid (((pre ++ [x]).map Nd.pr).foldl (uw z) 0 = if xk = 1 ∧ IntKind.i64.wrap (xn - xd) = z then u + 1 else u) := by
      rw [Hid, HV]
      unfold uw
      dsimp only
      rw [hxk.out, hxn.out, hxd.out]
    have XL : Hid (xs.length ≤ 3000) := NX.out
    have UB2 : Hid (0 ≤ u ∧ u ≤ 3000) := by have := XL.out; rw [Hid]; omega
    clear UB
    rw [hxd.out]
    clear hi k0 k1 hcs hxb hxt hbl hnW hlen hnb HV hz
    refine wpIn_block ?_
    refine wpIn_seq ?_
    refine rin_lin (opsOf Try.f36 7) (by kernel_rfl) (by kernel_rfl) (fun ⟨_, _, h⟩ => h) ?_
    refine lin_now 0 (.pointer (some ⟨nb, 0, none⟩)) (some 19) (by kernel_rfl) (by kernel_rfl) (by kernel_rfl) ?_
    refine lin_now 1 (.int .i64 xk) (some 20) (by kernel_rfl) (by kernel_rfl) (exec_load_cell 3 (.tmp 19) (by kernel_rfl) (nb) 0 (by kernel_rfl) _ (KK0.out) _ Try.underlying3 rfl) ?_
    by_cases hk : xk = 1
    rotate_left
    · have r1 : decide (xk = 1) = false := decide_eq_false hk
      refine lin_now 2 (.bool (decide (xk = 1))) (some 21) (by kernel_rfl) (by kernel_rfl) (by kernel_rfl) ?_
      rw [r1]
      refine lin_now 3 (.bool false) (some 22) (by kernel_rfl) (by kernel_rfl) (by kernel_rfl) ?_
      refine lin_pass 4 (some 23) (by kernel_rfl) (by kernel_rfl) ?_
      refine lin_pass 5 (some 24) (by kernel_rfl) (by kernel_rfl) ?_
      refine lin_pass 6 (some 25) (by kernel_rfl) (by kernel_rfl) ?_
      refine lin_pass 7 (some 26) (by kernel_rfl) (by kernel_rfl) ?_
      refine lin_pass 8 (some 27) (by kernel_rfl) (by kernel_rfl) ?_
      refine lin_pass 9 (some 28) (by kernel_rfl) (by kernel_rfl) ?_
      refine lin_now 10 (.bool false) (some 29) (by kernel_rfl) (by kernel_rfl) (by kernel_rfl) ?_
      refine lin_done 11 (by kernel_rfl) ?_
      generalize hact : Act.put _ (some 29) _ = act
      simp only [Act.put, List.setIfInBounds_toArray, List.set_cons_succ, List.set_cons_zero] at hact
      subst hact
      refine then_normal ?_
      refine wpIn_cond_false (by kernel_rfl) ?_
      refine wpIn_skip ?_
      exact ⟨Keeps.refl G W, HZ.out, by rw [HV2.out, if_neg (fun h => hk h.1)]; exact HI.out⟩
    have r1 : decide (xk = 1) = true := decide_eq_true hk
    refine lin_now 2 (.bool (decide (xk = 1))) (some 21) (by kernel_rfl) (by kernel_rfl) (by kernel_rfl) ?_
    rw [r1]
    refine lin_now 3 (.bool true) (some 22) (by kernel_rfl) (by kernel_rfl) (by kernel_rfl) ?_
    refine lin_now 4 (.pointer (some ⟨nb, 1, none⟩)) (some 23) (by kernel_rfl) (by kernel_rfl) (by kernel_rfl) ?_
    refine lin_now 5 (.int .i64 xn) (some 24) (by kernel_rfl) (by kernel_rfl) (exec_load_cell 3 (.tmp 23) (by kernel_rfl) (nb) 1 (by kernel_rfl) _ (KK1.out) _ Try.underlying3 rfl) ?_
    refine lin_now 6 (.int .i64 xd) (some 25) (by kernel_rfl) (by kernel_rfl) (by kernel_rfl) ?_
    refine lin_now 7 (.int .i64 (IntKind.i64.wrap (xn - xd))) (some 26) (by kernel_rfl) (by kernel_rfl) (by kernel_rfl) ?_
    refine lin_now 8 (.int .i64 z) (some 27) (by kernel_rfl) (by kernel_rfl) (exec_load_cell 3 (.tmp 3) (by kernel_rfl) (q + 1) 0 (by kernel_rfl) _ (HZ.out.cell rfl) _ Try.underlying3 rfl) ?_
    obtain ⟨m, hm⟩ : ∃ y, Hid (IntKind.i64.wrap (xn - xd) = y) := ⟨_, rfl⟩
    rw [hm.out]
    rw [hm.out] at HV2
    by_cases hz2 : m = z
    · have r2 : decide (m = z) = true := decide_eq_true hz2
      refine lin_now 9 (.bool (decide (m = z))) (some 28) (by kernel_rfl) (by kernel_rfl) (by kernel_rfl) ?_
      rw [r2]
      refine lin_now 10 (.bool true) (some 29) (by kernel_rfl) (by kernel_rfl) (by kernel_rfl) ?_
      refine lin_done 11 (by kernel_rfl) ?_
      generalize hact : Act.put _ (some 29) _ = act
      simp only [Act.put, List.setIfInBounds_toArray, List.set_cons_succ, List.set_cons_zero] at hact
      subst hact
      refine then_normal ?_
      refine wpIn_cond_true (by kernel_rfl) ?_
      refine rin_lin (opsOf Try.f36 8) (by kernel_rfl) (by kernel_rfl) (fun ⟨_, _, h⟩ => h) ?_
      refine lin_now 0 (.int .i64 u) (some 30) (by kernel_rfl) (by kernel_rfl) (exec_load_cell 3 (.tmp 5) (by kernel_rfl) (q3) 0 (by kernel_rfl) _ (HI.out.cell rfl) _ Try.underlying3 rfl) ?_
      refine lin_now 1 (.int .i64 (IntKind.i64.wrap (u + 1))) (some 31) (by kernel_rfl) (by kernel_rfl) (by kernel_rfl) ?_
      rw [show IntKind.i64.wrap (u + 1) = u + 1 from IntWalk.i64_in _ (by have := UB2.out; omega)]
      refine lin_put1 2 3 (.tmp 5) (.tmp 31) (q3) _ (.int .i64 u) (.int .i64 (u + 1)) (by kernel_rfl) (by kernel_rfl) (by kernel_rfl) (by kernel_rfl) (by kernel_rfl) HI.out (by kernel_rfl) (by rfl) (by rfl) ?_
      intro w8 bw8 uw8
      refine lin_done 3 (by kernel_rfl) ?_
      generalize hact : Act.put _ none _ = act
      simp only [Act.put, List.setIfInBounds_toArray, List.set_cons_succ, List.set_cons_zero] at hact
      subst hact
      exact ⟨(Keeps.refl G W).upd uw8 (.inl M3.out), uw8.blk HZ.out (by have := QL.out; omega), by rw [HV2.out, if_pos ⟨hk, hz2⟩]; exact bw8⟩
    · have r2 : decide (m = z) = false := decide_eq_false hz2
      refine lin_now 9 (.bool (decide (m = z))) (some 28) (by kernel_rfl) (by kernel_rfl) (by kernel_rfl) ?_
      rw [r2]
      refine lin_now 10 (.bool false) (some 29) (by kernel_rfl) (by kernel_rfl) (by kernel_rfl) ?_
      refine lin_done 11 (by kernel_rfl) ?_
      generalize hact : Act.put _ (some 29) _ = act
      simp only [Act.put, List.setIfInBounds_toArray, List.set_cons_succ, List.set_cons_zero] at hact
      subst hact
      refine then_normal ?_
      refine wpIn_cond_false (by kernel_rfl) ?_
      refine wpIn_skip ?_
      exact ⟨Keeps.refl G W, HZ.out, by rw [HV2.out, if_neg (fun h => hz2 h.2)]; exact HI.out⟩
  · rintro D W ⟨hz, hi⟩ hD hK hb
    rw [XS.out, uses_of (show ¬ z < 0 by have := HZ0.out; omega) HR.out] at hi
    have HI := Lib.hid hi
    have HD : Hid (q3 + 1 ≤ D) := by have := L5.out; rw [Hid]; omega
    have HK := Lib.hid hK
    have HB := Lib.hid hb
    clear hi hD hK hb
    obtain ⟨rv, hrv⟩ : ∃ y, Hid (usesP z t = y) := ⟨_, rfl⟩
    rw [hrv.out] at HI
    dsimp only [Act.marked]
    go_upto_region 9 with (fail)
    refine lin_begin (opsOf Try.f36 9) (by kernel_rfl) ?_
    refine lin_now 0 (.int .i64 rv) (some 32) (by kernel_rfl) (by kernel_rfl) (exec_load_cell 3 (.tmp 5) (by kernel_rfl) (q3) 0 (by kernel_rfl) _ (HI.out.cell rfl) _ Try.underlying3 rfl) ?_
    refine lin_now 1 (.int .i64 rv) (some 4) (by kernel_rfl) (by kernel_rfl) (by kernel_rfl) ?_
    refine lin_done 2 (by kernel_rfl) ?_
    generalize hact : Act.put _ (some 4) _ = act
    simp only [Act.put, List.setIfInBounds_toArray, List.set_cons_succ, List.set_cons_zero] at hact
    subst hact
    go_wp2
    refine ret_marks rfl HK.out (results_tmp rfl _ _ _) ⟨by rw [hrv.out]; rfl, below_put HB.out (by have := HD.out; have := QL.out; omega) (Array.getElem?_eq_some_iff.1 HK.out).1⟩
  · rintro D c pre W hp h hD hK hb
    exact h.elim
end Go.Proofs.Ytndbpmkglddjjaa
