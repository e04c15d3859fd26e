/- Package move: need, valid, takesLocals, isBinder; built, which a deferred recover ends. -/
import Derived.Test.YtndbpmkglddjjaaQGenT
import Derived.Test.YtndbpmkglddjjaaQTrmM
import Derived.Test.YtndbpmkglddjjaaQTrmR
import Derived.Test.YtndbpmkglddjjaaQTrmE
import Derived.WalkLawsBesides
namespace Go.Proofs.Ytndbpmkglddjjaa
open Go Go.RowKit
set_option maxRecDepth 100000
/-- Ended by a panic with one of the errors. -/
def fell (k : Int) : Ending := .panicked [{ v := .iface 74 (.int .i64 k), recovered := false }]
def Fell (e : Ending) : Prop := ∃ k : Int, e = fell k
theorem need_yes (k : Int) (w : World) : Calls Try.prog 51 #[.bool true, .int .i64 k] w fun e w' => e = .returned (.tuple #[]) ∧ w' = w := by
  go_enter Try.func51, Try.ntmps51
  go_wp2
  go_end0
  exact ⟨rfl, rfl⟩
theorem need_no (k : Int) (w : World) : Calls Try.prog 51 #[.bool false, .int .i64 k] w fun e w' => e = fell k ∧ w' = w := by
  go_enter Try.func51, Try.ntmps51
  go_wp2
  exact ⟨rfl, rfl, rfl⟩
theorem takes_walk (k : Int) (w : World) : Calls Try.prog 83 #[.int .i64 k] w fun e w' => e = .returned (.bool (decide (k = 6 ∨ k = 7))) ∧ w' = w := by
  by_cases h6 : k = 6 <;> by_cases h7 : k = 7 <;> first | omega |
    (go_enter Try.func83, Try.ntmps83
     go_wp2
     go_ret
     exact ⟨by simp [h6, h7], rfl⟩)
theorem mbinder_walk (k : Int) (w : World) : Calls Try.prog 111 #[.int .i64 k] w fun e w' => e = .returned (.bool (decide (k = 6 ∨ k = 7 ∨ k = 8))) ∧ w' = w := by
  have h := takes_walk k w
  obtain ⟨b, hb⟩ : ∃ b, Hid (decide (k = 6 ∨ k = 7) = b) := ⟨_, rfl⟩
  rw [hb.out] at h
  have OUT : Hid (decide (k = 6 ∨ k = 7 ∨ k = 8) = (b || decide (k = 8))) := by rw [Hid, ← hb.out]; by_cases h6 : k = 6 <;> by_cases h7 : k = 7 <;> by_cases h8 : k = 8 <;> simp [h6, h7, h8]
  rw [OUT.out]
  go_enter Try.func111, Try.ntmps111
  go_upto_region 0 with (fail)
  refine lbeg (opsOf Try.f111 0) ?_
  refine lnow 0 (.bool false) (some 2) ?_
  refine ldn 1 ?_
  generalize hact : Act.put _ (some 2) _ = act
  simp only [Act.put, sA, sC, sZ] at hact
  subst hact
  cases b
  · skip
    go_upto_region 1 with (fail)
    refine lbeg (opsOf Try.f111 1) ?_
    refine lnow 0 (.int .i64 k) (some 3) ?_
    refine lcal 1 83 #[.int .i64 k] (some 4) _ (h) ?_
    rintro e w' ⟨rfl, hw⟩
    obtain rfl := hw.symm
    refine ⟨_, rfl, ?_⟩
    refine lnow 2 (.bool false) (some 5) ?_
    refine lnow 3 (.int .i64 k) (some 6) ?_
    refine lnow 4 (.bool (decide (k = 8))) (some 7) ?_
    refine lnow 5 (.bool (decide (k = 8))) (some 8) ?_
    refine lnow 6 (.bool (decide (k = 8))) (some 2) ?_
    refine ldn 7 ?_
    generalize hact : Act.put _ (some 2) _ = act
    simp only [Act.put, sA, sC, sZ] at hact
    subst hact
    go_wp2
    go_ret
    exact ⟨by simp, rfl⟩
  go_upto_region 1 with (fail)
  refine lbeg (opsOf Try.f111 1) ?_
  refine lnow 0 (.int .i64 k) (some 3) ?_
  refine lcal 1 83 #[.int .i64 k] (some 4) _ (h) ?_
  rintro e w' ⟨rfl, hw⟩
  obtain rfl := hw.symm
  refine ⟨_, rfl, ?_⟩
  refine lnow 2 (.bool true) (some 5) ?_
  refine lpas 3 (some 6) ?_
  refine lpas 4 (some 7) ?_
  refine lnow 5 (.bool true) (some 8) ?_
  refine lnow 6 (.bool true) (some 2) ?_
  refine ldn 7 ?_
  generalize hact : Act.put _ (some 2) _ = act
  simp only [Act.put, sA, sC, sZ] at hact
  subst hact
  go_wp2
  go_ret
  exact ⟨by simp, rfl⟩
set_option maxHeartbeats 4000000 in
theorem valid_walk {F : List Nat} (t : Tm) (cs : List Value) (w : World) (ht : TmAt F w t cs) (hs : SmT t) (hn : nodesT t ≤ 100000000000) : Calls Try.prog 52 #[.agg cs.toArray] w fun e w' => (rightP 4 1099511627776 t = true ∧ e = .returned (.agg cs.toArray) ∧ Below w.heap.size w w') ∨ (rightP 4 1099511627776 t = false ∧ Fell e ∧ Below w.heap.size w w') := by
  have C5 := Lib.hid ht.len
  have C1 := Lib.hid ht.one
  have HT := Lib.hid ht
  obtain ⟨q, hq⟩ : ∃ q, Hid (w.heap.size = q) := ⟨_, rfl⟩
  obtain ⟨b, hb⟩ : ∃ b, Hid (rightP 4 1099511627776 t = b) := ⟨_, rfl⟩
  rw [hb.out]
  clear ht
  go_enter Try.func52, Try.ntmps52
  go_upto_region 0 with (fail)
  refine lbeg (opsOf Try.f52 0) ?_
  refine lbox 0 25 (.tmp 0) (cs) (q) (some 1) hq ?_
  intro w1 bw1 bew1 hsw1
  refine lall 1 25 z5T (q + 1) (some 2) hsw1 ?_
  intro w2 bw2 bew2 hsw2
  refine ldn 2 ?_
  generalize hact : Act.put _ (some 2) _ = act
  simp only [Act.put, sA, sC, sZ] at hact
  subst hact
  have BQ : Hid (Blk w2 q 25 cs) := bw1.below bew2 (by omega)
  have BR : Hid (Blk w2 (q + 1) 25 z5T) := bw2
  have BE : Hid (Below q w w2) := bew1.trans (bew2.mono (by omega))
  have S2 : Hid (w2.heap.size = q + 2) := hsw2
  have RW := right_walk8 t cs 4 1099511627776 w2 (HT.out.step (Step.of_below BE.out (by have := hq.out; omega))) hs hn
  rw [hb.out] at RW
  clear bw1 bew1 hsw1 bw2 bew2 hsw2
  cases b
  · skip
    go_upto_region 1 with (fail)
    refine lbeg (opsOf Try.f52 1) ?_
    refine lrl 0 (cs) (some 3) 25 1 (q) 0 (BQ.out).whole Try.underlying25 (t5Size C5.out) ?_
    refine lcal 1 30 #[.agg cs.toArray, .int .i64 4, .int .i64 1099511627776] (some 4) _ (RW) ?_
    rintro e w3 ⟨rfl, hb3⟩
    refine ⟨_, rfl, ?_⟩
    have BE3 : Hid (Below q w w3) := BE.out.trans (hb3.mono (by have := S2.out; omega))
    refine lin_callP 2 51 #[.bool false, .int .i64 10] (some 5) _ (by kernel_rfl) (by kernel_rfl) (by kernel_rfl) (need_no 10 w3) ?_
    rintro e w4 ⟨rfl, rfl⟩
    exact .inr ⟨_, rfl, rfl, .inr ⟨rfl, ⟨_, rfl⟩, by rw [hq.out]; exact BE3.out⟩⟩
  go_upto_region 1 with (fail)
  refine lbeg (opsOf Try.f52 1) ?_
  refine lrl 0 (cs) (some 3) 25 1 (q) 0 (BQ.out).whole Try.underlying25 (t5Size C5.out) ?_
  refine lcal 1 30 #[.agg cs.toArray, .int .i64 4, .int .i64 1099511627776] (some 4) _ (RW) ?_
  rintro e w3 ⟨rfl, hb3⟩
  refine ⟨_, rfl, ?_⟩
  have BE3 : Hid (Below q w w3) := BE.out.trans (hb3.mono (by have := S2.out; omega))
  have BQ3 : Hid (Blk w3 q 25 cs) := BQ.out.below hb3 BQ.out.lt
  have BR3 : Hid (Blk w3 (q + 1) 25 z5T) := BR.out.below hb3 BR.out.lt
  have S3 : Hid (q + 2 ≤ w3.heap.size) := by have := hb3.size; have := S2.out; rw [Hid]; omega
  clear hb3
  refine lcal 2 51 #[.bool true, .int .i64 10] (some 5) _ (need_yes 10 w3) ?_
  rintro e w4 ⟨rfl, rfl⟩
  refine ⟨_, rfl, ?_⟩
  refine ldn 3 ?_
  generalize hact : Act.put _ (some 5) _ = act
  simp only [Act.put, sA, sC, sZ] at hact
  subst hact
  go_upto_region 2 with (fail)
  refine lbeg (opsOf Try.f52 2) ?_
  refine lrl 0 (cs) (some 6) 25 1 (q) 0 (BQ3.out).whole Try.underlying25 (t5Size C5.out) ?_
  refine lin_put 1 25 (.tmp 2) (.tmp 6) (q + 1) _ (z5T) (cs) (by kernel_rfl) (by kernel_rfl) (by kernel_rfl) (by kernel_rfl) (by kernel_rfl) BR3.out (C5.out.trans (rfl : z5T.length = 5).symm) (t5Size C5.out) (by simpa using C1.out) ?_
  intro w5 bw5 uw5
  refine ldn 2 ?_
  generalize hact : Act.put _ none _ = act
  simp only [Act.put, sA, sC, sZ] at hact
  subst hact
  go_wp2
  refine bodyPost_ret (v := .agg cs.toArray) ?_ rfl ⟨rfl, by rw [hq.out]; exact uw5.below BE3.out (by omega) (by have := S3.out; omega)⟩
  exact results_cell_row (g := q + 1) (t := 25) (cs := cs.toArray) (fr := (0, 0)) Try.results52 _ _ _ rfl bw5 Try.underlying25 rfl (t5Size C5.out)
theorem built_catch (k : Int) (older : List PanicEntry) (w : World) : CallsD Try.prog 87 #[] (.panicking ({ v := .iface 74 (.int .i64 k), recovered := false } :: older)) w fun e u' w' => e = .returned (.tuple #[]) ∧ u' = .panicking ({ v := .iface 74 (.int .i64 k), recovered := true } :: older) ∧ w' = w := by
  refine callsD_of_wpS Try.func87 rfl fun c₀ cs hu => ?_
  apply wpS_seq
  apply wpS_region
  simp [wpOpsS, go_sem, recoverD, hu, Try.ntmps87, Exit.thenS]
  have hta : ∀ w, (Instr.typeAssert (.iface 74 (.int .i64 k)) 20 74 true).run Try.prog w = .ok (.tuple #[.int .i64 k, .bool true]) w := fun w => by kernel_rfl
  refine wpS_of_wp ?_
  go_wp2
  simp [bodyPostS, results, Try.results87]
theorem built_idle (w : World) : CallsD Try.prog 87 #[] .returning w fun e u' w' => e = .returned (.tuple #[]) ∧ u' = .returning ∧ w' = w := by
  refine callsD_of_wpS Try.func87 rfl fun c₀ cs hu => ?_
  apply wpS_seq
  apply wpS_region
  simp [wpOpsS, go_sem, recoverD, hu, Try.ntmps87, Exit.thenS]
  refine wpS_of_wp ?_
  go_wp2
  cases c₀
  simp_all [bodyPostS, results, Try.results87]
theorem builto_catch (k : Int) (older : List PanicEntry) (w : World) : CallsD Try.prog 109 #[] (.panicking ({ v := .iface 74 (.int .i64 k), recovered := false } :: older)) w fun e u' w' => e = .returned (.tuple #[]) ∧ u' = .panicking ({ v := .iface 74 (.int .i64 k), recovered := true } :: older) ∧ w' = w := by
  refine callsD_of_wpS Try.func109 rfl fun c₀ cs hu => ?_
  apply wpS_seq
  apply wpS_region
  simp [wpOpsS, go_sem, recoverD, hu, Try.ntmps109, Exit.thenS]
  have hta : ∀ w, (Instr.typeAssert (.iface 74 (.int .i64 k)) 20 74 true).run Try.prog w = .ok (.tuple #[.int .i64 k, .bool true]) w := fun w => by kernel_rfl
  refine wpS_of_wp ?_
  go_wp2
  simp [bodyPostS, results, Try.results109]
theorem builto_idle (w : World) : CallsD Try.prog 109 #[] .returning w fun e u' w' => e = .returned (.tuple #[]) ∧ u' = .returning ∧ w' = w := by
  refine callsD_of_wpS Try.func109 rfl fun c₀ cs hu => ?_
  apply wpS_seq
  apply wpS_region
  simp [wpOpsS, go_sem, recoverD, hu, Try.ntmps109, Exit.thenS]
  refine wpS_of_wp ?_
  go_wp2
  cases c₀
  simp_all [bodyPostS, results, Try.results109]
def z6O : List Value := [.slice none 0 0, .int .i64 0, .int .i64 0, strT [], .slice none 0 0, .slice none 0 0]
set_option maxHeartbeats 4000000 in
theorem built_cells (gf : FuncId) (lb : Array Value) (w : World) (hgf : ∀ args w, (callFunc gf args).run Try.prog w = .ok (.enter gf args) w) (Ok : List Value → World → World → Prop) (yes : Bool)
    (hc : ∀ w1, Below w.heap.size w w1 → Calls Try.prog gf (#[] ++ lb) w1 fun e w2 => Below w1.heap.size w1 w2 ∧ ((yes = true ∧ ∃ cs, e = .returned (.agg cs.toArray) ∧ cs.length = 5 ∧ (∀ u ∈ cs, u.oneCell' = true) ∧ Ok cs w1 w2) ∨ (yes = false ∧ Fell e))) :
    Calls Try.prog 49 #[.func (.func gf) #[] lb] w fun e w' => Below w.heap.size w w' ∧ ((yes = true ∧ ∃ cs w1 w2, e = .returned (.tuple #[.agg cs.toArray, .bool true]) ∧ Below w.heap.size w w1 ∧ w.heap.size < w1.heap.size ∧ Ok cs w1 w2 ∧ Upd w.heap.size w2 w') ∨ (yes = false ∧ e = .returned (.tuple #[.agg (z5T).toArray, .bool false]))) := by
  obtain ⟨q, hq⟩ : ∃ q, Hid (w.heap.size = q) := ⟨_, rfl⟩
  rw [hq.out] at hc ⊢
  have HC := Lib.hid hc
  clear hc
  go_enter_defers Try.func49, Try.ntmps49
  go_upto_region 0 with (fail)
  refine lbeg (opsOf Try.f49 0) ?_
  refine lall 0 25 z5T q (some 2) hq ?_
  intro w1 bw1 bew1 hsw1
  refine lnow 1 (.bool false) (some 3) ?_
  refine ldn 2 ?_
  generalize hact : Act.put _ (some 3) _ = act
  simp only [Act.put, sA, sC, sZ] at hact
  subst hact
  have B1 := Lib.hid bw1
  have BE := Lib.hid bew1
  have S1 : Hid (w1.heap.size = q + 1) := hsw1
  clear bw1 bew1 hsw1
  go_upto_region 2 with (fail)
  refine lbeg (opsOf Try.f49 2) ?_
  refine lnow 0 (.func (.func gf) #[] lb) (some 4) ?_
  refine lin_callP 1 gf (#[] ++ lb) (some 5) _ (by kernel_rfl) (by kernel_rfl) ((congrArg (fun z : Sem Next => z.run Try.prog w1) (show execOp _ _ = callFunc gf (#[] ++ lb) by kernel_rfl)).trans (hgf _ _)) (HC.out w1 BE.out) ?_
  rintro e w2 ⟨hb2, ⟨hy, cs, rfl, h5, h1, hok⟩ | ⟨hy, k, rfl⟩⟩
  rotate_left
  · subst hy
    refine .inr ⟨_, rfl, ?_⟩
    have B2 : Hid (Blk w2 q 25 z5T) := B1.out.below hb2 B1.out.lt
    have BE2 : Hid (Below q w w2) := BE.out.trans (hb2.mono (by have := S1.out; omega))
    refine leaves_cons (f := 87) (args := #[]) (by simp) (by kernel_rfl) ?_
    refine (built_catch k [] w2).mono ?_
    rintro e u' w3 ⟨rfl, rfl, rfl⟩
    refine ⟨.tuple #[.agg (z5T).toArray, .bool false], ?_, BE2.out, .inr ⟨rfl, rfl⟩⟩
    exact results_cell_tmp Try.results49 _ _ q 25 (z5T).toArray (0, 0) _ _ rfl rfl B2.out Try.underlying25 rfl (by kernel_rfl)
  subst hy
  refine .inl ⟨_, rfl, ?_⟩
  have B2 : Hid (Blk w2 q 25 z5T) := B1.out.below hb2 B1.out.lt
  have BE2 : Hid (Below q w w2) := BE.out.trans (hb2.mono (by have := S1.out; omega))
  have S2 : Hid (q + 1 ≤ w2.heap.size) := by have := hb2.size; have := S1.out; rw [Hid]; omega
  refine lin_put 2 25 (.tmp 2) (.tmp 5) (q) _ (z5T) (cs) (by kernel_rfl) (by kernel_rfl) (by kernel_rfl) (by kernel_rfl) (by kernel_rfl) B2.out (h5.trans (by kernel_rfl)) (by rw [h5]; kernel_rfl) (by simpa using h1) ?_
  intro w3 bw3 uw3
  refine lnow 3 (.bool true) (some 3) ?_
  refine ldn 4 ?_
  generalize hact : Act.put _ (some 3) _ = act
  simp only [Act.put, sA, sC, sZ] at hact
  subst hact
  go_wp2
  refine leaves_cons (f := 87) (args := #[]) (by simp) (by kernel_rfl) ?_
  refine (built_idle w3).mono ?_
  rintro e u' w4 ⟨rfl, rfl, rfl⟩
  refine ⟨.tuple #[.agg cs.toArray, .bool true], ?_, uw3.below BE2.out (Nat.le_refl _) (by have := S2.out; have := BE2.out.size; have := hq.out; omega), ⟨cs, rfl, w1, BE.out, by have := S1.out; omega, w2, hok, uw3⟩⟩
  exact results_cell_tmp Try.results49 _ _ q 25 cs.toArray (0, 0) _ _ rfl rfl bw3 Try.underlying25 rfl (by rw [List.size_toArray, h5]; kernel_rfl)
set_option maxHeartbeats 4000000 in
theorem builto_cells (gf : FuncId) (lb : Array Value) (w : World) (hgf : ∀ args w, (callFunc gf args).run Try.prog w = .ok (.enter gf args) w) (Ok : List Value → World → World → Prop) (yes : Bool)
    (hc : ∀ w1, Below w.heap.size w w1 → Calls Try.prog gf (#[] ++ lb) w1 fun e w2 => Below w1.heap.size w1 w2 ∧ ((yes = true ∧ ∃ cs, e = .returned (.agg cs.toArray) ∧ cs.length = 6 ∧ (∀ u ∈ cs, u.oneCell' = true) ∧ Ok cs w1 w2) ∨ (yes = false ∧ Fell e))) :
    Calls Try.prog 81 #[.func (.func gf) #[] lb] w fun e w' => Below w.heap.size w w' ∧ ((yes = true ∧ ∃ cs w1 w2, e = .returned (.tuple #[.agg cs.toArray, .bool true]) ∧ Below w.heap.size w w1 ∧ w.heap.size < w1.heap.size ∧ Ok cs w1 w2 ∧ Upd w.heap.size w2 w') ∨ (yes = false ∧ e = .returned (.tuple #[.agg (z6O).toArray, .bool false]))) := by
  obtain ⟨q, hq⟩ : ∃ q, Hid (w.heap.size = q) := ⟨_, rfl⟩
  rw [hq.out] at hc ⊢
  have HC := Lib.hid hc
  clear hc
  go_enter_defers Try.func81, Try.ntmps81
  go_upto_region 0 with (fail)
  refine lbeg (opsOf Try.f81 0) ?_
  refine lall 0 97 z6O q (some 2) hq ?_
  intro w1 bw1 bew1 hsw1
  refine lnow 1 (.bool false) (some 3) ?_
  refine ldn 2 ?_
  generalize hact : Act.put _ (some 3) _ = act
  simp only [Act.put, sA, sC, sZ] at hact
  subst hact
  have B1 := Lib.hid bw1
  have BE := Lib.hid bew1
  have S1 : Hid (w1.heap.size = q + 1) := hsw1
  clear bw1 bew1 hsw1
  go_upto_region 2 with (fail)
  refine lbeg (opsOf Try.f81 2) ?_
  refine lnow 0 (.func (.func gf) #[] lb) (some 4) ?_
  refine lin_callP 1 gf (#[] ++ lb) (some 5) _ (by kernel_rfl) (by kernel_rfl) ((congrArg (fun z : Sem Next => z.run Try.prog w1) (show execOp _ _ = callFunc gf (#[] ++ lb) by kernel_rfl)).trans (hgf _ _)) (HC.out w1 BE.out) ?_
  rintro e w2 ⟨hb2, ⟨hy, cs, rfl, h5, h1, hok⟩ | ⟨hy, k, rfl⟩⟩
  rotate_left
  · subst hy
    refine .inr ⟨_, rfl, ?_⟩
    have B2 : Hid (Blk w2 q 97 z6O) := B1.out.below hb2 B1.out.lt
    have BE2 : Hid (Below q w w2) := BE.out.trans (hb2.mono (by have := S1.out; omega))
    refine leaves_cons (f := 109) (args := #[]) (by simp) (by kernel_rfl) ?_
    refine (builto_catch k [] w2).mono ?_
    rintro e u' w3 ⟨rfl, rfl, rfl⟩
    refine ⟨.tuple #[.agg (z6O).toArray, .bool false], ?_, BE2.out, .inr ⟨rfl, rfl⟩⟩
    exact results_cell_tmp Try.results81 _ _ q 97 (z6O).toArray (0, 0) _ _ rfl rfl B2.out Try.underlying97 rfl (by kernel_rfl)
  subst hy
  refine .inl ⟨_, rfl, ?_⟩
  have B2 : Hid (Blk w2 q 97 z6O) := B1.out.below hb2 B1.out.lt
  have BE2 : Hid (Below q w w2) := BE.out.trans (hb2.mono (by have := S1.out; omega))
  have S2 : Hid (q + 1 ≤ w2.heap.size) := by have := hb2.size; have := S1.out; rw [Hid]; omega
  refine lin_put 2 97 (.tmp 2) (.tmp 5) (q) _ (z6O) (cs) (by kernel_rfl) (by kernel_rfl) (by kernel_rfl) (by kernel_rfl) (by kernel_rfl) B2.out (h5.trans (by kernel_rfl)) (by rw [h5]; kernel_rfl) (by simpa using h1) ?_
  intro w3 bw3 uw3
  refine lnow 3 (.bool true) (some 3) ?_
  refine ldn 4 ?_
  generalize hact : Act.put _ (some 3) _ = act
  simp only [Act.put, sA, sC, sZ] at hact
  subst hact
  go_wp2
  refine leaves_cons (f := 109) (args := #[]) (by simp) (by kernel_rfl) ?_
  refine (builto_idle w3).mono ?_
  rintro e u' w4 ⟨rfl, rfl, rfl⟩
  refine ⟨.tuple #[.agg cs.toArray, .bool true], ?_, uw3.below BE2.out (Nat.le_refl _) (by have := S2.out; have := BE2.out.size; have := hq.out; omega), ⟨cs, rfl, w1, BE.out, by have := S1.out; omega, w2, hok, uw3⟩⟩
  exact results_cell_tmp Try.results81 _ _ q 97 cs.toArray (0, 0) _ _ rfl rfl bw3 Try.underlying97 rfl (by rw [List.size_toArray, h5]; kernel_rfl)
def zT : Tm := .mk 0 0 [] [] []
theorem z5T_at (F : List Nat) (w : World) : TmAt F w zT z5T := TmAt.mk (t := zT) (LvsOff.nil _ _ _ _) (TmsAt.nil _ _ _ _)
/-- What a closure builds: a term, or it fell. -/
def Builds (r : Option Tm) (w : World) (e : Ending) (w' : World) : Prop := Below w.heap.size w w' ∧ match r with
  | some t => ∃ cs, e = .returned (.agg cs.toArray) ∧ TmAt (List.range w.heap.size) w' t cs
  | none => Fell e
theorem built_walk (gf : FuncId) (lb : Array Value) (w : World) (hgf : ∀ args w, (callFunc gf args).run Try.prog w = .ok (.enter gf args) w) (r : Option Tm) (hc : ∀ w1, Below w.heap.size w w1 → Calls Try.prog gf (#[] ++ lb) w1 (Builds r w1)) :
    Calls Try.prog 49 #[.func (.func gf) #[] lb] w fun e w' => ∃ cs, e = .returned (.tuple #[.agg cs.toArray, .bool r.isSome]) ∧ TmAt (List.range w.heap.size) w' (r.getD zT) cs ∧ Below w.heap.size w w' := by
  refine (built_cells gf lb w hgf (fun cs w1 w2 => TmAt (List.range w1.heap.size) w2 (r.getD zT) cs) r.isSome (fun w1 h1 => (hc w1 h1).mono ?_)).mono ?_
  · rintro e w2 ⟨hb, hr⟩
    cases r with
    | none => exact ⟨hb, .inr ⟨rfl, hr⟩⟩
    | some t =>
      obtain ⟨cs, he, ht⟩ := hr
      exact ⟨hb, .inl ⟨rfl, cs, he, ht.len, ht.one, ht⟩⟩
  · rintro e w' ⟨hb, ⟨hy, cs, w1, w2, rfl, h1, h2, h3, h4⟩ | ⟨hy, rfl⟩⟩
    · exact ⟨cs, by rw [hy], (TmAt.step (Step.of_upd h4 (List.mem_range.2 h2)) _ _ h3).range (Nat.le_of_lt h2), hb⟩
    · refine ⟨z5T, by rw [hy], ?_, hb⟩
      cases r with
      | none => exact z5T_at _ _
      | some t => cases hy
end Go.Proofs.Ytndbpmkglddjjaa
