/- What a node of a kind has: package term's shapeOf and fits. -/
import Derived.Test.YtmceocgddaaohaaGreatDoorQGenT
import Derived.Test.YtmceocgddaaohaaGreatDoorQTrmW
import Derived.Test.YtmceocgddaaohaaGreatDoorQTrmB
namespace Go.Proofs.YtmceocgddaaohaaGreatDoor
open Go Go.RowKit
set_option maxRecDepth 100000
structure Shp where
 below : Int
 named : Bool
 fewest : Int
 most : Int
 args : Int
def Shp.cs (s : Shp) : List Value := [.int .i64 s.below, .bool s.named, .int .i64 s.fewest, .int .i64 s.most, .int .i64 s.args]
def shapeT (k v : Int) : Shp :=
 if k = 1 then ⟨v, false, 0, 0, 0⟩ else if k = 2 then ⟨1, false, 0, 0, 0⟩ else if k = 3 then ⟨1, false, 1, 1, 0⟩ else if k = 4 then ⟨1, true, 0, 4, 0⟩ else if k = 5 ∨ k = 6 ∨ k = 7 then ⟨1, false, 0, 0, 2⟩ else if k = 8 then ⟨1, false, 0, 0, 3⟩ else if k = 9 then ⟨32, true, 0, 0, 1⟩ else ⟨0, false, 0, 0, 0⟩
theorem sizeShp : (Tryz.prog.info? 135).map (·.size) = some 5 := by kernel_rfl
def z5S : List Value := [.int .i64 0, .bool false, .int .i64 0, .int .i64 0, .int .i64 0]
set_option maxHeartbeats 4000000 in
theorem shape_walk (k v : Int) (w : World) : Calls Tryz.prog 75 #[.int .i64 k, .int .i64 v] w fun e w' => e = .returned (.agg (shapeT k v).cs.toArray) ∧ Below w.heap.size w w' := by
 obtain ⟨q, hq⟩ : ∃ q, Hid (w.heap.size = q) := ⟨_, rfl⟩
 rw [hq.out]
 by_cases h1 : k = 1
 ·subst h1
  go_enter Tryz.func75, Tryz.ntmps75
  go_upto_region 0 with (fail)
  refine lbeg (opsOf Tryz.f75 0) ?_
  refine lall 0 135 z5S q (some 4) hq ?_
  intro w1 bw1 bew1 hsw1
  refine ldn 1 ?_
  generalize hact : Act.put _ (some 4) _ = act
  simp only [Act.put, sA, sC, sZ] at hact
  subst hact
  go_upto_region 3 with (fail)
  refine lbeg (opsOf Tryz.f75 3) ?_
  refine lnow 0 (.int .i64 v) (some 8) ?_
  refine lnow 1 (.agg ([.int .i64 v, .bool false, .int .i64 0, .int .i64 0, .int .i64 0] : List Value).toArray) (some 9) ?_
  refine lput 2 135 (.tmp 4) (.tmp 9) q _ z5S [.int .i64 v, .bool false, .int .i64 0, .int .i64 0, .int .i64 0] bw1 rfl sizeShp (by kernel_rfl) ?_
  intro w2 bw2 uw2
  refine ldn 3 ?_
  generalize hact : Act.put _ none _ = act
  simp only [Act.put, sA, sC, sZ] at hact
  subst hact
  go_wp2
  refine bodyPost_ret (v := .agg ([.int .i64 v, .bool false, .int .i64 0, .int .i64 0, .int .i64 0] : List Value).toArray) ?_ rfl ⟨by simp [shapeT, Shp.cs], uw2.below bew1 (Nat.le_refl _) (by have := bew1.size; have := hq.out; omega)⟩
  exact results_cell_row (g := q) (t := 135) (cs := ([.int .i64 v, .bool false, .int .i64 0, .int .i64 0, .int .i64 0] : List Value).toArray) (fr := (0, 0)) Tryz.results75 _ _ _ rfl bw2 Tryz.underlying135 rfl sizeShp
 by_cases h2 : k = 2
 ·subst h2
  go_enter Tryz.func75, Tryz.ntmps75
  go_upto_region 0 with (fail)
  refine lbeg (opsOf Tryz.f75 0) ?_
  refine lall 0 135 z5S q (some 4) hq ?_
  intro w1 bw1 bew1 hsw1
  refine ldn 1 ?_
  generalize hact : Act.put _ (some 4) _ = act
  simp only [Act.put, sA, sC, sZ] at hact
  subst hact
  go_upto_region 5 with (fail)
  refine lbeg (opsOf Tryz.f75 5) ?_
  refine lnow 0 (.agg ([.int .i64 (1), .bool false, .int .i64 0, .int .i64 0, .int .i64 0] : List Value).toArray) (some 12) ?_
  refine lput 1 135 (.tmp 4) (.tmp 12) q _ z5S [.int .i64 (1), .bool false, .int .i64 0, .int .i64 0, .int .i64 0] bw1 rfl sizeShp (by kernel_rfl) ?_
  intro w2 bw2 uw2
  refine ldn 2 ?_
  generalize hact : Act.put _ none _ = act
  simp only [Act.put, sA, sC, sZ] at hact
  subst hact
  go_wp2
  refine bodyPost_ret (v := .agg ([.int .i64 (1), .bool false, .int .i64 0, .int .i64 0, .int .i64 0] : List Value).toArray) ?_ rfl ⟨by simp [shapeT, Shp.cs], uw2.below bew1 (Nat.le_refl _) (by have := bew1.size; have := hq.out; omega)⟩
  exact results_cell_row (g := q) (t := 135) (cs := ([.int .i64 (1), .bool false, .int .i64 0, .int .i64 0, .int .i64 0] : List Value).toArray) (fr := (0, 0)) Tryz.results75 _ _ _ rfl bw2 Tryz.underlying135 rfl sizeShp
 by_cases h3 : k = 3
 ·subst h3
  go_enter Tryz.func75, Tryz.ntmps75
  go_upto_region 0 with (fail)
  refine lbeg (opsOf Tryz.f75 0) ?_
  refine lall 0 135 z5S q (some 4) hq ?_
  intro w1 bw1 bew1 hsw1
  refine ldn 1 ?_
  generalize hact : Act.put _ (some 4) _ = act
  simp only [Act.put, sA, sC, sZ] at hact
  subst hact
  go_upto_region 7 with (fail)
  refine lbeg (opsOf Tryz.f75 7) ?_
  refine lnow 0 (.agg ([.int .i64 (1), .bool false, .int .i64 1, .int .i64 1, .int .i64 0] : List Value).toArray) (some 15) ?_
  refine lput 1 135 (.tmp 4) (.tmp 15) q _ z5S [.int .i64 (1), .bool false, .int .i64 1, .int .i64 1, .int .i64 0] bw1 rfl sizeShp (by kernel_rfl) ?_
  intro w2 bw2 uw2
  refine ldn 2 ?_
  generalize hact : Act.put _ none _ = act
  simp only [Act.put, sA, sC, sZ] at hact
  subst hact
  go_wp2
  refine bodyPost_ret (v := .agg ([.int .i64 (1), .bool false, .int .i64 1, .int .i64 1, .int .i64 0] : List Value).toArray) ?_ rfl ⟨by simp [shapeT, Shp.cs], uw2.below bew1 (Nat.le_refl _) (by have := bew1.size; have := hq.out; omega)⟩
  exact results_cell_row (g := q) (t := 135) (cs := ([.int .i64 (1), .bool false, .int .i64 1, .int .i64 1, .int .i64 0] : List Value).toArray) (fr := (0, 0)) Tryz.results75 _ _ _ rfl bw2 Tryz.underlying135 rfl sizeShp
 by_cases h4 : k = 4
 ·subst h4
  go_enter Tryz.func75, Tryz.ntmps75
  go_upto_region 0 with (fail)
  refine lbeg (opsOf Tryz.f75 0) ?_
  refine lall 0 135 z5S q (some 4) hq ?_
  intro w1 bw1 bew1 hsw1
  refine ldn 1 ?_
  generalize hact : Act.put _ (some 4) _ = act
  simp only [Act.put, sA, sC, sZ] at hact
  subst hact
  go_upto_region 9 with (fail)
  refine lbeg (opsOf Tryz.f75 9) ?_
  refine lnow 0 (.agg ([.int .i64 (1), .bool true, .int .i64 0, .int .i64 4, .int .i64 0] : List Value).toArray) (some 18) ?_
  refine lput 1 135 (.tmp 4) (.tmp 18) q _ z5S [.int .i64 (1), .bool true, .int .i64 0, .int .i64 4, .int .i64 0] bw1 rfl sizeShp (by kernel_rfl) ?_
  intro w2 bw2 uw2
  refine ldn 2 ?_
  generalize hact : Act.put _ none _ = act
  simp only [Act.put, sA, sC, sZ] at hact
  subst hact
  go_wp2
  refine bodyPost_ret (v := .agg ([.int .i64 (1), .bool true, .int .i64 0, .int .i64 4, .int .i64 0] : List Value).toArray) ?_ rfl ⟨by simp [shapeT, Shp.cs], uw2.below bew1 (Nat.le_refl _) (by have := bew1.size; have := hq.out; omega)⟩
  exact results_cell_row (g := q) (t := 135) (cs := ([.int .i64 (1), .bool true, .int .i64 0, .int .i64 4, .int .i64 0] : List Value).toArray) (fr := (0, 0)) Tryz.results75 _ _ _ rfl bw2 Tryz.underlying135 rfl sizeShp
 by_cases h5 : k = 5
 ·subst h5
  go_enter Tryz.func75, Tryz.ntmps75
  go_upto_region 0 with (fail)
  refine lbeg (opsOf Tryz.f75 0) ?_
  refine lall 0 135 z5S q (some 4) hq ?_
  intro w1 bw1 bew1 hsw1
  refine ldn 1 ?_
  generalize hact : Act.put _ (some 4) _ = act
  simp only [Act.put, sA, sC, sZ] at hact
  subst hact
  go_upto_region 13 with (fail)
  refine lbeg (opsOf Tryz.f75 13) ?_
  refine lnow 0 (.agg ([.int .i64 (1), .bool false, .int .i64 0, .int .i64 0, .int .i64 2] : List Value).toArray) (some 23) ?_
  refine lput 1 135 (.tmp 4) (.tmp 23) q _ z5S [.int .i64 (1), .bool false, .int .i64 0, .int .i64 0, .int .i64 2] bw1 rfl sizeShp (by kernel_rfl) ?_
  intro w2 bw2 uw2
  refine ldn 2 ?_
  generalize hact : Act.put _ none _ = act
  simp only [Act.put, sA, sC, sZ] at hact
  subst hact
  go_wp2
  refine bodyPost_ret (v := .agg ([.int .i64 (1), .bool false, .int .i64 0, .int .i64 0, .int .i64 2] : List Value).toArray) ?_ rfl ⟨by simp [shapeT, Shp.cs], uw2.below bew1 (Nat.le_refl _) (by have := bew1.size; have := hq.out; omega)⟩
  exact results_cell_row (g := q) (t := 135) (cs := ([.int .i64 (1), .bool false, .int .i64 0, .int .i64 0, .int .i64 2] : List Value).toArray) (fr := (0, 0)) Tryz.results75 _ _ _ rfl bw2 Tryz.underlying135 rfl sizeShp
 by_cases h6 : k = 6
 ·subst h6
  go_enter Tryz.func75, Tryz.ntmps75
  go_upto_region 0 with (fail)
  refine lbeg (opsOf Tryz.f75 0) ?_
  refine lall 0 135 z5S q (some 4) hq ?_
  intro w1 bw1 bew1 hsw1
  refine ldn 1 ?_
  generalize hact : Act.put _ (some 4) _ = act
  simp only [Act.put, sA, sC, sZ] at hact
  subst hact
  go_upto_region 13 with (fail)
  refine lbeg (opsOf Tryz.f75 13) ?_
  refine lnow 0 (.agg ([.int .i64 (1), .bool false, .int .i64 0, .int .i64 0, .int .i64 2] : List Value).toArray) (some 23) ?_
  refine lput 1 135 (.tmp 4) (.tmp 23) q _ z5S [.int .i64 (1), .bool false, .int .i64 0, .int .i64 0, .int .i64 2] bw1 rfl sizeShp (by kernel_rfl) ?_
  intro w2 bw2 uw2
  refine ldn 2 ?_
  generalize hact : Act.put _ none _ = act
  simp only [Act.put, sA, sC, sZ] at hact
  subst hact
  go_wp2
  refine bodyPost_ret (v := .agg ([.int .i64 (1), .bool false, .int .i64 0, .int .i64 0, .int .i64 2] : List Value).toArray) ?_ rfl ⟨by simp [shapeT, Shp.cs], uw2.below bew1 (Nat.le_refl _) (by have := bew1.size; have := hq.out; omega)⟩
  exact results_cell_row (g := q) (t := 135) (cs := ([.int .i64 (1), .bool false, .int .i64 0, .int .i64 0, .int .i64 2] : List Value).toArray) (fr := (0, 0)) Tryz.results75 _ _ _ rfl bw2 Tryz.underlying135 rfl sizeShp
 by_cases h7 : k = 7
 ·subst h7
  go_enter Tryz.func75, Tryz.ntmps75
  go_upto_region 0 with (fail)
  refine lbeg (opsOf Tryz.f75 0) ?_
  refine lall 0 135 z5S q (some 4) hq ?_
  intro w1 bw1 bew1 hsw1
  refine ldn 1 ?_
  generalize hact : Act.put _ (some 4) _ = act
  simp only [Act.put, sA, sC, sZ] at hact
  subst hact
  go_upto_region 13 with (fail)
  refine lbeg (opsOf Tryz.f75 13) ?_
  refine lnow 0 (.agg ([.int .i64 (1), .bool false, .int .i64 0, .int .i64 0, .int .i64 2] : List Value).toArray) (some 23) ?_
  refine lput 1 135 (.tmp 4) (.tmp 23) q _ z5S [.int .i64 (1), .bool false, .int .i64 0, .int .i64 0, .int .i64 2] bw1 rfl sizeShp (by kernel_rfl) ?_
  intro w2 bw2 uw2
  refine ldn 2 ?_
  generalize hact : Act.put _ none _ = act
  simp only [Act.put, sA, sC, sZ] at hact
  subst hact
  go_wp2
  refine bodyPost_ret (v := .agg ([.int .i64 (1), .bool false, .int .i64 0, .int .i64 0, .int .i64 2] : List Value).toArray) ?_ rfl ⟨by simp [shapeT, Shp.cs], uw2.below bew1 (Nat.le_refl _) (by have := bew1.size; have := hq.out; omega)⟩
  exact results_cell_row (g := q) (t := 135) (cs := ([.int .i64 (1), .bool false, .int .i64 0, .int .i64 0, .int .i64 2] : List Value).toArray) (fr := (0, 0)) Tryz.results75 _ _ _ rfl bw2 Tryz.underlying135 rfl sizeShp
 by_cases h8 : k = 8
 ·subst h8
  go_enter Tryz.func75, Tryz.ntmps75
  go_upto_region 0 with (fail)
  refine lbeg (opsOf Tryz.f75 0) ?_
  refine lall 0 135 z5S q (some 4) hq ?_
  intro w1 bw1 bew1 hsw1
  refine ldn 1 ?_
  generalize hact : Act.put _ (some 4) _ = act
  simp only [Act.put, sA, sC, sZ] at hact
  subst hact
  go_upto_region 15 with (fail)
  refine lbeg (opsOf Tryz.f75 15) ?_
  refine lnow 0 (.agg ([.int .i64 (1), .bool false, .int .i64 0, .int .i64 0, .int .i64 3] : List Value).toArray) (some 26) ?_
  refine lput 1 135 (.tmp 4) (.tmp 26) q _ z5S [.int .i64 (1), .bool false, .int .i64 0, .int .i64 0, .int .i64 3] bw1 rfl sizeShp (by kernel_rfl) ?_
  intro w2 bw2 uw2
  refine ldn 2 ?_
  generalize hact : Act.put _ none _ = act
  simp only [Act.put, sA, sC, sZ] at hact
  subst hact
  go_wp2
  refine bodyPost_ret (v := .agg ([.int .i64 (1), .bool false, .int .i64 0, .int .i64 0, .int .i64 3] : List Value).toArray) ?_ rfl ⟨by simp [shapeT, Shp.cs], uw2.below bew1 (Nat.le_refl _) (by have := bew1.size; have := hq.out; omega)⟩
  exact results_cell_row (g := q) (t := 135) (cs := ([.int .i64 (1), .bool false, .int .i64 0, .int .i64 0, .int .i64 3] : List Value).toArray) (fr := (0, 0)) Tryz.results75 _ _ _ rfl bw2 Tryz.underlying135 rfl sizeShp
 by_cases h9 : k = 9
 ·subst h9
  go_enter Tryz.func75, Tryz.ntmps75
  go_upto_region 0 with (fail)
  refine lbeg (opsOf Tryz.f75 0) ?_
  refine lall 0 135 z5S q (some 4) hq ?_
  intro w1 bw1 bew1 hsw1
  refine ldn 1 ?_
  generalize hact : Act.put _ (some 4) _ = act
  simp only [Act.put, sA, sC, sZ] at hact
  subst hact
  go_upto_region 17 with (fail)
  refine lbeg (opsOf Tryz.f75 17) ?_
  refine lnow 0 (.agg ([.int .i64 (32), .bool true, .int .i64 0, .int .i64 0, .int .i64 1] : List Value).toArray) (some 29) ?_
  refine lput 1 135 (.tmp 4) (.tmp 29) q _ z5S [.int .i64 (32), .bool true, .int .i64 0, .int .i64 0, .int .i64 1] bw1 rfl sizeShp (by kernel_rfl) ?_
  intro w2 bw2 uw2
  refine ldn 2 ?_
  generalize hact : Act.put _ none _ = act
  simp only [Act.put, sA, sC, sZ] at hact
  subst hact
  go_wp2
  refine bodyPost_ret (v := .agg ([.int .i64 (32), .bool true, .int .i64 0, .int .i64 0, .int .i64 1] : List Value).toArray) ?_ rfl ⟨by simp [shapeT, Shp.cs], uw2.below bew1 (Nat.le_refl _) (by have := bew1.size; have := hq.out; omega)⟩
  exact results_cell_row (g := q) (t := 135) (cs := ([.int .i64 (32), .bool true, .int .i64 0, .int .i64 0, .int .i64 1] : List Value).toArray) (fr := (0, 0)) Tryz.results75 _ _ _ rfl bw2 Tryz.underlying135 rfl sizeShp
 ·skip
  go_enter Tryz.func75, Tryz.ntmps75
  go_upto_region 0 with (fail)
  refine lbeg (opsOf Tryz.f75 0) ?_
  refine lall 0 135 z5S q (some 4) hq ?_
  intro w1 bw1 bew1 hsw1
  refine ldn 1 ?_
  generalize hact : Act.put _ (some 4) _ = act
  simp only [Act.put, sA, sC, sZ] at hact
  subst hact
  go_upto_region 18 with (fail)
  refine lbeg (opsOf Tryz.f75 18) ?_
  refine lnow 0 (.agg ([.int .i64 (0), .bool false, .int .i64 0, .int .i64 0, .int .i64 0] : List Value).toArray) (some 30) ?_
  refine lput 1 135 (.tmp 4) (.tmp 30) q _ z5S [.int .i64 (0), .bool false, .int .i64 0, .int .i64 0, .int .i64 0] bw1 rfl sizeShp (by kernel_rfl) ?_
  intro w2 bw2 uw2
  refine ldn 2 ?_
  generalize hact : Act.put _ none _ = act
  simp only [Act.put, sA, sC, sZ] at hact
  subst hact
  go_wp2
  refine bodyPost_ret (v := .agg ([.int .i64 (0), .bool false, .int .i64 0, .int .i64 0, .int .i64 0] : List Value).toArray) ?_ rfl ⟨by simp [shapeT, Shp.cs, h1, h2, h3, h4, h5, h6, h7, h8, h9], uw2.below bew1 (Nat.le_refl _) (by have := bew1.size; have := hq.out; omega)⟩
  exact results_cell_row (g := q) (t := 135) (cs := ([.int .i64 (0), .bool false, .int .i64 0, .int .i64 0, .int .i64 0] : List Value).toArray) (fr := (0, 0)) Tryz.results75 _ _ _ rfl bw2 Tryz.underlying135 rfl sizeShp
/-- Has a node the form of its kind, where there are v variables? -/
def fitsK (S : Shp) (p n : Int) (s : List UInt8) (ls : List Lv) (a : Nat) : Bool :=
 decide (0 ≤ n) && decide (n < S.below) && decide ((a : Int) = S.args) && decide (S.fewest ≤ (ls.length : Int)) && decide ((ls.length : Int) ≤ S.most) && ls.all (fun x => rightL x && decide ((widthL x : Int) ≤ p)) && (if S.named then wordB s else decide (s = []))
def fitsB (p v : Int) (t : Tm) : Bool := fitsK (shapeT t.kind v) p t.n t.name t.levels t.args.length
theorem lvLen {x : Lv} (h : x.p.length = 4) : (ints .i64 x.zs).length = (ints .i64 z5).length := by
 rw [ints_length, ints_length]; simp [Lv.zs, h, z5]
set_option maxHeartbeats 8000000 in
theorem fits_walk {F : List Nat} (t : Tm) (cs : List Value) (p v : Int) (w : World) (ht : TmAt F w t cs) (hs : SmT t) : Calls Tryz.prog 46 #[.agg cs.toArray, .int .i64 p, .int .i64 v] w fun e w' => e = .returned (.bool (fitsB p v t)) ∧ Below w.heap.size w w' := by
 obtain ⟨lv, av, rfl, h1, h2⟩ := ht.open
 obtain ⟨sn, sl, sa, -⟩ := hs.open
 obtain ⟨k, n, s, ls, a⟩ := t
 dsimp only [Tm.kind, Tm.n, Tm.name, Tm.levels, Tm.args] at *
 obtain ⟨la, lc, rfl⟩ := h1.slice
 obtain ⟨aa, ac, rfl⟩ := h2.slice
 have hr : reachBytes = 140737488351232 := rfl
 rw [hr] at sn sl sa
 obtain ⟨L, hL⟩ : ∃ L, Hid (ls.length = L) := ⟨_, rfl⟩
 obtain ⟨N, hN⟩ : ∃ N, Hid (a.length = N) := ⟨_, rfl⟩
 rw [hL.out] at sl h1 ⊢
 rw [hN.out] at sa ⊢
 obtain ⟨q, hq⟩ : ∃ q, Hid (w.heap.size = q) := ⟨_, rfl⟩
 obtain ⟨S, hS⟩ : ∃ S, Hid (shapeT k v = S) := ⟨_, rfl⟩
 have SW : ∀ w : World, Calls Tryz.prog 75 #[.int .i64 k, .int .i64 v] w fun e w' => e = .returned (.agg S.cs.toArray) ∧ Below w.heap.size w w' := fun w => by rw [← hS.out]; exact shape_walk k v w
 have FB : fitsB p v (.mk k n s ls a) = (decide (0 ≤ n) && decide (n < S.below) && decide ((N : Int) = S.args) && decide (S.fewest ≤ (L : Int)) && decide ((L : Int) ≤ S.most) && ls.all (fun x => rightL x && decide ((widthL x : Int) ≤ p)) && (if S.named then wordB s else decide (s = []))) := by show fitsK (shapeT k v) p n s ls a.length = _; rw [hS.out, hN.out]; unfold fitsK; rw [hL.out]
 have HFB := Lib.hid FB
 have H1 := Lib.hid h1
 have SN := Lib.hid sn
 have SL := Lib.hid sl
 have SA := Lib.hid sa
 clear FB h1 h2 ht hs hS sn sl sa
 obtain ⟨CS, hCS⟩ : ∃ x, Hid ([.int .i64 k, .int .i64 n, strT s, .slice la L lc, .slice aa N ac] = x) := ⟨_, rfl⟩
 rw [hCS.out, hq.out]
 obtain ⟨sb, nm, sf, sm, sar⟩ := S
 dsimp only at HFB
 go_enter Tryz.func46, Tryz.ntmps46
 go_upto_region 0 with (fail)
 refine lbeg (opsOf Tryz.f46 0) ?_
 refine lbox 0 25 (.tmp 0) (CS) (q) (some 3) hq ?_
 intro w1 bw1 bew1 hsw1
 refine lnow 1 (.bool false) (some 6) ?_
 refine ldn 2 ?_
 generalize hact : Act.put _ (some 6) _ = act
 simp only [Act.put, sA, sC, sZ] at hact
 subst hact
 have c0 : w1.cell? ⟨q, 0, none⟩ = some (.int .i64 k) := bw1.cell (by rw [← hCS.out]; rfl)
 go_upto_region 1 with (fail)
 refine lbeg (opsOf Tryz.f46 1) ?_
 refine lnow 0 (.pointer (some ⟨q, 0, none⟩)) (some 10) ?_
 refine lcl 1 (.int .i64 k) (some 11) 3 10 (q) 0 (c0) Tryz.underlying3 ?_
 refine lnow 2 (.int .i64 v) (some 12) ?_
 refine lcal 3 75 #[.int .i64 k, .int .i64 v] (some 13) _ (SW w1) ?_
 rintro e w2 ⟨rfl, hb2⟩
 refine ⟨_, rfl, ?_⟩
 obtain ⟨q2, hq2⟩ : ∃ q2, Hid (w2.heap.size = q2) := ⟨_, rfl⟩
 refine lall 4 135 z5S q2 (some 7) hq2 ?_
 intro w3 bw3 bew3 hsw3
 refine lput 5 135 (.tmp 7) (.tmp 13) q2 _ z5S (Shp.cs ⟨sb, nm, sf, sm, sar⟩) bw3 rfl sizeShp (by kernel_rfl) ?_
 intro w4 bw4 uw4
 refine ldn 6 ?_
 generalize hact : Act.put _ none _ = act
 simp only [Act.put, sA, sC, sZ] at hact
 subst hact
 have Q2 : Hid (q + 1 ≤ q2) := by have := hb2.size; have := hsw1.out; have := hq2.out; rw [Hid]; omega
 have E4 : Hid (Below q w w4) := uw4.below (((bew1.trans (hb2.mono (by have := hsw1.out; omega)))).trans (bew3.mono (by have := Q2.out; omega))) (by have := Q2.out; omega) (by have := bew3.size; have := hq2.out; have := Q2.out; omega)
 have BC : Blk w4 q 25 CS := uw4.blk ((bw1.below hb2 bw1.lt).below bew3 (by have := Q2.out; omega)) (by have := Q2.out; omega)
 have S4 : Hid (q2 < w4.heap.size) := bw4.lt
 have B4 : Hid (Blk w4 q2 135 (Shp.cs ⟨sb, nm, sf, sm, sar⟩)) := bw4
 have k1 : w4.cell? ⟨q, 1, none⟩ = some (.int .i64 n) := BC.cell (by rw [← hCS.out]; rfl)
 have k2 : w4.cell? ⟨q, 2, none⟩ = some (strT s) := BC.cell (by rw [← hCS.out]; rfl)
 have k3 : w4.cell? ⟨q, 3, none⟩ = some (.slice la L lc) := BC.cell (by rw [← hCS.out]; rfl)
 have k4 : w4.cell? ⟨q, 4, none⟩ = some (.slice aa N ac) := BC.cell (by rw [← hCS.out]; rfl)
 have K1 := Lib.hid k1
 have K2 := Lib.hid k2
 have K3 := Lib.hid k3
 have K4 := Lib.hid k4
 have LV : Hid (LvsOff F w4 (.slice la L lc) ls) := H1.out.step (Step.of_below E4.out (by have := hq.out; omega))
 clear bw1 bew1 hsw1 hb2 bw3 bew3 hsw3 bw4 uw4 BC c0 k1 k2 k3 k4 SW H1 S4
 by_cases hc1 : n < 0
 ·have r1 : decide (n < 0) = true := decide_eq_true hc1
  go_upto_region 2 with (fail)
  refine lbeg (opsOf Tryz.f46 2) ?_
  refine lnow 0 (.pointer (some ⟨q, 1, none⟩)) (some 14) ?_
  refine lcl 1 (.int .i64 n) (some 15) 3 14 (q) 1 (K1.out) Tryz.underlying3 ?_
  refine lnow 2 (.bool (decide (n < 0))) (some 16) ?_
  rw [r1]
  refine lnow 3 (.bool true) (some 17) ?_
  refine lpas 4 (some 18) ?_
  refine lpas 5 (some 19) ?_
  refine lpas 6 (some 20) ?_
  refine lpas 7 (some 21) ?_
  refine lpas 8 (some 22) ?_
  refine lnow 9 (.bool true) (some 23) ?_
  refine lnow 10 (.bool true) (some 24) ?_
  refine lpas 11 (some 25) ?_
  refine lpas 12 (some 26) ?_
  refine lpas 13 (some 27) ?_
  refine lpas 14 (some 28) ?_
  refine lpas 15 (some 29) ?_
  refine lpas 16 (some 30) ?_
  refine lnow 17 (.bool true) (some 31) ?_
  refine ldn 18 ?_
  generalize hact : Act.put _ (some 31) _ = act
  simp only [Act.put, sA, sC, sZ] at hact
  subst hact
  go_wp2
  go_ret
  exact ⟨by rw [HFB.out]; rw [decide_eq_false (show ¬ 0 ≤ n by omega)]; rfl, E4.out⟩
 have r1 : decide (n < 0) = false := decide_eq_false hc1
 by_cases hc2 : n ≥ sb
 ·have r2 : decide (n ≥ sb) = true := decide_eq_true hc2
  go_upto_region 2 with (fail)
  refine lbeg (opsOf Tryz.f46 2) ?_
  refine lnow 0 (.pointer (some ⟨q, 1, none⟩)) (some 14) ?_
  refine lcl 1 (.int .i64 n) (some 15) 3 14 (q) 1 (K1.out) Tryz.underlying3 ?_
  refine lnow 2 (.bool (decide (n < 0))) (some 16) ?_
  rw [r1]
  refine lnow 3 (.bool false) (some 17) ?_
  refine lnow 4 (.pointer (some ⟨q, 1, none⟩)) (some 18) ?_
  refine lcl 5 (.int .i64 n) (some 19) 3 18 (q) 1 (K1.out) Tryz.underlying3 ?_
  refine lnow 6 (.pointer (some ⟨q2, 0, none⟩)) (some 20) ?_
  refine lcl 7 (.int .i64 sb) (some 21) 3 20 (q2) 0 (B4.out.cell rfl) Tryz.underlying3 ?_
  refine lnow 8 (.bool (decide (n ≥ sb))) (some 22) ?_
  rw [r2]
  refine lnow 9 (.bool true) (some 23) ?_
  refine lnow 10 (.bool true) (some 24) ?_
  refine lpas 11 (some 25) ?_
  refine lpas 12 (some 26) ?_
  refine lpas 13 (some 27) ?_
  refine lpas 14 (some 28) ?_
  refine lpas 15 (some 29) ?_
  refine lpas 16 (some 30) ?_
  refine lnow 17 (.bool true) (some 31) ?_
  refine ldn 18 ?_
  generalize hact : Act.put _ (some 31) _ = act
  simp only [Act.put, sA, sC, sZ] at hact
  subst hact
  go_wp2
  go_ret
  exact ⟨by rw [HFB.out]; rw [decide_eq_false (show ¬ n < sb by omega)]; simp, E4.out⟩
 have r2 : decide (n ≥ sb) = false := decide_eq_false hc2
 by_cases hc3 : (N : Int) = sar
 rotate_left
 ·have r3 : (!decide ((N : Int) = sar)) = true := by rw [decide_eq_false hc3]; rfl
  go_upto_region 2 with (fail)
  refine lbeg (opsOf Tryz.f46 2) ?_
  refine lnow 0 (.pointer (some ⟨q, 1, none⟩)) (some 14) ?_
  refine lcl 1 (.int .i64 n) (some 15) 3 14 (q) 1 (K1.out) Tryz.underlying3 ?_
  refine lnow 2 (.bool (decide (n < 0))) (some 16) ?_
  rw [r1]
  refine lnow 3 (.bool false) (some 17) ?_
  refine lnow 4 (.pointer (some ⟨q, 1, none⟩)) (some 18) ?_
  refine lcl 5 (.int .i64 n) (some 19) 3 18 (q) 1 (K1.out) Tryz.underlying3 ?_
  refine lnow 6 (.pointer (some ⟨q2, 0, none⟩)) (some 20) ?_
  refine lcl 7 (.int .i64 sb) (some 21) 3 20 (q2) 0 (B4.out.cell rfl) Tryz.underlying3 ?_
  refine lnow 8 (.bool (decide (n ≥ sb))) (some 22) ?_
  rw [r2]
  refine lnow 9 (.bool false) (some 23) ?_
  refine lnow 10 (.bool false) (some 24) ?_
  refine lnow 11 (.pointer (some ⟨q, 4, none⟩)) (some 25) ?_
  refine lcl 12 (.slice aa N ac) (some 26) 23 25 (q) 4 (K4.out) Tryz.underlying23 ?_
  refine lnow 13 (.int .i64 (N : Int)) (some 27) ?_
  refine lnow 14 (.pointer (some ⟨q2, 4, none⟩)) (some 28) ?_
  refine lcl 15 (.int .i64 sar) (some 29) 3 28 (q2) 4 (B4.out.cell rfl) Tryz.underlying3 ?_
  refine lnow 16 (.bool (!decide ((N : Int) = sar))) (some 30) ?_
  rw [r3]
  refine lnow 17 (.bool true) (some 31) ?_
  refine ldn 18 ?_
  generalize hact : Act.put _ (some 31) _ = act
  simp only [Act.put, sA, sC, sZ] at hact
  subst hact
  go_wp2
  go_ret
  exact ⟨by rw [HFB.out]; rw [decide_eq_false hc3]; simp, E4.out⟩
 have r3 : (!decide ((N : Int) = sar)) = false := by rw [decide_eq_true hc3]; rfl
 go_upto_region 2 with (fail)
 refine lbeg (opsOf Tryz.f46 2) ?_
 refine lnow 0 (.pointer (some ⟨q, 1, none⟩)) (some 14) ?_
 refine lcl 1 (.int .i64 n) (some 15) 3 14 (q) 1 (K1.out) Tryz.underlying3 ?_
 refine lnow 2 (.bool (decide (n < 0))) (some 16) ?_
 rw [r1]
 refine lnow 3 (.bool false) (some 17) ?_
 refine lnow 4 (.pointer (some ⟨q, 1, none⟩)) (some 18) ?_
 refine lcl 5 (.int .i64 n) (some 19) 3 18 (q) 1 (K1.out) Tryz.underlying3 ?_
 refine lnow 6 (.pointer (some ⟨q2, 0, none⟩)) (some 20) ?_
 refine lcl 7 (.int .i64 sb) (some 21) 3 20 (q2) 0 (B4.out.cell rfl) Tryz.underlying3 ?_
 refine lnow 8 (.bool (decide (n ≥ sb))) (some 22) ?_
 rw [r2]
 refine lnow 9 (.bool false) (some 23) ?_
 refine lnow 10 (.bool false) (some 24) ?_
 refine lnow 11 (.pointer (some ⟨q, 4, none⟩)) (some 25) ?_
 refine lcl 12 (.slice aa N ac) (some 26) 23 25 (q) 4 (K4.out) Tryz.underlying23 ?_
 refine lnow 13 (.int .i64 (N : Int)) (some 27) ?_
 refine lnow 14 (.pointer (some ⟨q2, 4, none⟩)) (some 28) ?_
 refine lcl 15 (.int .i64 sar) (some 29) 3 28 (q2) 4 (B4.out.cell rfl) Tryz.underlying3 ?_
 refine lnow 16 (.bool (!decide ((N : Int) = sar))) (some 30) ?_
 rw [r3]
 refine lnow 17 (.bool false) (some 31) ?_
 refine ldn 18 ?_
 generalize hact : Act.put _ (some 31) _ = act
 simp only [Act.put, sA, sC, sZ] at hact
 subst hact
 have HF2 : Hid (fitsB p v (.mk k n s ls a) = (decide (sf ≤ (L : Int)) && decide ((L : Int) ≤ sm) && ls.all (fun x => rightL x && decide ((widthL x : Int) ≤ p)) && (if nm then wordB s else decide (s = [])))) := by
  rw [Hid, HFB.out, decide_eq_true (show 0 ≤ n by omega), decide_eq_true (show n < sb by omega), decide_eq_true hc3]; rfl
 clear HFB r1 r2 r3 hc1 hc2 hc3
 by_cases hc1 : (L : Int) < sf
 ·have r1 : decide ((L : Int) < sf) = true := decide_eq_true hc1
  go_upto_region 4 with (fail)
  refine lbeg (opsOf Tryz.f46 4) ?_
  refine lnow 0 (.pointer (some ⟨q, 3, none⟩)) (some 32) ?_
  refine lcl 1 (.slice la L lc) (some 33) 22 32 (q) 3 (K3.out) Tryz.underlying22 ?_
  refine lnow 2 (.int .i64 (L : Int)) (some 34) ?_
  refine lnow 3 (.pointer (some ⟨q2, 2, none⟩)) (some 35) ?_
  refine lcl 4 (.int .i64 sf) (some 36) 3 35 (q2) 2 (B4.out.cell rfl) Tryz.underlying3 ?_
  refine lnow 5 (.bool (decide ((L : Int) < sf))) (some 37) ?_
  rw [r1]
  refine lnow 6 (.bool true) (some 38) ?_
  refine lpas 7 (some 39) ?_
  refine lpas 8 (some 40) ?_
  refine lpas 9 (some 41) ?_
  refine lpas 10 (some 42) ?_
  refine lpas 11 (some 43) ?_
  refine lpas 12 (some 44) ?_
  refine lnow 13 (.bool true) (some 45) ?_
  refine ldn 14 ?_
  generalize hact : Act.put _ (some 45) _ = act
  simp only [Act.put, sA, sC, sZ] at hact
  subst hact
  go_wp2
  go_ret
  exact ⟨by rw [HF2.out]; rw [decide_eq_false (show ¬ sf ≤ (L : Int) by omega)]; rfl, E4.out⟩
 have r1 : decide ((L : Int) < sf) = false := decide_eq_false hc1
 by_cases hc2 : (L : Int) > sm
 ·have r2 : decide ((L : Int) > sm) = true := decide_eq_true hc2
  go_upto_region 4 with (fail)
  refine lbeg (opsOf Tryz.f46 4) ?_
  refine lnow 0 (.pointer (some ⟨q, 3, none⟩)) (some 32) ?_
  refine lcl 1 (.slice la L lc) (some 33) 22 32 (q) 3 (K3.out) Tryz.underlying22 ?_
  refine lnow 2 (.int .i64 (L : Int)) (some 34) ?_
  refine lnow 3 (.pointer (some ⟨q2, 2, none⟩)) (some 35) ?_
  refine lcl 4 (.int .i64 sf) (some 36) 3 35 (q2) 2 (B4.out.cell rfl) Tryz.underlying3 ?_
  refine lnow 5 (.bool (decide ((L : Int) < sf))) (some 37) ?_
  rw [r1]
  refine lnow 6 (.bool false) (some 38) ?_
  refine lnow 7 (.pointer (some ⟨q, 3, none⟩)) (some 39) ?_
  refine lcl 8 (.slice la L lc) (some 40) 22 39 (q) 3 (K3.out) Tryz.underlying22 ?_
  refine lnow 9 (.int .i64 (L : Int)) (some 41) ?_
  refine lnow 10 (.pointer (some ⟨q2, 3, none⟩)) (some 42) ?_
  refine lcl 11 (.int .i64 sm) (some 43) 3 42 (q2) 3 (B4.out.cell rfl) Tryz.underlying3 ?_
  refine lnow 12 (.bool (decide ((L : Int) > sm))) (some 44) ?_
  rw [r2]
  refine lnow 13 (.bool true) (some 45) ?_
  refine ldn 14 ?_
  generalize hact : Act.put _ (some 45) _ = act
  simp only [Act.put, sA, sC, sZ] at hact
  subst hact
  go_wp2
  go_ret
  exact ⟨by rw [HF2.out]; rw [decide_eq_false (show ¬ (L : Int) ≤ sm by omega)]; simp, E4.out⟩
 have r2 : decide ((L : Int) > sm) = false := decide_eq_false hc2
 go_upto_region 4 with (fail)
 refine lbeg (opsOf Tryz.f46 4) ?_
 refine lnow 0 (.pointer (some ⟨q, 3, none⟩)) (some 32) ?_
 refine lcl 1 (.slice la L lc) (some 33) 22 32 (q) 3 (K3.out) Tryz.underlying22 ?_
 refine lnow 2 (.int .i64 (L : Int)) (some 34) ?_
 refine lnow 3 (.pointer (some ⟨q2, 2, none⟩)) (some 35) ?_
 refine lcl 4 (.int .i64 sf) (some 36) 3 35 (q2) 2 (B4.out.cell rfl) Tryz.underlying3 ?_
 refine lnow 5 (.bool (decide ((L : Int) < sf))) (some 37) ?_
 rw [r1]
 refine lnow 6 (.bool false) (some 38) ?_
 refine lnow 7 (.pointer (some ⟨q, 3, none⟩)) (some 39) ?_
 refine lcl 8 (.slice la L lc) (some 40) 22 39 (q) 3 (K3.out) Tryz.underlying22 ?_
 refine lnow 9 (.int .i64 (L : Int)) (some 41) ?_
 refine lnow 10 (.pointer (some ⟨q2, 3, none⟩)) (some 42) ?_
 refine lcl 11 (.int .i64 sm) (some 43) 3 42 (q2) 3 (B4.out.cell rfl) Tryz.underlying3 ?_
 refine lnow 12 (.bool (decide ((L : Int) > sm))) (some 44) ?_
 rw [r2]
 refine lnow 13 (.bool false) (some 45) ?_
 refine ldn 14 ?_
 generalize hact : Act.put _ (some 45) _ = act
 simp only [Act.put, sA, sC, sZ] at hact
 subst hact
 have HF3 : Hid (fitsB p v (.mk k n s ls a) = (ls.all (fun x => rightL x && decide ((widthL x : Int) ≤ p)) && (if nm then wordB s else decide (s = [])))) := by
  rw [Hid, HF2.out, decide_eq_true (show sf ≤ (L : Int) by omega), decide_eq_true (show (L : Int) ≤ sm by omega)]; rfl
 clear HF2 r1 r2 hc1 hc2
 go_upto_region 6 with (fail)
 refine lbeg (opsOf Tryz.f46 6) ?_
 refine lnow 0 (.pointer (some ⟨q, 3, none⟩)) (some 46) ?_
 refine lcl 1 (.slice la L lc) (some 47) 22 46 (q) 3 (K3.out) Tryz.underlying22 ?_
 refine lnow 2 (.int .i64 (L : Int)) (some 48) ?_
 refine lnow 3 (.int .i64 0) (some 49) ?_
 refine ldn 4 ?_
 generalize hact : Act.put _ (some 49) _ = act
 simp only [Act.put, sA, sC, sZ] at hact
 subst hact
 have BQ : Hid (Blk w4 q2 135 (Shp.cs ⟨sb, nm, sf, sm, sar⟩)) := B4.out
 go_wp2
 go_loopw [49] (fun iv wr => ∃ i : Nat, i ≤ L ∧ iv = .int .i64 (i : Int) ∧ Hid ((ls.take i).all (fun x => rightL x && decide ((widthL x : Int) ≤ p)) = true) ∧ Hid (Below w4.heap.size w4 wr)) (fun iv _ => L - (intOf iv).toNat)
 case atStart => exact ⟨0, Nat.zero_le _, rfl, by rw [Hid, List.take_zero]; rfl, Below.refl _ _⟩
 case round =>
  obtain ⟨i, hi, rfl, hA, hB⟩ := hrel
  have ER : Hid (Below q w wr) := E4.out.trans (hB.out.mono (by have := E4.out.size; have := hq.out; omega))
  by_cases hlt : i < L
  rotate_left
  ·have r1 : ¬ (i : Int) < (L : Int) := by omega
   have HF4 : Hid (fitsB p v (.mk k n s ls a) = if nm then wordB s else decide (s = [])) := by
    have h1 := hA.out
    rw [List.take_of_length_le (by have := hL.out; omega)] at h1
    rw [Hid, HF3.out, h1]; rfl
   clear hA HF3
   have k2 : wr.cell? ⟨q, 2, none⟩ = some (strT s) := (hB.out.cell (p := ⟨q, 2, none⟩) (block_lt_of_cell K2.out)).trans K2.out
   have kn : wr.cell? ⟨q2, 1, none⟩ = some (.bool nm) := (B4.out.below hB.out B4.out.lt).cell rfl
   go_upto_region 12 with (fail)
   refine lbeg (opsOf Tryz.f46 12) ?_
   refine lnow 0 (.pointer (some ⟨q2, 1, none⟩)) (some 63) ?_
   refine lcl 1 (.bool nm) (some 64) 4 63 (q2) 1 (kn) Tryz.underlying4 ?_
   refine ldn 2 ?_
   generalize hact : Act.put _ (some 64) _ = act
   simp only [Act.put, sA, sC, sZ] at hact
   subst hact
   cases nm
   ·skip
    go_upto_region 14 with (fail)
    refine lbeg (opsOf Tryz.f46 14) ?_
    refine lnow 0 (.pointer (some ⟨q, 2, none⟩)) (some 68) ?_
    refine lcl 1 (strT s) (some 69) 9 68 (q) 2 (k2) Tryz.underlying9 ?_
    refine lnowP 2 (.bool (decide (s = []))) (some 70) (exec_streqT 9 9 (.tmp 69) (.const (.string ⟨#[]⟩)) (by kernel_rfl) s [] (by kernel_rfl) (by kernel_rfl) (fun w => by kernel_rfl)) ?_
    refine lnow 3 (.bool (decide (s = []))) (some 6) ?_
    refine ldn 4 ?_
    generalize hact : Act.put _ (some 6) _ = act
    simp only [Act.put, sA, sC, sZ] at hact
    subst hact
    go_wp2
    go_ret
    exact ⟨by rw [HF4.out]; rfl, ER.out⟩
   ·skip
    go_upto_region 13 with (fail)
    refine lbeg (opsOf Tryz.f46 13) ?_
    refine lnow 0 (.pointer (some ⟨q, 2, none⟩)) (some 65) ?_
    refine lcl 1 (strT s) (some 66) 9 65 (q) 2 (k2) Tryz.underlying9 ?_
    refine lcal 2 58 #[strT s] (some 67) _ (word_walk s (by have := SN.out; omega) wr) ?_
    rintro e w8 ⟨rfl, hw8⟩
    obtain rfl := hw8.symm
    refine ⟨_, rfl, ?_⟩
    refine lnow 3 (.bool (wordB s)) (some 6) ?_
    refine ldn 4 ?_
    generalize hact : Act.put _ (some 6) _ = act
    simp only [Act.put, sA, sC, sZ] at hact
    subst hact
    go_wp2
    go_ret
    exact ⟨by rw [HF4.out]; rfl, ER.out⟩
  have r1 : (i : Int) < (L : Int) := by omega
  obtain ⟨x, hx⟩ : ∃ x, ls[i]? = some x := ⟨_, List.getElem?_eq_getElem (by have := hL.out; omega)⟩
  have LVr : LvsOff F wr (.slice la L lc) ls := LV.out.step (Step.of_below hB.out (Nat.le_refl _))
  obtain ⟨x4, pb, po, rfl, hpb⟩ := LVr.at hx
  have hrx := Lib.hid (LVr.rng hx)
  have TK : (ls.take (i + 1)).all (fun x => rightL x && decide ((widthL x : Int) ≤ p)) = (rightL x && decide ((widthL x : Int) ≤ p)) := by
   rw [List.take_add_one, hx, List.all_append, hA.out]; simp
  have TK2 := Lib.hid TK
  have FALS : (rightL x && decide ((widthL x : Int) ≤ p)) = false → fitsB p v (.mk k n s ls a) = false := fun h => by
   rw [HF3.out]
   have : ls.all (fun x => rightL x && decide ((widthL x : Int) ≤ p)) = false := by
    rw [Bool.eq_false_iff]
    intro hc
    rw [List.all_eq_true] at hc
    have := hc x (List.mem_of_getElem? hx)
    rw [h] at this
    cases this
   rw [this]; rfl
  have HFA := Lib.hid FALS
  clear LVr TK FALS hA hx hpb
  obtain ⟨qr, hqr⟩ : ∃ x, Hid (wr.heap.size = x) := ⟨_, rfl⟩
  go_upto_region 8 with (fail)
  refine lbeg (opsOf Tryz.f46 8) ?_
  refine lix 0 (.pointer (some ⟨pb, po + 5 * i, none⟩)) (some 51) 22 47 49 (run_at_lv pb po L lc i hlt _) ?_
  refine lrl 1 (ints .i64 x.zs) (some 52) 80 51 pb (po + 5 * i) hrx.out Tryz.underlying80 (lvSize x4) ?_
  refine lall 2 80 (ints .i64 z5) qr (some 9) hqr ?_
  intro w5 bw5 bew5 hsw5
  refine lput 3 80 (.tmp 9) (.tmp 52) qr _ (ints .i64 z5) (ints .i64 x.zs) bw5 (lvLen x4) (lvSize x4) (ints_oneCell _ _) ?_
  intro w6 bw6 uw6
  refine ldn 4 ?_
  generalize hact : Act.put _ none _ = act
  simp only [Act.put, sA, sC, sZ] at hact
  subst hact
  have hB6 : Hid (Below w4.heap.size w4 w6) := uw6.below (hB.out.trans (bew5.mono (by have := hB.out.size; have := hqr.out; omega))) (by have := hB.out.size; have := hqr.out; omega) (by have := hB.out.size; have := bew5.size; omega)
  have BX := Lib.hid bw6
  clear hB ER bw5 bew5 hsw5 bw6 uw6 hrx
  obtain ⟨rx, hrxx⟩ : ∃ y, Hid (rightL x = y) := ⟨_, rfl⟩
  have RW := right_walk x x4 w6
  rw [hrxx.out] at RW TK2 HFA
  have E6 : ∀ w7, Below w6.heap.size w6 w7 → Below q w w7 := fun w7 h => E4.out.trans ((hB6.out.trans (h.mono hB6.out.size)).mono (by have := E4.out.size; have := hq.out; omega))
  have HE6 := Lib.hid E6
  clear E6
  cases rx
  ·skip
   go_upto_region 9 with (fail)
   refine lbeg (opsOf Tryz.f46 9) ?_
   refine lrl 0 (ints .i64 x.zs) (some 53) 80 9 qr 0 BX.out.whole Tryz.underlying80 (lvSize x4) ?_
   refine lcal 1 76 #[.agg (ints .i64 x.zs).toArray] (some 54) _ (RW) ?_
   rintro e w7 ⟨rfl, hb7⟩
   refine ⟨_, rfl, ?_⟩
   refine lnow 2 (.bool true) (some 55) ?_
   refine lnow 3 (.bool true) (some 56) ?_
   refine lpas 4 (some 57) ?_
   refine lpas 5 (some 58) ?_
   refine lpas 6 (some 59) ?_
   refine lpas 7 (some 60) ?_
   refine lnow 8 (.bool true) (some 61) ?_
   refine ldn 9 ?_
   generalize hact : Act.put _ (some 61) _ = act
   simp only [Act.put, sA, sC, sZ] at hact
   subst hact
   go_wp2
   go_ret
   exact ⟨by rw [HFA.out rfl]; rfl, HE6.out _ hb7⟩
  have WW := width_walk x x4
  obtain ⟨wx, hwx⟩ : ∃ y, Hid (widthL x = y) := ⟨_, rfl⟩
  rw [hwx.out] at WW TK2 HFA
  by_cases hwp : (wx : Int) > p
  ·have r2 : decide ((wx : Int) > p) = true := decide_eq_true hwp
   go_upto_region 9 with (fail)
   refine lbeg (opsOf Tryz.f46 9) ?_
   refine lrl 0 (ints .i64 x.zs) (some 53) 80 9 qr 0 BX.out.whole Tryz.underlying80 (lvSize x4) ?_
   refine lcal 1 76 #[.agg (ints .i64 x.zs).toArray] (some 54) _ (RW) ?_
   rintro e w7 ⟨rfl, hb7⟩
   refine ⟨_, rfl, ?_⟩
   refine lnow 2 (.bool false) (some 55) ?_
   refine lnow 3 (.bool false) (some 56) ?_
   refine lrl 4 (ints .i64 x.zs) (some 57) 80 9 qr 0 (BX.out.below hb7 BX.out.lt).whole Tryz.underlying80 (lvSize x4) ?_
   refine lcal 5 77 #[.agg (ints .i64 x.zs).toArray] (some 58) _ (WW w7) ?_
   rintro e w8 ⟨rfl, hb8⟩
   refine ⟨_, rfl, ?_⟩
   refine lnow 6 (.int .i64 p) (some 59) ?_
   refine lnow 7 (.bool (decide ((wx : Int) > p))) (some 60) ?_
   rw [r2]
   refine lnow 8 (.bool true) (some 61) ?_
   refine ldn 9 ?_
   generalize hact : Act.put _ (some 61) _ = act
   simp only [Act.put, sA, sC, sZ] at hact
   subst hact
   have hb78 := hb7.trans (hb8.mono hb7.size)
   go_wp2
   go_ret
   exact ⟨by rw [HFA.out (by rw [decide_eq_false (show ¬ (wx : Int) ≤ p by omega)]; rfl)]; rfl, HE6.out _ hb78⟩
  ·have r2 : decide ((wx : Int) > p) = false := decide_eq_false hwp
   go_upto_region 9 with (fail)
   refine lbeg (opsOf Tryz.f46 9) ?_
   refine lrl 0 (ints .i64 x.zs) (some 53) 80 9 qr 0 BX.out.whole Tryz.underlying80 (lvSize x4) ?_
   refine lcal 1 76 #[.agg (ints .i64 x.zs).toArray] (some 54) _ (RW) ?_
   rintro e w7 ⟨rfl, hb7⟩
   refine ⟨_, rfl, ?_⟩
   refine lnow 2 (.bool false) (some 55) ?_
   refine lnow 3 (.bool false) (some 56) ?_
   refine lrl 4 (ints .i64 x.zs) (some 57) 80 9 qr 0 (BX.out.below hb7 BX.out.lt).whole Tryz.underlying80 (lvSize x4) ?_
   refine lcal 5 77 #[.agg (ints .i64 x.zs).toArray] (some 58) _ (WW w7) ?_
   rintro e w8 ⟨rfl, hb8⟩
   refine ⟨_, rfl, ?_⟩
   refine lnow 6 (.int .i64 p) (some 59) ?_
   refine lnow 7 (.bool (decide ((wx : Int) > p))) (some 60) ?_
   rw [r2]
   refine lnow 8 (.bool false) (some 61) ?_
   refine ldn 9 ?_
   generalize hact : Act.put _ (some 61) _ = act
   simp only [Act.put, sA, sC, sZ] at hact
   subst hact
   have hb78 := hb7.trans (hb8.mono hb7.size)
   have NA : Hid ((ls.take (i + 1)).all (fun x => rightL x && decide ((widthL x : Int) ≤ p)) = true) := by rw [Hid, TK2.out, decide_eq_true (show (wx : Int) ≤ p by omega)]; rfl
   have NB : Hid (Below w4.heap.size w4 w8) := hB6.out.trans (hb78.mono hB6.out.size)
   clear hb7 hb8 hb78 hB6 RW WW TK2 HFA BX HE6 r2
   have bl := SL.out
   go_wp2
   go_roundw
   case rel => exact ⟨i + 1, by omega, by go_num, NA, NB⟩
   case measure => simp [intOf]; omega
end Go.Proofs.YtmceocgddaaohaaGreatDoor
