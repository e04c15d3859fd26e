/- The law MoveLevels. -/
import Derived.Test.YtndbpmkglddjjaaQGenT
import Derived.Test.YtndbpmkglddjjaaQMovQ
import Derived.Test.YtndbpmkglddjjaaQMovS
import Derived.Test.YtndbpmkglddjjaaQTrmRr
namespace Go.Proofs.Ytndbpmkglddjjaa
open Go Go.RowKit
set_option maxRecDepth 100000
theorem parL_set {i : Nat} (hi : i < 4) : (ints .i64 [0, -1, -1, -1, -1]).set (1 + i) (.int .i64 0) = ints .i64 (parL i).zs := by
  match i, hi with
  | 0, _ | 1, _ | 2, _ | 3, _ => rfl
set_option maxHeartbeats 4000000 in
theorem rparam4_walk (i : Nat) (hi : i < 4) (w : World) : Calls Try.prog 24 #[.int .i64 (i : Int), .int .i64 0] w fun e w' => e = .returned (.agg (ints .i64 (parL i).zs).toArray) ∧ Below w.heap.size w w' := by
  have n1 : ¬ (i : Int) < 0 := by omega
  have n2 : ¬ (i : Int) > 3 := by omega
  obtain ⟨q, hq⟩ : ∃ q, Hid (w.heap.size = q) := ⟨_, rfl⟩
  rw [hq.out]
  go_enter Try.func24, Try.ntmps24
  go_upto_region 0 with (fail)
  refine lbeg (opsOf Try.f24 0) ?_
  refine lin_alloc 0 49 (ints .i64 z5) (q) (some 4) (by kernel_rfl) (by kernel_rfl) (by kernel_rfl) zeroLv hq ?_
  intro w1 b1 be1 hs1
  refine ldn 1 ?_
  generalize hact : Act.put _ (some 4) _ = act
  simp only [Act.put, sA, sC, sZ] at hact
  subst hact
  go_upto_region 1 with (fail)
  refine lbeg (opsOf Try.f24 1) ?_
  refine lcal 0 26 #[.int .i64 (-1)] (some 6) _ (rnum7_walk (-1) w1) ?_
  rintro e w2 ⟨rfl, hb2⟩
  refine ⟨_, rfl, ?_⟩
  obtain ⟨g, hg⟩ : ∃ g, Hid (w2.heap.size = g) := ⟨_, rfl⟩
  have Z2 := b1.below hb2 b1.lt
  have QG : Hid (q < g) := by rw [Hid, ← hg.out]; exact Z2.lt
  have BE2 : Below q w w2 := be1.trans (hb2.mono (by rw [hs1.out]; exact Nat.le_succ _))
  refine lin_alloc 1 49 (ints .i64 z5) (g) (some 5) (by kernel_rfl) (by kernel_rfl) (by kernel_rfl) zeroLv hg ?_
  intro w3 b3 be3 hs3
  refine lin_put 2 49 (.tmp 5) (.tmp 6) (g) _ (ints .i64 z5) (ints .i64 (numL (-1)).zs) (by kernel_rfl) (by kernel_rfl) (by kernel_rfl) (by kernel_rfl) (by kernel_rfl) b3 (rfl) (lvSize (l := numL (-1)) rfl) (ints_oneCell _ _) ?_
  intro w4 b4 u4
  refine ldn 3 ?_
  have G4 := Lib.hid b4
  have Z4 : Hid (Blk w4 q 49 (ints .i64 z5)) := u4.blk (Z2.below be3 QG.out) (by have := QG.out; omega)
  have BE4 : Hid (Below q w w4) := u4.below (BE2.trans (be3.mono (Nat.le_of_lt QG.out))) (Nat.le_of_lt QG.out) (by rw [hs3.out]; have := QG.out; omega)
  clear b1 be1 hs1 hb2 Z2 BE2 b3 be3 hs3 b4 u4 hg
  generalize hact : Act.put _ none undef = act
  simp only [Act.put, sA, sC, sZ] at hact
  subst hact
  go_upto_region 2 with (fail)
  refine lbeg (opsOf Try.f24 2) ?_
  refine lnow 0 (.int .i64 (i : Int)) (some 7) ?_
  refine lnow 1 (.bool (decide ((i : Int) < 0))) (some 8) ?_
  rw [show decide ((i : Int) < 0) = false from decide_eq_false n1]
  refine lnow 2 (.bool false) (some 9) ?_
  refine lnow 3 (.int .i64 (i : Int)) (some 10) ?_
  refine lnow 4 (.bool (decide ((i : Int) > 3))) (some 11) ?_
  rw [show decide ((i : Int) > 3) = false from decide_eq_false n2]
  refine lnow 5 (.bool false) (some 12) ?_
  refine lnow 6 (.bool false) (some 13) ?_
  refine lnow 7 (.int .i64 0) (some 14) ?_
  refine lnow 8 (.bool false) (some 15) ?_
  refine lnow 9 (.bool false) (some 16) ?_
  refine lnow 10 (.bool false) (some 17) ?_
  refine lnow 11 (.int .i64 0) (some 18) ?_
  refine lnow 12 (.bool false) (some 19) ?_
  refine lnow 13 (.bool false) (some 20) ?_
  refine ldn 14 ?_
  generalize hact : Act.put _ (some 20) _ = act
  simp only [Act.put, sA, sC, sZ] at hact
  subst hact
  go_upto_region 4 with (fail)
  refine lbeg (opsOf Try.f24 4) ?_
  refine lnow 0 (.int .i64 0) (some 22) ?_
  refine lnow 1 (.pointer (some ⟨g, 0, none⟩)) (some 23) ?_
  refine lin_cel 2 3 (.tmp 23) (.tmp 22) g 0 49 (ints .i64 (numL (-1)).zs) (.int .i64 0) (by kernel_rfl) (by kernel_rfl) (by kernel_rfl) (by kernel_rfl) (by kernel_rfl) G4.out (by decide) sizeInt rfl rfl ?_
  intro w5 b5 u5 hs5
  refine ldn 3 ?_
  have G5 : Hid (Blk w5 g 49 (ints .i64 [0, -1, -1, -1, -1])) := b5
  have Z5 : Hid (Blk w5 q 49 (ints .i64 z5)) := u5.blk Z4.out (by have := QG.out; omega)
  have BE5 : Hid (Below q w w5) := u5.below BE4.out (Nat.le_of_lt QG.out) (Nat.le_of_lt Z4.out.lt)
  clear b5 u5 hs5 G4 Z4 BE4
  generalize hact : Act.put _ none undef = act
  simp only [Act.put, sA, sC, sZ] at hact
  subst hact
  go_upto_region 5 with (fail)
  refine lbeg (opsOf Try.f24 5) ?_
  refine lnow 0 (.int .i64 (i : Int)) (some 24) ?_
  refine lnow 1 (.int .i64 0) (some 25) ?_
  refine lnow 2 (.pointer (some ⟨g, 1, none⟩)) (some 26) ?_
  refine lix 3 (.pointer (some ⟨g, 1 + i, none⟩)) (some 27) 47 26 24 (run_at_arr4 g 1 i hi _) ?_
  refine lin_cel 4 3 (.tmp 27) (.tmp 25) g (1 + i) 49 (ints .i64 [0, -1, -1, -1, -1]) (.int .i64 0) (by kernel_rfl) (by kernel_rfl) (by kernel_rfl) (by kernel_rfl) (by kernel_rfl) G5.out (by simp [ints]; omega) sizeInt rfl rfl ?_
  intro w6 b6 u6 hs6
  refine ldn 5 ?_
  have G6 : Hid (Blk w6 g 49 (ints .i64 (parL i).zs)) := by rw [Hid, ← parL_set hi]; exact b6
  have Z6 : Hid (Blk w6 q 49 (ints .i64 z5)) := u6.blk Z5.out (by have := QG.out; omega)
  have BE6 : Hid (Below q w w6) := u6.below BE5.out (Nat.le_of_lt QG.out) (Nat.le_of_lt Z5.out.lt)
  clear b6 u6 hs6 G5 Z5 BE5
  generalize hact : Act.put _ none undef = act
  simp only [Act.put, sA, sC, sZ] at hact
  subst hact
  go_upto_region 6 with (fail)
  refine lbeg (opsOf Try.f24 6) ?_
  refine lin_load 0 49 (.tmp 5) (g) _ (ints .i64 (parL i).zs) (some 28) (by kernel_rfl) (by kernel_rfl) (by kernel_rfl) (by kernel_rfl) G6.out _ Try.underlying49 rfl (lvSize (l := parL i) (parL_len i)) ?_
  refine lin_put 1 49 (.tmp 4) (.tmp 28) (q) _ (ints .i64 z5) (ints .i64 (parL i).zs) (by kernel_rfl) (by kernel_rfl) (by kernel_rfl) (by kernel_rfl) (by kernel_rfl) Z6.out (lvLen (parL_len i)) (lvSize (l := parL i) (parL_len i)) (ints_oneCell _ _) ?_
  intro w7 b7 u7
  refine ldn 2 ?_
  have B7 := Lib.hid b7
  have BE7 : Hid (Below q w w7) := u7.below BE6.out (Nat.le_refl _) (Nat.le_of_lt Z6.out.lt)
  clear b7 u7
  generalize hact : Act.put _ none undef = act
  simp only [Act.put, sA, sC, sZ] at hact
  subst hact
  go_wp2
  refine bodyPost_ret (v := .agg (ints .i64 ((parL i).zs)).toArray) ?_ rfl ⟨rfl, BE7.out⟩
  exact results_cell_row (g := q) (t := 49) (cs := (ints .i64 ((parL i).zs)).toArray) (fr := (0, 0)) Try.results24 _ _ _ rfl B7.out Try.underlying49 rfl (by rw [List.size_toArray]; exact lvSize (l := parL i) (parL_len i))
theorem run_build_lvs0 (w : World) : (Instr.buildSlice 22 0 #[]).run Try.prog w = .ok (.slice (some ⟨w.heap.size, 0, none⟩) 0 0) (w.alloc (.cells #[] 49)) := by kernel_rfl
/-- A new row of no levels. -/
theorem RowL.new (w : World) : RowL w.heap.size (w.alloc (.cells #[] 49)) (.slice (some ⟨w.heap.size, 0, none⟩) 0 0) [] :=
  ⟨⟨rfl, .inr ⟨w.heap.size, 0, #[], rfl, Nat.le_refl _, heap_alloc_last w _, Nat.le_refl _, by unfold maxLen; omega, rfl, rfl⟩⟩, fun x hx => by cases hx⟩
theorem RowL.lvs {m : Nat} {w : World} {v : Value} {ls : List Lv} (h : RowL m w v ls) (hn : ls.length ≤ 1000) : LvsIn w v ls := by
  obtain ⟨a, cap, h1, h2, -, h4, h5⟩ := RowL.in h
  refine ⟨a, cap, h1, h2, by omega, h4, fun hp => ?_⟩
  obtain ⟨pb, po, e, -, hb, hr⟩ := h5 hp
  exact ⟨pb, po, e, hb, hr⟩
theorem own4_take {i : Nat} (hi : i < 4) : own4.take (i + 1) = own4.take i ++ [parL i] := by
  match i, hi with
  | 0, _ | 1, _ | 2, _ | 3, _ => rfl
theorem instAll_len {bs : List Lv} : ∀ (ls rs : List Lv), instAll bs ls = some rs → rs.length = ls.length
  | [], rs, h => by
    obtain rfl := Option.some.inj h
    rfl
  | l :: ls, rs, h => by
    rw [instAll] at h
    cases h1 : instL l bs with
    | none => rw [h1] at h; cases h
    | some r =>
      rw [h1] at h
      simp only at h
      cases h2 : instAll bs ls with
      | none => rw [h2] at h; cases h
      | some qs =>
        rw [h2] at h
        obtain rfl := Option.some.inj h
        simp [instAll_len ls qs h2]
theorem levG_sm {bs : List Lv} (s : Unit) (k n : Int) (nm : List UInt8) (l : List Lv) (d : Int) (s' : Unit) (r : Tm) (h : levG bs s (.mk k n nm l []) d = some (s', r)) (hs : SmT (.mk k n nm l [])) : SmT r := by
  have e : levG bs s (.mk k n nm l []) d = (instAll bs l).map fun ls => ((), Tm.mk k n nm ls []) := by
    show ((instAll bs l).map fun ls => Tm.mk k n nm ls []).map (fun r => ((), r)) = _
    rw [Option.map_map]
    rfl
  rw [e] at h
  cases h5 : instAll bs l with
  | none => rw [h5] at h; cases h
  | some ls =>
    rw [h5] at h
    cases h
    rw [SmT] at hs ⊢
    rw [instAll_len l ls h5]
    exact hs
theorem levelsO_sm {bs : List Lv} {t y : Tm} (h : levelsO bs t = some y) (hs : SmT t) : SmT y := by
  unfold levelsO levO at h
  split at h
  · cases h1 : rebT (levG bs) () 0 t with
    | none => rw [h1] at h; cases h
    | some p =>
      obtain ⟨u, x⟩ := p
      rw [h1] at h
      obtain rfl := Option.some.inj h
      exact reb_sm (g := levG bs) (levG_sm) h1 hs
  · cases h
set_option maxHeartbeats 8000000 in
theorem levels_main {F : List Nat} (t : Tm) (cs : List Value) (bs : List Lv) (NB : Nat) (ba : Option Addr) (bc : Nat) (w : World) (ht : TmAt F w t cs) (hs : SmT t) (hB : LvsIn w (.slice ba NB bc) bs) (hNB : bs.length = NB) : Calls Try.prog 7 #[.agg cs.toArray, .slice ba NB bc] w fun e w' => e = .returned (.bool true) ∧ Below w.heap.size w w' := by
  have C5 := Lib.hid ht.len
  have HT := Lib.hid ht
  have HB := Lib.hid hB
  have LK := lvOk_of t cs ht
  obtain ⟨q, hq⟩ : ∃ q, Hid (w.heap.size = q) := ⟨_, rfl⟩
  obtain ⟨V, hV⟩ : ∃ y, Hid (rightP 4 1099511627776 t = y) := ⟨_, rfl⟩
  have GW := fun w' (h : TmAt F w' t cs) => great_walk t cs w' h hs
  obtain ⟨gb, hgb⟩ : ∃ y, Hid (decide (3600 < nodesT t) = y) := ⟨_, rfl⟩
  rw [hgb.out] at GW
  clear ht hB
  go_enter Try.func7, Try.ntmps7
  go_upto_region 0 with (fail)
  refine lbeg (opsOf Try.f7 0) ?_
  refine lbox 0 25 (.tmp 0) (cs) (q) (some 2) hq ?_
  intro w1 bw1 bew1 hsw1
  refine lnow 1 (.bool false) (some 4) ?_
  refine ldn 2 ?_
  generalize hact : Act.put _ (some 4) _ = act
  simp only [Act.put, sA, sC, sZ] at hact
  subst hact
  have BQ := Lib.hid bw1
  have BE : Hid (Below w.heap.size w w1) := by rw [Hid, hq.out]; exact bew1
  clear bw1 bew1 hsw1
  go_upto_region 1 with (fail)
  refine lbeg (opsOf Try.f7 1) ?_
  refine lcal 0 16 #[] (some 13) _ (alive9_walk w1) ?_
  rintro e w1 ⟨rfl, hb⟩
  refine ⟨_, rfl, ?_⟩
  have BQ := Lib.hid (BQ.out.below hb BQ.out.lt)
  have BE := Lib.hid (BE.out.trans (hb.mono BE.out.size))
  clear hb
  refine lnow 1 (.bool false) (some 14) ?_
  refine ldn 2 ?_
  generalize hact : Act.put _ (some 14) _ = act
  simp only [Act.put, sA, sC, sZ] at hact
  subst hact
  go_upto_region 3 with (fail)
  refine lbeg (opsOf Try.f7 3) ?_
  refine lrl 0 (cs) (some 15) 25 2 (q) 0 (BQ.out).whole Try.underlying25 (t5Size C5.out) ?_
  refine lcal 1 9 #[.agg cs.toArray] (some 16) _ (GW w1 (HT.out.below BE.out)) ?_
  rintro e w2 ⟨rfl, hb⟩
  refine ⟨_, rfl, ?_⟩
  have BQ := Lib.hid (BQ.out.below hb BQ.out.lt)
  have BE := Lib.hid (BE.out.trans (hb.mono BE.out.size))
  clear hb
  obtain _ | _ := gb
  rotate_left
  · skip
    refine lnow 2 (.bool true) (some 17) ?_
    refine lpas 3 (some 18) ?_
    refine lpas 4 (some 19) ?_
    refine lpas 5 (some 20) ?_
    refine lnow 6 (.bool true) (some 21) ?_
    refine lnow 7 (.bool true) (some 22) ?_
    refine lpas 8 (some 23) ?_
    refine lpas 9 (some 24) ?_
    refine lpas 10 (some 25) ?_
    refine lnow 11 (.bool true) (some 26) ?_
    refine ldn 12 ?_
    generalize hact : Act.put _ (some 26) _ = act
    simp only [Act.put, sA, sC, sZ] at hact
    subst hact
    go_upto_region 4 with (fail)
    refine lbeg (opsOf Try.f7 4) ?_
    refine lnow 0 (.bool true) (some 4) ?_
    refine ldn 1 ?_
    generalize hact : Act.put _ (some 4) _ = act
    simp only [Act.put, sA, sC, sZ] at hact
    subst hact
    go_wp2
    go_ret
    exact ⟨rfl, BE.out⟩
  have NT : Hid (nodesT t ≤ 3600) := by have := of_decide_eq_false hgb.out; rw [Hid]; omega
  clear GW hgb
  refine lnow 2 (.bool false) (some 17) ?_
  refine lrl 3 (cs) (some 18) 25 2 (q) 0 (BQ.out).whole Try.underlying25 (t5Size C5.out) ?_
  refine lcal 4 10 #[.agg cs.toArray] (some 19) _ (any_walk t cs w2 (HT.out.below BE.out) hs) ?_
  rintro e w3 ⟨rfl, hb⟩
  refine ⟨_, rfl, ?_⟩
  have BQ := Lib.hid (BQ.out.below hb BQ.out.lt)
  have BE := Lib.hid (BE.out.trans (hb.mono BE.out.size))
  clear hb
  rw [hV.out]
  obtain _ | _ := V
  · skip
    refine lnow 5 (.bool true) (some 20) ?_
    refine lnow 6 (.bool true) (some 21) ?_
    refine lnow 7 (.bool true) (some 22) ?_
    refine lpas 8 (some 23) ?_
    refine lpas 9 (some 24) ?_
    refine lpas 10 (some 25) ?_
    refine lnow 11 (.bool true) (some 26) ?_
    refine ldn 12 ?_
    generalize hact : Act.put _ (some 26) _ = act
    simp only [Act.put, sA, sC, sZ] at hact
    subst hact
    go_upto_region 4 with (fail)
    refine lbeg (opsOf Try.f7 4) ?_
    refine lnow 0 (.bool true) (some 4) ?_
    refine ldn 1 ?_
    generalize hact : Act.put _ (some 4) _ = act
    simp only [Act.put, sA, sC, sZ] at hact
    subst hact
    go_wp2
    go_ret
    exact ⟨rfl, BE.out⟩
  refine lnow 5 (.bool false) (some 20) ?_
  refine lnow 6 (.bool false) (some 21) ?_
  refine lnow 7 (.bool false) (some 22) ?_
  refine lnow 8 (.slice ba NB bc) (some 23) ?_
  refine lnow 9 (.int .i64 (NB : Int)) (some 24) ?_
  by_cases c1 : (NB : Int) > 10
  · skip
    refine lnow 10 (.bool (decide ((NB : Int) > 10))) (some 25) ?_
    rw [show decide ((NB : Int) > 10) = true from decide_eq_true c1]
    refine lnow 11 (.bool true) (some 26) ?_
    refine ldn 12 ?_
    generalize hact : Act.put _ (some 26) _ = act
    simp only [Act.put, sA, sC, sZ] at hact
    subst hact
    go_upto_region 4 with (fail)
    refine lbeg (opsOf Try.f7 4) ?_
    refine lnow 0 (.bool true) (some 4) ?_
    refine ldn 1 ?_
    generalize hact : Act.put _ (some 4) _ = act
    simp only [Act.put, sA, sC, sZ] at hact
    subst hact
    go_wp2
    go_ret
    exact ⟨rfl, BE.out⟩
  refine lnow 10 (.bool (decide ((NB : Int) > 10))) (some 25) ?_
  rw [show decide ((NB : Int) > 10) = false from decide_eq_false c1]
  refine lnow 11 (.bool false) (some 26) ?_
  refine ldn 12 ?_
  generalize hact : Act.put _ (some 26) _ = act
  simp only [Act.put, sA, sC, sZ] at hact
  subst hact
  have NB10 : Hid (NB ≤ 10) := by rw [Hid]; omega
  clear c1
  obtain ⟨cc, hcc⟩ : ∃ y, Hid (w3.heap.size = y) := ⟨_, rfl⟩
  have hmk := run_build_lvs0 w3
  have hrl := RowL.new w3
  have hb : Below w3.heap.size w3 (w3.alloc (.cells #[] 49)) := (Below.refl _ _).alloc (Nat.le_refl _) _
  generalize w3.alloc (.cells #[] 49) = w4 at hmk hrl hb
  rw [hcc.out] at hmk hrl
  go_upto_region 5 with (fail)
  refine lbeg (opsOf Try.f7 5) ?_
  refine lin_value 0 (.slice (some ⟨cc, 0, none⟩) 0 0) (some 27) w4 (by kernel_rfl) (by kernel_rfl) (exec_of (Instr.buildSlice 22 0 #[]) _ (by kernel_rfl) hmk) ?_
  refine lnow 1 (.slice (some ⟨cc, 0, none⟩) 0 0) (some 5) ?_
  refine ldn 2 ?_
  generalize hact : Act.put _ (some 5) _ = act
  simp only [Act.put, sA, sC, sZ] at hact
  subst hact
  have CQcc : Hid (q < cc) := by rw [Hid, ← hcc.out]; exact BQ.out.lt
  have CWcc : Hid (w.heap.size ≤ cc) := by rw [Hid, ← hcc.out]; exact BE.out.size
  have CL : Hid (cc ≤ w4.heap.size) := by rw [Hid, ← hcc.out]; exact hb.size
  have BQ := Lib.hid (BQ.out.below hb BQ.out.lt)
  have BE := Lib.hid (BE.out.trans (hb.mono BE.out.size))
  have RL := Lib.hid hrl
  clear hmk hrl hb
  go_upto_region 6 with (fail)
  refine lbeg (opsOf Try.f7 6) ?_
  refine lnow 0 (.int .i64 0) (some 6) ?_
  refine ldn 1 ?_
  generalize hact : Act.put _ (some 6) _ = act
  simp only [Act.put, sA, sC, sZ] at hact
  subst hact
  go_wp2
  go_loopw [5, 6] (fun rv iv wr => ∃ (i : Nat) (ra : Option Addr) (rn rc : Nat), i ≤ 4 ∧ iv = .int .i64 (i : Int) ∧ rv = .slice ra rn rc ∧ Hid (RowL cc wr (.slice ra rn rc) (own4.take i)) ∧ Hid (cc ≤ wr.heap.size) ∧ Hid (Blk wr q 25 cs) ∧ Hid (Below w.heap.size w wr)) (fun _ iv _ => 4 - (intOf iv).toNat)
  case atStart => exact ⟨0, _, _, _, Nat.zero_le _, rfl, rfl, RL, CL, BQ, BE⟩
  case round =>
    obtain ⟨i, ra, rn, rc, hi, rfl, rfl, RL, CL, BQ, BE⟩ := hrel
    by_cases hlt : i < 4
    · skip
      have cl : (i : Int) < 4 := by omega
      have LEN : Hid ((own4.take i).length = i) := by rw [Hid, List.length_take]; simp [own4]; omega
      go_upto_region 7 with (fail)
      refine lbeg (opsOf Try.f7 7) ?_
      refine lnow 0 (.int .i64 (i : Int)) (some 28) ?_
      refine lnow 1 (.bool (decide ((i : Int) < 4))) (some 29) ?_
      rw [show decide ((i : Int) < 4) = true from decide_eq_true cl]
      refine ldn 2 ?_
      generalize hact : Act.put _ (some 29) _ = act
      simp only [Act.put, sA, sC, sZ] at hact
      subst hact
      go_upto_region 9 with (fail)
      refine lbeg (opsOf Try.f7 9) ?_
      refine lnow 0 (.slice ra rn rc) (some 32) ?_
      refine lnow 1 (.int .i64 (i : Int)) (some 33) ?_
      refine lcal 2 24 #[.int .i64 (i : Int), .int .i64 0] (some 34) _ (rparam4_walk i hlt wr) ?_
      rintro e w9 ⟨rfl, hb⟩
      refine ⟨_, rfl, ?_⟩
      have BQ := Lib.hid (BQ.out.below hb BQ.out.lt)
      have BE := Lib.hid (BE.out.trans (hb.mono BE.out.size))
      have RL := Lib.hid (RL.out.below hb)
      have CL : Hid (cc ≤ w9.heap.size) := Nat.le_trans CL.out hb.size
      clear hb
      obtain ⟨gr, hgr⟩ : ∃ y, Hid (w9.heap.size = y) := ⟨_, rfl⟩
      refine lin_rowC 3 gr 1 49 (ints .i64 (parL i).zs) (some 35) (by kernel_rfl) (by kernel_rfl) hgr (exec_of _ _ (by kernel_rfl) (run_build_lvs1 (a := parL i) (parL_len i) w9)) ?_
      intro w25 bw hb
      have RL := Lib.hid (RL.out.below hb)
      have CL : Hid (cc ≤ w25.heap.size) := Nat.le_trans CL.out hb.size
      have BQ := Lib.hid (BQ.out.below hb BQ.out.lt)
      have BE := Lib.hid (BE.out.trans (hb.mono BE.out.size))
      obtain ⟨va, w26, hra, hrl, hga⟩ := RowL.append RL.out (parL_len i) bw (by rw [LEN.out]; omega) CL.out
      obtain ⟨va1, va2, va3, rfl⟩ := RowL.slice hrl
      refine lin_value 4 (.slice va1 va2 va3) (some 36) w26 (by kernel_rfl) (by kernel_rfl) (exec_of (Builtin.append_ #[22, 22] 22 #[.slice ra rn rc, .slice (some ⟨gr, 0, none⟩) 1 1]) _ (by kernel_rfl) hra) ?_
      refine lnow 5 (.slice va1 va2 va3) (some 5) ?_
      refine ldn 6 ?_
      generalize hact : Act.put _ (some 5) _ = act
      simp only [Act.put, sA, sC, sZ] at hact
      subst hact
      have hbc : Below cc w25 w26 := grown_below hga CL.out (fun g hg => (RL.out.own g hg).1)
      have BQ : Hid (Blk w26 q 25 cs) := BQ.out.below hbc CQcc.out
      have BE : Hid (Below w.heap.size w w26) := BE.out.trans (hbc.mono CWcc.out)
      have CL : Hid (cc ≤ w26.heap.size) := Nat.le_trans CL.out hbc.size
      have RL : Hid (RowL cc w26 (.slice va1 va2 va3) (own4.take (i + 1))) := by rw [Hid, own4_take hlt]; exact hrl
      clear hra hrl hga hb bw hgr
      clear LEN
      go_wp2
      go_roundw
      case rel => exact ⟨i + 1, va1, va2, va3, by omega, by go_num, rfl, RL, CL, BQ, BE⟩
      case measure => simp [intOf]; omega
    have cl : ¬ (i : Int) < 4 := by omega
    go_upto_region 7 with (fail)
    refine lbeg (opsOf Try.f7 7) ?_
    refine lnow 0 (.int .i64 (i : Int)) (some 28) ?_
    refine lnow 1 (.bool (decide ((i : Int) < 4))) (some 29) ?_
    rw [show decide ((i : Int) < 4) = false from decide_eq_false cl]
    refine ldn 2 ?_
    generalize hact : Act.put _ (some 29) _ = act
    simp only [Act.put, sA, sC, sZ] at hact
    subst hact
    have RO : LvsIn wr (.slice ra rn rc) own4 := by
      have := RL.out
      rw [List.take_of_length_le (by simp [own4]; omega)] at this
      exact RowL.lvs this (by decide)
    have LO := levels_own hV.out LK
    have n3 := NT.out
    have HTr := HT.out.below BE.out
    clear RL CL LK
    have TA := Lib.hid HTr
    clear HTr
    go_upto_region 10 with (fail)
    refine lbeg (opsOf Try.f7 10) ?_
    refine lrl 0 (cs) (some 38) 25 2 (q) 0 (BQ.out).whole Try.underlying25 (t5Size C5.out) ?_
    refine lnow 1 (.slice ra rn rc) (some 39) ?_
    refine lcal 2 25 #[.agg cs.toArray, .slice ra rn rc] (some 40) _ (levels_walk own4 ra rn rc t cs wr TA.out hs (by omega) RO) ?_
    rintro e w27 ⟨cx, rfl, hc, hb⟩
    rw [LO] at hc ⊢
    dsimp only [Option.getD_some, Option.isSome_some] at hc ⊢
    refine ⟨_, rfl, ?_⟩
    have BQ := Lib.hid (BQ.out.below hb BQ.out.lt)
    have BE := Lib.hid (BE.out.trans (hb.mono BE.out.size))
    have TA := Lib.hid (TA.out.below hb)
    clear hb
    have TX : Hid (TmAt [] w27 t cx) := TmAt.sub (fun k hk => by cases hk) _ _ hc
    have TX5 := Lib.hid TX.out.len
    have TX1 := Lib.hid TX.out.one
    clear hc
    clear RO LO
    refine lnow 3 (.tuple #[.agg cx.toArray, .bool true]) (some 37) ?_
    refine lnow 4 (.agg cx.toArray) (some 41) ?_
    refine lnow 5 (.bool true) (some 42) ?_
    obtain ⟨b28, hb28⟩ : ∃ y, Hid (w27.heap.size = y) := ⟨_, rfl⟩
    refine lall 6 25 z5T (b28) (some 7) hb28 ?_
    intro w29 bw29 bew29 hsw29
    refine lin_put 7 25 (.tmp 7) (.tmp 41) (b28) _ (z5T) (cx) (by kernel_rfl) (by kernel_rfl) (by kernel_rfl) (by kernel_rfl) (by kernel_rfl) bw29 (TX5.out.trans (rfl : z5T.length = 5).symm) (t5Size TX5.out) (by simpa using TX1.out) ?_
    intro w30 bw30 uw30
    have hb : Below w27.heap.size w27 w30 := by rw [hb28.out]; exact uw30.below bew29 (Nat.le_refl _) (by have := bew29.size; have := hb28.out; omega)
    have BQ := Lib.hid (BQ.out.below hb BQ.out.lt)
    have BE := Lib.hid (BE.out.trans (hb.mono BE.out.size))
    have TA := Lib.hid (TA.out.below hb)
    have TX := Lib.hid (TX.out.below hb)
    have BTX := Lib.hid bw30
    clear hb bw29 bew29 hsw29 bw30 uw30
    refine lnow 8 (.bool true) (some 8) ?_
    refine ldn 9 ?_
    generalize hact : Act.put _ (some 8) _ = act
    simp only [Act.put, sA, sC, sZ] at hact
    subst hact
    go_upto_region 11 with (fail)
    refine lbeg (opsOf Try.f7 11) ?_
    refine lnow 0 (.bool true) (some 43) ?_
    refine lnow 1 (.bool false) (some 44) ?_
    refine lnow 2 (.bool false) (some 45) ?_
    refine lrl 3 (cx) (some 46) 25 7 (b28) 0 (BTX.out).whole Try.underlying25 (t5Size TX5.out) ?_
    refine lrl 4 (cs) (some 47) 25 2 (q) 0 (BQ.out).whole Try.underlying25 (t5Size C5.out) ?_
    refine lcal 5 13 #[.agg cx.toArray, .agg cs.toArray] (some 48) _ (sameterm_walk t t cx cs w30 [] F TX.out TA.out hs) ?_
    rintro e w31 ⟨rfl, hb⟩
    rw [eqT_yes (rfl : t = t)]
    refine ⟨_, rfl, ?_⟩
    have BQ := Lib.hid (BQ.out.below hb BQ.out.lt)
    have BE := Lib.hid (BE.out.trans (hb.mono BE.out.size))
    have TA := Lib.hid (TA.out.below hb)
    have TX := Lib.hid (TX.out.below hb)
    have BTX := Lib.hid (BTX.out.below hb BTX.out.lt)
    clear hb
    refine lnow 6 (.bool false) (some 49) ?_
    refine lnow 7 (.bool false) (some 50) ?_
    refine ldn 8 ?_
    generalize hact : Act.put _ (some 50) _ = act
    simp only [Act.put, sA, sC, sZ] at hact
    subst hact
    clear TX TX5 TX1 TA BTX
    obtain ⟨ce, hce⟩ : ∃ y, Hid (w31.heap.size = y) := ⟨_, rfl⟩
    have hmk := run_build_lvs0 w31
    have hrl := RowL.new w31
    have hb : Below w31.heap.size w31 (w31.alloc (.cells #[] 49)) := (Below.refl _ _).alloc (Nat.le_refl _) _
    generalize w31.alloc (.cells #[] 49) = w32 at hmk hrl hb
    rw [hce.out] at hmk hrl
    go_upto_region 13 with (fail)
    refine lbeg (opsOf Try.f7 13) ?_
    refine lin_value 0 (.slice (some ⟨ce, 0, none⟩) 0 0) (some 51) w32 (by kernel_rfl) (by kernel_rfl) (exec_of (Instr.buildSlice 22 0 #[]) _ (by kernel_rfl) hmk) ?_
    refine lnow 1 (.slice (some ⟨ce, 0, none⟩) 0 0) (some 9) ?_
    refine ldn 2 ?_
    generalize hact : Act.put _ (some 9) _ = act
    simp only [Act.put, sA, sC, sZ] at hact
    subst hact
    have CQce : Hid (q < ce) := by rw [Hid, ← hce.out]; exact BQ.out.lt
    have CWce : Hid (w.heap.size ≤ ce) := by rw [Hid, ← hce.out]; exact BE.out.size
    have CL : Hid (ce ≤ w32.heap.size) := by rw [Hid, ← hce.out]; exact hb.size
    have BQ := Lib.hid (BQ.out.below hb BQ.out.lt)
    have BE := Lib.hid (BE.out.trans (hb.mono BE.out.size))
    have RL := Lib.hid hrl
    clear hmk hrl hb
    go_upto_region 14 with (fail)
    refine lbeg (opsOf Try.f7 14) ?_
    refine lnow 0 (.int .i64 0) (some 10) ?_
    refine ldn 1 ?_
    generalize hact : Act.put _ (some 10) _ = act
    simp only [Act.put, sA, sC, sZ] at hact
    subst hact
    go_wp2
    go_loopw [9, 10] (fun rv iv wr => ∃ (i : Nat) (ra : Option Addr) (rn rc : Nat) (zs : List Int), i ≤ 4 ∧ i ≤ NB ∧ iv = .int .i64 (i : Int) ∧ rv = .slice ra rn rc ∧ zs.length = i ∧ Hid (RowL ce wr (.slice ra rn rc) (zs.map numL)) ∧ Hid (ce ≤ wr.heap.size) ∧ Hid (Blk wr q 25 cs) ∧ Hid (Below w.heap.size w wr)) (fun _ iv _ => 4 - (intOf iv).toNat)
    case atStart => exact ⟨0, _, _, _, [], Nat.zero_le _, Nat.zero_le _, rfl, rfl, rfl, RL, CL, BQ, BE⟩
    case round =>
      obtain ⟨i, ra2, rn2, rc2, zs, hi, hin, rfl, rfl, hzs, RL, CL, BQ, BE⟩ := hrel
      by_cases hlt : i < 4
      rotate_left
      · skip
        have cl : ¬ (i : Int) < 4 := by omega
        go_upto_region 15 with (fail)
        refine lbeg (opsOf Try.f7 15) ?_
        refine lnow 0 (.int .i64 (i : Int)) (some 52) ?_
        refine lnow 1 (.bool (decide ((i : Int) < 4))) (some 53) ?_
        rw [show decide ((i : Int) < 4) = false from decide_eq_false cl]
        refine lnow 2 (.bool false) (some 54) ?_
        refine lpas 3 (some 55) ?_
        refine lpas 4 (some 56) ?_
        refine lpas 5 (some 57) ?_
        refine lpas 6 (some 58) ?_
        refine lnow 7 (.bool false) (some 59) ?_
        refine ldn 8 ?_
        generalize hact : Act.put _ (some 59) _ = act
        simp only [Act.put, sA, sC, sZ] at hact
        subst hact
        have RO : LvsIn wr (.slice ra2 rn2 rc2) (zs.map numL) := RowL.lvs RL.out (by simp; omega)
        have HC : ∀ x ∈ zs.map numL, ∃ z, x = numL z := fun x hx => by obtain ⟨z, -, rfl⟩ := List.mem_map.1 hx; exact ⟨z, rfl⟩
        have n3 := NT.out
        have TA : Hid (TmAt F wr t cs) := HT.out.below BE.out
        obtain ⟨ls, hls⟩ : ∃ y, Hid (zs.map numL = y) := ⟨_, rfl⟩
        rw [hls.out] at RO HC
        clear RL CL
        go_upto_region 18 with (fail)
        refine lbeg (opsOf Try.f7 18) ?_
        refine lrl 0 (cs) (some 72) 25 2 (q) 0 (BQ.out).whole Try.underlying25 (t5Size C5.out) ?_
        refine lnow 1 (.slice ra2 rn2 rc2) (some 73) ?_
        have LC := fun y (h : levelsO ls t = some y) => levels_closed HC h
        have LS := fun y (h : levelsO ls t = some y) => levelsO_sm h hs
        obtain ⟨R, hR⟩ : ∃ y, Hid (levelsO ls t = y) := ⟨_, rfl⟩
        have LW := levels_walk ls ra2 rn2 rc2 t cs wr TA.out hs (by omega) RO
        rw [hR.out] at LW LC LS
        refine lcal 2 25 #[.agg cs.toArray, .slice ra2 rn2 rc2] (some 74) _ (LW) ?_
        rintro e w33 ⟨cy, rfl, hc, hb⟩
        refine ⟨_, rfl, ?_⟩
        have BQ := Lib.hid (BQ.out.below hb BQ.out.lt)
        have BE := Lib.hid (BE.out.trans (hb.mono BE.out.size))
        have TA := Lib.hid (TA.out.below hb)
        clear hb LW
        obtain _ | y := R
        · skip
          dsimp only [Option.getD_none, Option.isSome_none] at hc ⊢
          have TY : Hid (TmAt [] w33 zT cy) := TmAt.sub (fun k hk => by cases hk) _ _ hc
          have TY5 := Lib.hid TY.out.len
          have TY1 := Lib.hid TY.out.one
          clear hc
          refine lnow 3 (.tuple #[.agg cy.toArray, .bool false]) (some 71) ?_
          refine lnow 4 (.agg cy.toArray) (some 75) ?_
          refine lnow 5 (.bool false) (some 76) ?_
          obtain ⟨b34, hb34⟩ : ∃ y, Hid (w33.heap.size = y) := ⟨_, rfl⟩
          refine lall 6 25 z5T (b34) (some 11) hb34 ?_
          intro w35 bw35 bew35 hsw35
          refine lin_put 7 25 (.tmp 11) (.tmp 75) (b34) _ (z5T) (cy) (by kernel_rfl) (by kernel_rfl) (by kernel_rfl) (by kernel_rfl) (by kernel_rfl) bw35 (TY5.out.trans (rfl : z5T.length = 5).symm) (t5Size TY5.out) (by simpa using TY1.out) ?_
          intro w36 bw36 uw36
          have hb : Below w33.heap.size w33 w36 := by rw [hb34.out]; exact uw36.below bew35 (Nat.le_refl _) (by have := bew35.size; have := hb34.out; omega)
          have BQ := Lib.hid (BQ.out.below hb BQ.out.lt)
          have BE := Lib.hid (BE.out.trans (hb.mono BE.out.size))
          have TA := Lib.hid (TA.out.below hb)
          have TY := Lib.hid (TY.out.below hb)
          have BTY := Lib.hid bw36
          clear hb bw35 bew35 hsw35 bw36 uw36
          refine lnow 8 (.bool false) (some 12) ?_
          refine ldn 9 ?_
          generalize hact : Act.put _ (some 12) _ = act
          simp only [Act.put, sA, sC, sZ] at hact
          subst hact
          go_upto_region 19 with (fail)
          refine lbeg (opsOf Try.f7 19) ?_
          refine lnow 0 (.bool false) (some 77) ?_
          refine lnow 1 (.bool true) (some 78) ?_
          refine lnow 2 (.bool true) (some 79) ?_
          refine lpas 3 (some 80) ?_
          refine lpas 4 (some 81) ?_
          refine lnow 5 (.bool true) (some 82) ?_
          refine lnow 6 (.bool true) (some 4) ?_
          refine ldn 7 ?_
          generalize hact : Act.put _ (some 4) _ = act
          simp only [Act.put, sA, sC, sZ] at hact
          subst hact
          go_wp2
          go_ret
          exact ⟨rfl, BE.out⟩
        dsimp only [Option.getD_some, Option.isSome_some] at hc ⊢
        have YR := LC y rfl
        have YS := LS y rfl
        have TY : Hid (TmAt [] w33 y cy) := TmAt.sub (fun k hk => by cases hk) _ _ hc
        have TY5 := Lib.hid TY.out.len
        have TY1 := Lib.hid TY.out.one
        clear hc
        refine lnow 3 (.tuple #[.agg cy.toArray, .bool true]) (some 71) ?_
        refine lnow 4 (.agg cy.toArray) (some 75) ?_
        refine lnow 5 (.bool true) (some 76) ?_
        obtain ⟨b34, hb34⟩ : ∃ y, Hid (w33.heap.size = y) := ⟨_, rfl⟩
        refine lall 6 25 z5T (b34) (some 11) hb34 ?_
        intro w35 bw35 bew35 hsw35
        refine lin_put 7 25 (.tmp 11) (.tmp 75) (b34) _ (z5T) (cy) (by kernel_rfl) (by kernel_rfl) (by kernel_rfl) (by kernel_rfl) (by kernel_rfl) bw35 (TY5.out.trans (rfl : z5T.length = 5).symm) (t5Size TY5.out) (by simpa using TY1.out) ?_
        intro w36 bw36 uw36
        have hb : Below w33.heap.size w33 w36 := by rw [hb34.out]; exact uw36.below bew35 (Nat.le_refl _) (by have := bew35.size; have := hb34.out; omega)
        have BQ := Lib.hid (BQ.out.below hb BQ.out.lt)
        have BE := Lib.hid (BE.out.trans (hb.mono BE.out.size))
        have TA := Lib.hid (TA.out.below hb)
        have TY := Lib.hid (TY.out.below hb)
        have BTY := Lib.hid bw36
        clear hb bw35 bew35 hsw35 bw36 uw36
        refine lnow 8 (.bool true) (some 12) ?_
        refine ldn 9 ?_
        generalize hact : Act.put _ (some 12) _ = act
        simp only [Act.put, sA, sC, sZ] at hact
        subst hact
        go_upto_region 19 with (fail)
        refine lbeg (opsOf Try.f7 19) ?_
        refine lnow 0 (.bool true) (some 77) ?_
        refine lnow 1 (.bool false) (some 78) ?_
        refine lnow 2 (.bool false) (some 79) ?_
        refine lrl 3 (cy) (some 80) 25 11 (b34) 0 (BTY.out).whole Try.underlying25 (t5Size TY5.out) ?_
        refine lcal 4 27 #[.agg cy.toArray, .int .i64 0, .int .i64 1099511627776] (some 81) _ (rR_walk y cy w36 0 1099511627776 TY.out YS) ?_
        rintro e w37 ⟨rfl, hb⟩
        rw [YR]
        refine ⟨_, rfl, ?_⟩
        have BQ := Lib.hid (BQ.out.below hb BQ.out.lt)
        have BE := Lib.hid (BE.out.trans (hb.mono BE.out.size))
        have TA := Lib.hid (TA.out.below hb)
        have TY := Lib.hid (TY.out.below hb)
        have BTY := Lib.hid (BTY.out.below hb BTY.out.lt)
        clear hb
        refine lnow 5 (.bool true) (some 82) ?_
        refine lnow 6 (.bool true) (some 4) ?_
        refine ldn 7 ?_
        generalize hact : Act.put _ (some 4) _ = act
        simp only [Act.put, sA, sC, sZ] at hact
        subst hact
        go_wp2
        go_ret
        exact ⟨rfl, BE.out⟩
      have cl : (i : Int) < 4 := by omega
      by_cases hln : i < NB
      rotate_left
      · skip
        have cn : ¬ (i : Int) < (NB : Int) := by omega
        go_upto_region 15 with (fail)
        refine lbeg (opsOf Try.f7 15) ?_
        refine lnow 0 (.int .i64 (i : Int)) (some 52) ?_
        refine lnow 1 (.bool (decide ((i : Int) < 4))) (some 53) ?_
        rw [show decide ((i : Int) < 4) = true from decide_eq_true cl]
        refine lnow 2 (.bool true) (some 54) ?_
        refine lnow 3 (.int .i64 (i : Int)) (some 55) ?_
        refine lnow 4 (.slice ba NB bc) (some 56) ?_
        refine lnow 5 (.int .i64 (NB : Int)) (some 57) ?_
        refine lnow 6 (.bool (decide ((i : Int) < (NB : Int)))) (some 58) ?_
        rw [show decide ((i : Int) < (NB : Int)) = false from decide_eq_false cn]
        refine lnow 7 (.bool false) (some 59) ?_
        refine ldn 8 ?_
        generalize hact : Act.put _ (some 59) _ = act
        simp only [Act.put, sA, sC, sZ] at hact
        subst hact
        have RO : LvsIn wr (.slice ra2 rn2 rc2) (zs.map numL) := RowL.lvs RL.out (by simp; omega)
        have HC : ∀ x ∈ zs.map numL, ∃ z, x = numL z := fun x hx => by obtain ⟨z, -, rfl⟩ := List.mem_map.1 hx; exact ⟨z, rfl⟩
        have n3 := NT.out
        have TA : Hid (TmAt F wr t cs) := HT.out.below BE.out
        obtain ⟨ls, hls⟩ : ∃ y, Hid (zs.map numL = y) := ⟨_, rfl⟩
        rw [hls.out] at RO HC
        clear RL CL
        go_upto_region 18 with (fail)
        refine lbeg (opsOf Try.f7 18) ?_
        refine lrl 0 (cs) (some 72) 25 2 (q) 0 (BQ.out).whole Try.underlying25 (t5Size C5.out) ?_
        refine lnow 1 (.slice ra2 rn2 rc2) (some 73) ?_
        have LC := fun y (h : levelsO ls t = some y) => levels_closed HC h
        have LS := fun y (h : levelsO ls t = some y) => levelsO_sm h hs
        obtain ⟨R, hR⟩ : ∃ y, Hid (levelsO ls t = y) := ⟨_, rfl⟩
        have LW := levels_walk ls ra2 rn2 rc2 t cs wr TA.out hs (by omega) RO
        rw [hR.out] at LW LC LS
        refine lcal 2 25 #[.agg cs.toArray, .slice ra2 rn2 rc2] (some 74) _ (LW) ?_
        rintro e w33 ⟨cy, rfl, hc, hb⟩
        refine ⟨_, rfl, ?_⟩
        have BQ := Lib.hid (BQ.out.below hb BQ.out.lt)
        have BE := Lib.hid (BE.out.trans (hb.mono BE.out.size))
        have TA := Lib.hid (TA.out.below hb)
        clear hb LW
        obtain _ | y := R
        · skip
          dsimp only [Option.getD_none, Option.isSome_none] at hc ⊢
          have TY : Hid (TmAt [] w33 zT cy) := TmAt.sub (fun k hk => by cases hk) _ _ hc
          have TY5 := Lib.hid TY.out.len
          have TY1 := Lib.hid TY.out.one
          clear hc
          refine lnow 3 (.tuple #[.agg cy.toArray, .bool false]) (some 71) ?_
          refine lnow 4 (.agg cy.toArray) (some 75) ?_
          refine lnow 5 (.bool false) (some 76) ?_
          obtain ⟨b34, hb34⟩ : ∃ y, Hid (w33.heap.size = y) := ⟨_, rfl⟩
          refine lall 6 25 z5T (b34) (some 11) hb34 ?_
          intro w35 bw35 bew35 hsw35
          refine lin_put 7 25 (.tmp 11) (.tmp 75) (b34) _ (z5T) (cy) (by kernel_rfl) (by kernel_rfl) (by kernel_rfl) (by kernel_rfl) (by kernel_rfl) bw35 (TY5.out.trans (rfl : z5T.length = 5).symm) (t5Size TY5.out) (by simpa using TY1.out) ?_
          intro w36 bw36 uw36
          have hb : Below w33.heap.size w33 w36 := by rw [hb34.out]; exact uw36.below bew35 (Nat.le_refl _) (by have := bew35.size; have := hb34.out; omega)
          have BQ := Lib.hid (BQ.out.below hb BQ.out.lt)
          have BE := Lib.hid (BE.out.trans (hb.mono BE.out.size))
          have TA := Lib.hid (TA.out.below hb)
          have TY := Lib.hid (TY.out.below hb)
          have BTY := Lib.hid bw36
          clear hb bw35 bew35 hsw35 bw36 uw36
          refine lnow 8 (.bool false) (some 12) ?_
          refine ldn 9 ?_
          generalize hact : Act.put _ (some 12) _ = act
          simp only [Act.put, sA, sC, sZ] at hact
          subst hact
          go_upto_region 19 with (fail)
          refine lbeg (opsOf Try.f7 19) ?_
          refine lnow 0 (.bool false) (some 77) ?_
          refine lnow 1 (.bool true) (some 78) ?_
          refine lnow 2 (.bool true) (some 79) ?_
          refine lpas 3 (some 80) ?_
          refine lpas 4 (some 81) ?_
          refine lnow 5 (.bool true) (some 82) ?_
          refine lnow 6 (.bool true) (some 4) ?_
          refine ldn 7 ?_
          generalize hact : Act.put _ (some 4) _ = act
          simp only [Act.put, sA, sC, sZ] at hact
          subst hact
          go_wp2
          go_ret
          exact ⟨rfl, BE.out⟩
        dsimp only [Option.getD_some, Option.isSome_some] at hc ⊢
        have YR := LC y rfl
        have YS := LS y rfl
        have TY : Hid (TmAt [] w33 y cy) := TmAt.sub (fun k hk => by cases hk) _ _ hc
        have TY5 := Lib.hid TY.out.len
        have TY1 := Lib.hid TY.out.one
        clear hc
        refine lnow 3 (.tuple #[.agg cy.toArray, .bool true]) (some 71) ?_
        refine lnow 4 (.agg cy.toArray) (some 75) ?_
        refine lnow 5 (.bool true) (some 76) ?_
        obtain ⟨b34, hb34⟩ : ∃ y, Hid (w33.heap.size = y) := ⟨_, rfl⟩
        refine lall 6 25 z5T (b34) (some 11) hb34 ?_
        intro w35 bw35 bew35 hsw35
        refine lin_put 7 25 (.tmp 11) (.tmp 75) (b34) _ (z5T) (cy) (by kernel_rfl) (by kernel_rfl) (by kernel_rfl) (by kernel_rfl) (by kernel_rfl) bw35 (TY5.out.trans (rfl : z5T.length = 5).symm) (t5Size TY5.out) (by simpa using TY1.out) ?_
        intro w36 bw36 uw36
        have hb : Below w33.heap.size w33 w36 := by rw [hb34.out]; exact uw36.below bew35 (Nat.le_refl _) (by have := bew35.size; have := hb34.out; omega)
        have BQ := Lib.hid (BQ.out.below hb BQ.out.lt)
        have BE := Lib.hid (BE.out.trans (hb.mono BE.out.size))
        have TA := Lib.hid (TA.out.below hb)
        have TY := Lib.hid (TY.out.below hb)
        have BTY := Lib.hid bw36
        clear hb bw35 bew35 hsw35 bw36 uw36
        refine lnow 8 (.bool true) (some 12) ?_
        refine ldn 9 ?_
        generalize hact : Act.put _ (some 12) _ = act
        simp only [Act.put, sA, sC, sZ] at hact
        subst hact
        go_upto_region 19 with (fail)
        refine lbeg (opsOf Try.f7 19) ?_
        refine lnow 0 (.bool true) (some 77) ?_
        refine lnow 1 (.bool false) (some 78) ?_
        refine lnow 2 (.bool false) (some 79) ?_
        refine lrl 3 (cy) (some 80) 25 11 (b34) 0 (BTY.out).whole Try.underlying25 (t5Size TY5.out) ?_
        refine lcal 4 27 #[.agg cy.toArray, .int .i64 0, .int .i64 1099511627776] (some 81) _ (rR_walk y cy w36 0 1099511627776 TY.out YS) ?_
        rintro e w37 ⟨rfl, hb⟩
        rw [YR]
        refine ⟨_, rfl, ?_⟩
        have BQ := Lib.hid (BQ.out.below hb BQ.out.lt)
        have BE := Lib.hid (BE.out.trans (hb.mono BE.out.size))
        have TA := Lib.hid (TA.out.below hb)
        have TY := Lib.hid (TY.out.below hb)
        have BTY := Lib.hid (BTY.out.below hb BTY.out.lt)
        clear hb
        refine lnow 5 (.bool true) (some 82) ?_
        refine lnow 6 (.bool true) (some 4) ?_
        refine ldn 7 ?_
        generalize hact : Act.put _ (some 4) _ = act
        simp only [Act.put, sA, sC, sZ] at hact
        subst hact
        go_wp2
        go_ret
        exact ⟨rfl, BE.out⟩
      have cn : (i : Int) < (NB : Int) := by omega
      obtain ⟨m, pb, po, hm, hmm, hm4, hba, hpb, hrg⟩ := LvsIn.get (HB.out.below BE.out (Nat.le_refl _)) hNB hln
      subst hba
      have RG := Lib.hid hrg
      obtain ⟨mz, hmz⟩ : ∃ y, m.b = y := ⟨_, rfl⟩
      clear hm hmm hpb hrg
      go_upto_region 15 with (fail)
      refine lbeg (opsOf Try.f7 15) ?_
      refine lnow 0 (.int .i64 (i : Int)) (some 52) ?_
      refine lnow 1 (.bool (decide ((i : Int) < 4))) (some 53) ?_
      rw [show decide ((i : Int) < 4) = true from decide_eq_true cl]
      refine lnow 2 (.bool true) (some 54) ?_
      refine lnow 3 (.int .i64 (i : Int)) (some 55) ?_
      refine lnow 4 (.slice (some ⟨pb, po, none⟩) NB bc) (some 56) ?_
      refine lnow 5 (.int .i64 (NB : Int)) (some 57) ?_
      refine lnow 6 (.bool (decide ((i : Int) < (NB : Int)))) (some 58) ?_
      rw [show decide ((i : Int) < (NB : Int)) = true from decide_eq_true cn]
      refine lnow 7 (.bool true) (some 59) ?_
      refine ldn 8 ?_
      generalize hact : Act.put _ (some 59) _ = act
      simp only [Act.put, sA, sC, sZ] at hact
      subst hact
      go_upto_region 17 with (fail)
      refine lbeg (opsOf Try.f7 17) ?_
      refine lnow 0 (.slice ra2 rn2 rc2) (some 62) ?_
      refine lnow 1 (.slice (some ⟨pb, po, none⟩) NB bc) (some 63) ?_
      refine lnow 2 (.int .i64 (i : Int)) (some 64) ?_
      refine lix 3 (.pointer (some ⟨pb, po + 5 * i, none⟩)) (some 65) 22 63 64 (run_at_lv pb po NB bc i hln _) ?_
      refine lnow 4 (.pointer (some ⟨pb, po + 5 * i + 0, none⟩)) (some 66) ?_
      refine lcl 5 (.int .i64 mz) (some 67) 3 66 pb (po + 5 * i + 0) (RG.out 0 _ (by rw [← hmz]; rfl)) Try.underlying3 ?_
      refine lcal 6 26 #[.int .i64 mz] (some 68) _ (rnum7_walk mz wr) ?_
      rintro e w9 ⟨rfl, hb⟩
      refine ⟨_, rfl, ?_⟩
      have BQ := Lib.hid (BQ.out.below hb BQ.out.lt)
      have BE := Lib.hid (BE.out.trans (hb.mono BE.out.size))
      have RL := Lib.hid (RL.out.below hb)
      have CL : Hid (ce ≤ w9.heap.size) := Nat.le_trans CL.out hb.size
      clear hb RG
      obtain ⟨gr, hgr⟩ : ∃ y, Hid (w9.heap.size = y) := ⟨_, rfl⟩
      refine lin_rowC 7 gr 1 49 (ints .i64 (numL mz).zs) (some 69) (by kernel_rfl) (by kernel_rfl) hgr (exec_of _ _ (by kernel_rfl) (run_build_lvs1 (a := numL mz) rfl w9)) ?_
      intro w53 bw hb
      have RL := Lib.hid (RL.out.below hb)
      have CL : Hid (ce ≤ w53.heap.size) := Nat.le_trans CL.out hb.size
      have BQ := Lib.hid (BQ.out.below hb BQ.out.lt)
      have BE := Lib.hid (BE.out.trans (hb.mono BE.out.size))
      obtain ⟨va, w54, hra, hrl, hga⟩ := RowL.append RL.out rfl bw (by rw [List.length_map, hzs]; omega) CL.out
      obtain ⟨va1, va2, va3, rfl⟩ := RowL.slice hrl
      refine lin_value 8 (.slice va1 va2 va3) (some 70) w54 (by kernel_rfl) (by kernel_rfl) (exec_of (Builtin.append_ #[22, 22] 22 #[.slice ra2 rn2 rc2, .slice (some ⟨gr, 0, none⟩) 1 1]) _ (by kernel_rfl) hra) ?_
      refine lnow 9 (.slice va1 va2 va3) (some 9) ?_
      refine ldn 10 ?_
      generalize hact : Act.put _ (some 9) _ = act
      simp only [Act.put, sA, sC, sZ] at hact
      subst hact
      have hbc : Below ce w53 w54 := grown_below hga CL.out (fun g hg => (RL.out.own g hg).1)
      have BQ : Hid (Blk w54 q 25 cs) := BQ.out.below hbc CQce.out
      have BE : Hid (Below w.heap.size w w54) := BE.out.trans (hbc.mono CWce.out)
      have CL : Hid (ce ≤ w54.heap.size) := Nat.le_trans CL.out hbc.size
      have RL : Hid (RowL ce w54 (.slice va1 va2 va3) ((zs ++ [mz]).map numL)) := by rw [Hid, List.map_append]; exact hrl
      clear hra hrl hga hb bw hgr
      go_wp2
      go_roundw
      case rel => exact ⟨i + 1, va1, va2, va3, zs ++ [mz], by omega, by omega, by go_num, rfl, by simp [hzs], RL, CL, BQ, BE⟩
      case measure => simp [intOf]; omega
theorem levels_all {F : List Nat} (t : Tm) (cs : List Value) (bs : List Lv) (v : Value) (w : World) (ht : TmAt F w t cs) (hs : SmT t) (hB : LvsIn w v bs) : Calls Try.prog 7 #[.agg cs.toArray, v] w fun e w' => e = .returned (.bool true) ∧ Below w.heap.size w w' := by
  have h := hB
  obtain ⟨a, cap, rfl, -⟩ := h
  exact levels_main t cs bs _ a cap w ht hs hB rfl
end Go.Proofs.Ytndbpmkglddjjaa
