/- Package move: slices.Index over names, pulled, Pull. -/
import Derived.Test.YtndbpmkglddjjaaQGenT
import Derived.Test.YtndbpmkglddjjaaQMovD
import Derived.Test.YtndbpmkglddjjaaQTrmQ
namespace Go.Proofs.Ytndbpmkglddjjaa
open Go Go.RowKit
set_option maxRecDepth 100000
/-- A slice of names. -/
def NmsAt (w : World) (v : Value) (l : List (List UInt8)) : Prop := ∃ a c, v = .slice a l.length c ∧ (0 < l.length → ∃ b o, a = some ⟨b, o, none⟩ ∧ b < w.heap.size ∧ w.rangeAt b o (l.map strT))
theorem NmsAt.bel {w w' : World} {v : Value} {l : List (List UInt8)} (h : NmsAt w v l) (hb : Bel [] w.heap.size w w') : NmsAt w' v l := by
  obtain ⟨a, c, h1, h2⟩ := h
  refine ⟨a, c, h1, fun hp => ?_⟩
  obtain ⟨b, o, h3, h4, h5⟩ := h2 hp
  exact ⟨b, o, h3, Nat.lt_of_lt_of_le h4 hb.size, rng_low h5 (hb.below (fun k hk => by cases hk)) h4⟩
theorem NmsAt.below {w w' : World} {v : Value} {l : List (List UInt8)} (h : NmsAt w v l) (hb : Below w.heap.size w w') : NmsAt w' v l := h.bel (Bel.of hb)
theorem NmsAt.slice {w : World} {v : Value} {l : List (List UInt8)} (h : NmsAt w v l) : ∃ a c, v = .slice a l.length c := by obtain ⟨a, c, h1, -⟩ := h; exact ⟨a, c, h1⟩
theorem NmsAt.get {w : World} {a : Option Addr} {n c : Nat} {l : List (List UInt8)} (h : NmsAt w (.slice a n c) l) (hn : l.length = n) {i : Nat} (hi : i < n) : ∃ x b o, l[i]? = some x ∧ a = some ⟨b, o, none⟩ ∧ b < w.heap.size ∧ w.cell? ⟨b, o + i, none⟩ = some (strT x) := by
  obtain ⟨a', c', h1, h2⟩ := h
  cases h1
  obtain ⟨b, o, h3, h4, h5⟩ := h2 (by omega)
  obtain ⟨x, hx⟩ : ∃ x, l[i]? = some x := ⟨_, List.getElem?_eq_getElem (by omega)⟩
  exact ⟨x, b, o, hx, h3, h4, StrsAt.cell h5 hx⟩
theorem NmsAt.of {w : World} {b o c : Nat} {l : List (List UInt8)} (hb : b < w.heap.size) (h : w.rangeAt b o (l.map strT)) : NmsAt w (.slice (some ⟨b, o, none⟩) l.length c) l := ⟨_, _, rfl, fun _ => ⟨b, o, rfl, hb, h⟩⟩
theorem NmsAt.nil (w : World) (a : Option Addr) (c : Nat) : NmsAt w (.slice a 0 c) [] := ⟨a, c, rfl, fun h => by simp at h⟩
/-- Where a name stands first, -1 where it does not. -/
def idxFrom (s : List UInt8) (i : Nat) : List (List UInt8) → Int
  | [] => -1
  | x :: xs => if s = x then (i : Int) else idxFrom s (i + 1) xs
theorem idx_range (s : List UInt8) : ∀ (l : List (List UInt8)) (i : Nat), idxFrom s i l = -1 ∨ ((i : Int) ≤ idxFrom s i l ∧ idxFrom s i l < (i : Int) + l.length)
  | [], i => .inl rfl
  | x :: xs, i => by
    rw [idxFrom]
    split
    · right; simp; omega
    · rcases idx_range s xs (i + 1) with h | h
      · exact .inl h
      · right; simp; omega
def pullN (ns : List (List UInt8)) (t : Tm) (d : Int) : Option Tm := some (
  if t.kind = 1 then (if d ≤ t.n then .mk t.kind (t.n + (ns.length : Int)) t.name t.levels t.args else t)
  else if t.kind = 4 then (if 0 ≤ idxFrom t.name 0 ns ∧ t.levels.length = 0 then .mk 1 ((ns.length : Int) - 1 - idxFrom t.name 0 ns + d) [] [] [] else t)
  else t)
def pullG (ns : List (List UInt8)) (_ : Unit) (t : Tm) (d : Int) : Option (Unit × Tm) := (pullN ns t d).map fun r => ((), r)
def pulledO (ns : List (List UInt8)) (t : Tm) : Option Tm := (rebT (pullG ns) () 0 t).map (·.2)
theorem pullG_sm {ns : List (List UInt8)} (s : Unit) (k n : Int) (nm : List UInt8) (l : List Lv) (d : Int) (s' : Unit) (r : Tm) (h : pullG ns s (.mk k n nm l []) d = some (s', r)) (hs : SmT (.mk k n nm l [])) : SmT r := by
  unfold pullG pullN at h
  simp only [Option.map_some, Option.some.injEq, Prod.mk.injEq] at h
  obtain ⟨-, rfl⟩ := h
  have hs' := hs
  rw [SmT] at hs'
  split
  · split
    · simp only [Tm.kind, Tm.n, Tm.name, Tm.levels, Tm.args]
      rw [SmT]
      exact hs'
    · exact hs
  · split
    · split
      · rw [SmT]
        exact ⟨by simp [show reachBytes = 140737488351232 from rfl], by simp [show reachBytes = 140737488351232 from rfl], by simp [show reachBytes = 140737488351232 from rfl], by simp [SmTs]⟩
      · exact hs
    · exact hs
theorem pullG_nodes {ns : List (List UInt8)} (s : Unit) (k n : Int) (nm : List UInt8) (l : List Lv) (d : Int) (s' : Unit) (r : Tm) (h : pullG ns s (.mk k n nm l []) d = some (s', r)) : (nodesT r : Int) + (0 : Int) ≤ (nodesT (.mk k n nm l []) : Int) + 0 := by
  unfold pullG pullN at h
  simp only [Option.map_some, Option.some.injEq, Prod.mk.injEq] at h
  obtain ⟨-, rfl⟩ := h
  split
  · split
    · simp [nodesT, Tm.levels, Tm.args]
    · omega
  · split
    · split
      · simp [nodesT, nodesTs]
        omega
      · omega
    · omega
theorem pulledO_sm {ns : List (List UInt8)} {t r : Tm} (h : pulledO ns t = some r) (hs : SmT t) : SmT r ∧ nodesT r ≤ nodesT t := by
  unfold pulledO at h
  cases h1 : rebT (pullG ns) () 0 t with
  | none => rw [h1] at h; cases h
  | some p =>
    obtain ⟨s', r'⟩ := p
    rw [h1] at h
    cases h
    refine ⟨reb_sm (g := pullG ns) pullG_sm h1 hs, ?_⟩
    have := reb_nodes (g := pullG ns) (ν := fun _ => 0) pullG_nodes h1
    show nodesT r' ≤ nodesT t
    omega
set_option maxHeartbeats 4000000 in
theorem index_walk (l : List (List UInt8)) (s : List UInt8) (v : Value) (w : World) (h : NmsAt w v l) (hl : l.length ≤ 2000000000000) : Calls Try.prog 108 #[v, strT s] w fun e w' => e = .returned (.int .i64 (idxFrom s 0 l)) ∧ w' = w := by
  obtain ⟨na, nc, rfl⟩ := h.slice
  obtain ⟨M, hM⟩ : ∃ M, Hid (l.length = M) := ⟨_, rfl⟩
  rw [hM.out] at h hl ⊢
  have HN := Lib.hid h
  clear h
  go_enter Try.func108, Try.ntmps108
  go_upto_region 0 with (fail)
  refine lbeg (opsOf Try.f108 0) ?_
  refine lnow 0 (.int .i64 0) (some 4) ?_
  refine ldn 1 ?_
  generalize hact : Act.put _ (some 4) _ = act
  simp only [Act.put, sA, sC, sZ] at hact
  subst hact
  go_upto_region 1 with (fail)
  refine lbeg (opsOf Try.f108 1) ?_
  refine lnow 0 (.slice na M nc) (some 6) ?_
  refine lnow 1 (.int .i64 (M : Int)) (some 7) ?_
  refine lnow 2 (.int .i64 0) (some 8) ?_
  refine ldn 3 ?_
  generalize hact : Act.put _ (some 8) _ = act
  simp only [Act.put, sA, sC, sZ] at hact
  subst hact
  go_wp2
  go_loop [8] (fun iv => ∃ i : Nat, i ≤ M ∧ iv = .int .i64 (i : Int) ∧ Hid (idxFrom s 0 l = idxFrom s i (l.drop i))) (fun iv => M - (intOf iv).toNat)
  case atStart => exact ⟨0, Nat.zero_le _, rfl, by rw [Hid]; rfl⟩
  case round =>
    obtain ⟨i, hi, rfl, HI⟩ := hrel
    by_cases hlt : i < M
    rotate_left
    · skip
      have rlt : ¬ (i : Int) < (M : Int) := by omega
      have FIN : Hid (idxFrom s 0 l = -1) := by have h := HI.out; rw [List.drop_eq_nil_of_le (by have := hM.out; omega)] at h; exact h
      go_upto_region 7 with (fail)
      refine lbeg (opsOf Try.f108 7) ?_
      refine lnow 0 (.int .i64 (-1)) (some 4) ?_
      refine ldn 1 ?_
      generalize hact : Act.put _ (some 4) _ = act
      simp only [Act.put, sA, sC, sZ] at hact
      subst hact
      go_wp2
      go_ret
      exact ⟨by rw [FIN.out]; rfl, rfl⟩
    have rlt : (i : Int) < (M : Int) := by omega
    obtain ⟨x, pb, po, hx, rfl, -, hc⟩ := HN.out.get hM.out hlt
    have DR : l.drop i = x :: l.drop (i + 1) := by rw [List.drop_eq_getElem?_toList_append, hx]; rfl
    have HI2 := HI.out
    rw [DR, idxFrom] at HI2
    have HC := Lib.hid hc
    clear hc HI DR
    go_upto_region 3 with (fail)
    refine lbeg (opsOf Try.f108 3) ?_
    refine lnow 0 (.int .i64 (i : Int)) (some 10) ?_
    refine lnow 1 (.int .i64 (i : Int)) (some 5) ?_
    refine ldn 2 ?_
    generalize hact : Act.put _ (some 5) _ = act
    simp only [Act.put, sA, sC, sZ] at hact
    subst hact
    go_upto_region 4 with (fail)
    refine lbeg (opsOf Try.f108 4) ?_
    refine lnow 0 (strT s) (some 11) ?_
    refine lnow 1 (.slice (some ⟨pb, po, none⟩) M nc) (some 12) ?_
    refine lnow 2 (.int .i64 (i : Int)) (some 13) ?_
    refine lix 3 (.pointer (some ⟨pb, po + i, none⟩)) (some 14) 44 12 13 (run_at_str pb po M nc i hlt _) ?_
    refine lcl 4 (strT x) (some 15) 9 14 pb (po + i) HC.out Try.underlying9 ?_
    refine lnowP 5 (.bool (decide (s = x))) (some 16) (exec_streqT 9 9 (.tmp 11) (.tmp 15) (by kernel_rfl) s x (by kernel_rfl) (by kernel_rfl) (fun _ => rfl)) ?_
    by_cases he : s = x
    · skip
      rw [show decide (s = x) = true from decide_eq_true he]
      rw [if_pos he] at HI2
      have HI3 := Lib.hid HI2
      clear HI2 he
      refine ldn 6 ?_
      generalize hact : Act.put _ (some 16) _ = act
      simp only [Act.put, sA, sC, sZ] at hact
      subst hact
      go_upto_region 5 with (fail)
      refine lbeg (opsOf Try.f108 5) ?_
      refine lnow 0 (.int .i64 (i : Int)) (some 17) ?_
      refine lnow 1 (.int .i64 (i : Int)) (some 4) ?_
      refine ldn 2 ?_
      generalize hact : Act.put _ (some 4) _ = act
      simp only [Act.put, sA, sC, sZ] at hact
      subst hact
      go_wp2
      go_ret
      exact ⟨by rw [HI3.out]; rfl, rfl⟩
    rw [show decide (s = x) = false from decide_eq_false he]
    rw [if_neg he] at HI2
    have HI3 := Lib.hid HI2
    clear HI2 he
    refine ldn 6 ?_
    generalize hact : Act.put _ (some 16) _ = act
    simp only [Act.put, sA, sC, sZ] at hact
    subst hact
    have bl := hl
    go_wp2
    go_round
    case rel => exact ⟨i + 1, by omega, by go_num, HI3⟩
    case measure => simp [intOf]; omega
set_option maxHeartbeats 8000000 in
theorem pulled1_walk (ns : List (List UInt8)) (M : Nat) (na : Option Addr) (nc : Nat) (bn : Nat) (t : Tm) (d : Int) (cs : List Value) (w : World) (B : Nat) (hM : ns.length = M) (hMb : M ≤ 2000000000000) (ha : t.args = []) (hn : 0 ≤ t.n ∧ t.n ≤ 1125899906842624) (hd : 0 ≤ d ∧ d ≤ 1125899906842624) (ht : TmAt (List.range B) w t cs) (_hB : B ≤ w.heap.size) (hb : Blk w bn 44 [.slice na M nc]) (hm : NmsAt w (.slice na M nc) ns) :
    Calls Try.prog 107 #[.agg cs.toArray, .int .i64 d, .pointer (some ⟨bn, 0, none⟩)] w (Made (pullN ns t d) B w) := by
  obtain ⟨k, n, nm, ls, a⟩ := t
  dsimp only [Tm.kind, Tm.n, Tm.name, Tm.levels, Tm.args] at ha hn ⊢
  subst ha
  obtain ⟨R, hR⟩ : ∃ R, Hid (pullN ns (.mk k n nm ls []) d = R) := ⟨_, rfl⟩
  rw [hR.out]
  obtain ⟨lv, av, rfl, h1, h2⟩ := ht.open
  dsimp only [Tm.kind, Tm.n, Tm.name, Tm.levels, Tm.args] at h1 h2 ⊢
  obtain ⟨la, lc, rfl⟩ := h1.slice
  obtain ⟨L, hL⟩ : ∃ L, Hid (ls.length = L) := ⟨_, rfl⟩
  rw [hL.out] at h1 ht ⊢
  obtain ⟨q, hq⟩ : ∃ q, Hid (w.heap.size = q) := ⟨_, rfl⟩
  have HQ : Hid (bn < q) := by have := hb.lt; have := hq.out; rw [Hid]; omega
  have HB := Lib.hid hb
  have HNM := Lib.hid hm
  have H1 := Lib.hid h1
  have H2 := Lib.hid h2
  clear hb hm ht
  obtain ⟨CS, hCS⟩ : ∃ x, Hid ([.int .i64 k, .int .i64 n, strT nm, .slice la L lc, av] = x) := ⟨_, rfl⟩
  rw [hCS.out]
  have C5 : Hid (CS.length = 5) := by rw [Hid, ← hCS.out]; rfl
  have C1 : Hid (∀ u ∈ CS, u.oneCell' = true) := by have h : TmAt (List.range B) w (.mk k n nm ls []) [.int .i64 k, .int .i64 n, strT nm, .slice la L lc, av] := TmAt.mk (t := .mk k n nm ls []) h1 h2; rw [hCS.out] at h; exact h.one
  clear h1 h2
  obtain ⟨ix, hix⟩ : ∃ y, Hid (idxFrom nm 0 ns = y) := ⟨_, rfl⟩
  have hir : ix = -1 ∨ (0 ≤ ix ∧ ix < (M : Int)) := by have h := idx_range nm ns 0; rw [hix.out, hM] at h; simpa using h
  have RV : Hid (R = some (if k = 1 then (if d ≤ n then .mk k (n + (M : Int)) nm ls [] else .mk k n nm ls []) else if k = 4 then (if 0 ≤ ix ∧ L = 0 then .mk 1 ((M : Int) - 1 - ix + d) [] [] [] else .mk k n nm ls []) else .mk k n nm ls [])) := by rw [Hid, ← hR.out]; unfold pullN; simp only [Tm.kind, Tm.n, Tm.name, Tm.levels, Tm.args, hix.out, hM, hL.out]
  go_enter Try.func107, Try.ntmps107
  go_upto_region 0 with (fail)
  refine lbeg (opsOf Try.f107 0) ?_
  refine lbox 0 25 (.tmp 0) (CS) (q) (some 3) hq ?_
  intro w1 bw1 bew1 hsw1
  refine lall 1 25 z5T (q + 1) (some 5) hsw1 ?_
  intro w2 bw2 bew2 hsw2
  refine ldn 2 ?_
  generalize hact : Act.put _ (some 5) _ = act
  simp only [Act.put, sA, sC, sZ] at hact
  subst hact
  have hbq := HQ.out
  have B1 : Hid (Blk w2 q 25 CS) := bw1.below bew2 (by omega)
  have B2 : Hid (Blk w2 (q + 1) 25 z5T) := bw2
  have BE : Hid (Below q w w2) := bew1.trans (bew2.mono (by omega))
  have S2 : Hid (w2.heap.size = q + 2) := hsw2
  have A2 : Hid (Blk w2 bn 44 [.slice na M nc]) := HB.out.below BE.out hbq
  have N2 : Hid (NmsAt w2 (.slice na M nc) ns) := HNM.out.below (by rw [hq.out]; exact BE.out)
  clear bw1 bew1 hsw1 bw2 bew2 hsw2 HB HNM
  go_upto_region 1 with (fail)
  refine lbeg (opsOf Try.f107 1) ?_
  refine lnow 0 (.pointer (some ⟨q, 0, none⟩)) (some 7) ?_
  refine lcl 1 (.int .i64 k) (some 8) 3 7 (q) 0 (B1.out.cell (by rw [← hCS.out]; rfl)) Try.underlying3 ?_
  refine ldn 2 ?_
  generalize hact : Act.put _ (some 8) _ = act
  simp only [Act.put, sA, sC, sZ] at hact
  subst hact
  by_cases hk : k = 1
  · skip
    go_upto_region 2 with (fail)
    refine lbeg (opsOf Try.f107 2) ?_
    refine lnowP 0 (.bool true) (some 10) (exec_eqli_yes hk (by kernel_rfl)) ?_
    refine lnow 1 (.bool true) (some 9) ?_
    refine ldn 2 ?_
    generalize hact : Act.put _ (some 9) _ = act
    simp only [Act.put, sA, sC, sZ] at hact
    subst hact
    by_cases hge : n ≥ d
    rotate_left
    · skip
      have OPT : Hid (R = some (.mk k n nm ls [])) := RV.out.trans (by rw [if_pos hk, if_neg hge])
      go_upto_region 3 with (fail)
      refine lbeg (opsOf Try.f107 3) ?_
      refine lnow 0 (.pointer (some ⟨q, 1, none⟩)) (some 11) ?_
      refine lcl 1 (.int .i64 n) (some 12) 3 11 (q) 1 (B1.out.cell (by rw [← hCS.out]; rfl)) Try.underlying3 ?_
      refine lnow 2 (.int .i64 d) (some 13) ?_
      refine lnow 3 (.bool (decide (n ≥ d))) (some 14) ?_
      rw [show decide (n ≥ d) = false from decide_eq_false hge]
      refine ldn 4 ?_
      generalize hact : Act.put _ (some 14) _ = act
      simp only [Act.put, sA, sC, sZ] at hact
      subst hact
      have N5 := C5
      have N1 := C1
      have N0 := hCS
      have R2 := B2
      go_upto_region 9 with (fail)
      refine lbeg (opsOf Try.f107 9) ?_
      refine lrl 0 (CS) (some 43) 25 3 (q) 0 (B1.out).whole Try.underlying25 (t5Size N5.out) ?_
      refine lin_put 1 25 (.tmp 5) (.tmp 43) (q + 1) _ (z5T) (CS) (by kernel_rfl) (by kernel_rfl) (by kernel_rfl) (by kernel_rfl) (by kernel_rfl) R2.out (N5.out.trans (rfl : z5T.length = 5).symm) (t5Size N5.out) (by simpa using N1.out) ?_
      intro w9 bw9 uw9
      refine ldn 2 ?_
      generalize hact : Act.put _ none _ = act
      simp only [Act.put, sA, sC, sZ] at hact
      subst hact
      have BE9 : Hid (Below q w w9) := uw9.below BE.out (by omega) (by have := BE.out.size; have := hq.out; omega)
      have FT : Hid (TmAt (List.range B) w9 (.mk k n nm ls []) CS) := by rw [Hid, ← N0.out]; have h1 := (H1.out.step (Step.of_below (F := List.range B) BE9.out (by have := hq.out; omega))); rw [← hL.out] at h1 ⊢; exact TmAt.mk (t := (.mk k n nm ls [])) h1 (TmsAt.below H2.out (by rw [hq.out]; exact BE9.out))
      go_wp2
      refine bodyPost_ret (v := .agg (CS).toArray) ?_ rfl (Made.yes (by rw [hq.out]; exact BE9.out) OPT.out rfl FT.out)
      exact results_cell_row (g := q + 1) (t := 25) (cs := (CS).toArray) (fr := (0, 0)) Try.results107 _ _ _ rfl bw9 Try.underlying25 rfl (t5Size N5.out)
    have OPT : Hid (R = some (.mk k (n + (M : Int)) nm ls [])) := RV.out.trans (by rw [if_pos hk, if_pos hge])
    go_upto_region 3 with (fail)
    refine lbeg (opsOf Try.f107 3) ?_
    refine lnow 0 (.pointer (some ⟨q, 1, none⟩)) (some 11) ?_
    refine lcl 1 (.int .i64 n) (some 12) 3 11 (q) 1 (B1.out.cell (by rw [← hCS.out]; rfl)) Try.underlying3 ?_
    refine lnow 2 (.int .i64 d) (some 13) ?_
    refine lnow 3 (.bool (decide (n ≥ d))) (some 14) ?_
    rw [show decide (n ≥ d) = true from decide_eq_true hge]
    refine ldn 4 ?_
    generalize hact : Act.put _ (some 14) _ = act
    simp only [Act.put, sA, sC, sZ] at hact
    subst hact
    go_upto_region 4 with (fail)
    refine lbeg (opsOf Try.f107 4) ?_
    refine lnow 0 (.pointer (some ⟨q, 1, none⟩)) (some 15) ?_
    refine lcl 1 (.int .i64 n) (some 16) 3 15 (q) 1 (B1.out.cell (by rw [← hCS.out]; rfl)) Try.underlying3 ?_
    refine lcl 2 (.slice na M nc) (some 17) 44 2 (bn) 0 (A2.out.cell rfl) Try.underlying44 ?_
    refine lnow 3 (.int .i64 (M : Int)) (some 18) ?_
    refine lnow 4 (.int .i64 (IntKind.i64.wrap (n + (M : Int)))) (some 19) ?_
    rw [show IntKind.i64.wrap (n + (M : Int)) = n + (M : Int) from IntWalk.i64_in _ (by omega)]
    refine lnow 5 (.pointer (some ⟨q, 1, none⟩)) (some 20) ?_
    refine lin_putF 6 1 3 (.tmp 20) (.tmp 19) q 25 CS (.int .i64 (n + (M : Int))) (by kernel_rfl) (by kernel_rfl) (by kernel_rfl) (by kernel_rfl) (by kernel_rfl) B1.out (by rw [C5.out]; decide) (by kernel_rfl) (by rfl) (by rfl) ?_
    intro w3 bw3 uw3
    refine ldn 7 ?_
    generalize hact : Act.put _ none _ = act
    simp only [Act.put, sA, sC, sZ] at hact
    subst hact
    obtain ⟨CN, hCN⟩ : ∃ x, Hid (CS.set 1 (.int .i64 (n + (M : Int))) = x) := ⟨_, rfl⟩
    rw [hCN.out] at bw3
    have N0 : Hid ([.int .i64 k, .int .i64 (n + (M : Int)), strT nm, .slice la L lc, av] = CN) := by rw [Hid, ← hCN.out, ← hCS.out]; rfl
    have N5 : Hid (CN.length = 5) := by rw [Hid, ← N0.out]; rfl
    have N1 : Hid (∀ u ∈ CN, u.oneCell' = true) := by have h1 := H1.out; rw [← hL.out] at h1; have h : TmAt (List.range B) w (.mk k (n + (M : Int)) nm ls []) [.int .i64 k, .int .i64 (n + (M : Int)), strT nm, .slice la ls.length lc, av] := TmAt.mk (t := .mk k (n + (M : Int)) nm ls []) h1 H2.out; rw [hL.out, N0.out] at h; exact h.one
    have D1 : Hid (Blk w3 q 25 CN) := bw3
    have R2 : Hid (Blk w3 (q + 1) 25 z5T) := uw3.blk B2.out (by omega)
    have DE : Hid (Below q w w3) := uw3.below BE.out (by omega) (by have := BE.out.size; have := hq.out; omega)
    clear bw3 uw3 B1 B2 BE
    go_upto_region 9 with (fail)
    refine lbeg (opsOf Try.f107 9) ?_
    refine lrl 0 (CN) (some 43) 25 3 (q) 0 (D1.out).whole Try.underlying25 (t5Size N5.out) ?_
    refine lin_put 1 25 (.tmp 5) (.tmp 43) (q + 1) _ (z5T) (CN) (by kernel_rfl) (by kernel_rfl) (by kernel_rfl) (by kernel_rfl) (by kernel_rfl) R2.out (N5.out.trans (rfl : z5T.length = 5).symm) (t5Size N5.out) (by simpa using N1.out) ?_
    intro w9 bw9 uw9
    refine ldn 2 ?_
    generalize hact : Act.put _ none _ = act
    simp only [Act.put, sA, sC, sZ] at hact
    subst hact
    have BE9 : Hid (Below q w w9) := uw9.below DE.out (by omega) (by have := DE.out.size; have := hq.out; omega)
    have FT : Hid (TmAt (List.range B) w9 (.mk k (n + (M : Int)) nm ls []) CN) := by rw [Hid, ← N0.out]; have h1 := (H1.out.step (Step.of_below (F := List.range B) BE9.out (by have := hq.out; omega))); rw [← hL.out] at h1 ⊢; exact TmAt.mk (t := (.mk k (n + (M : Int)) nm ls [])) h1 (TmsAt.below H2.out (by rw [hq.out]; exact BE9.out))
    go_wp2
    refine bodyPost_ret (v := .agg (CN).toArray) ?_ rfl (Made.yes (by rw [hq.out]; exact BE9.out) OPT.out rfl FT.out)
    exact results_cell_row (g := q + 1) (t := 25) (cs := (CN).toArray) (fr := (0, 0)) Try.results107 _ _ _ rfl bw9 Try.underlying25 rfl (t5Size N5.out)
  go_upto_region 2 with (fail)
  refine lbeg (opsOf Try.f107 2) ?_
  refine lnowP 0 (.bool false) (some 10) (exec_eqli hk (by kernel_rfl)) ?_
  refine lnow 1 (.bool false) (some 9) ?_
  refine ldn 2 ?_
  generalize hact : Act.put _ (some 9) _ = act
  simp only [Act.put, sA, sC, sZ] at hact
  subst hact
  by_cases hk4 : k = 4
  rotate_left
  · skip
    have OPT : Hid (R = some (.mk k n nm ls [])) := RV.out.trans (by rw [if_neg hk, if_neg hk4])
    go_upto_region 5 with (fail)
    refine lbeg (opsOf Try.f107 5) ?_
    refine lnowP 0 (.bool false) (some 22) (exec_eqli hk4 (by kernel_rfl)) ?_
    refine lnow 1 (.bool false) (some 21) ?_
    refine ldn 2 ?_
    generalize hact : Act.put _ (some 21) _ = act
    simp only [Act.put, sA, sC, sZ] at hact
    subst hact
    have N5 := C5
    have N1 := C1
    have N0 := hCS
    have R2 := B2
    go_upto_region 9 with (fail)
    refine lbeg (opsOf Try.f107 9) ?_
    refine lrl 0 (CS) (some 43) 25 3 (q) 0 (B1.out).whole Try.underlying25 (t5Size N5.out) ?_
    refine lin_put 1 25 (.tmp 5) (.tmp 43) (q + 1) _ (z5T) (CS) (by kernel_rfl) (by kernel_rfl) (by kernel_rfl) (by kernel_rfl) (by kernel_rfl) R2.out (N5.out.trans (rfl : z5T.length = 5).symm) (t5Size N5.out) (by simpa using N1.out) ?_
    intro w9 bw9 uw9
    refine ldn 2 ?_
    generalize hact : Act.put _ none _ = act
    simp only [Act.put, sA, sC, sZ] at hact
    subst hact
    have BE9 : Hid (Below q w w9) := uw9.below BE.out (by omega) (by have := BE.out.size; have := hq.out; omega)
    have FT : Hid (TmAt (List.range B) w9 (.mk k n nm ls []) CS) := by rw [Hid, ← N0.out]; have h1 := (H1.out.step (Step.of_below (F := List.range B) BE9.out (by have := hq.out; omega))); rw [← hL.out] at h1 ⊢; exact TmAt.mk (t := (.mk k n nm ls [])) h1 (TmsAt.below H2.out (by rw [hq.out]; exact BE9.out))
    go_wp2
    refine bodyPost_ret (v := .agg (CS).toArray) ?_ rfl (Made.yes (by rw [hq.out]; exact BE9.out) OPT.out rfl FT.out)
    exact results_cell_row (g := q + 1) (t := 25) (cs := (CS).toArray) (fr := (0, 0)) Try.results107 _ _ _ rfl bw9 Try.underlying25 rfl (t5Size N5.out)
  go_upto_region 5 with (fail)
  refine lbeg (opsOf Try.f107 5) ?_
  refine lnowP 0 (.bool true) (some 22) (exec_eqli_yes hk4 (by kernel_rfl)) ?_
  refine lnow 1 (.bool true) (some 21) ?_
  refine ldn 2 ?_
  generalize hact : Act.put _ (some 21) _ = act
  simp only [Act.put, sA, sC, sZ] at hact
  subst hact
  have IW := index_walk ns nm (.slice na M nc) w2 N2.out (by omega)
  rw [hix.out] at IW
  go_upto_region 6 with (fail)
  refine lbeg (opsOf Try.f107 6) ?_
  refine lcl 0 (.slice na M nc) (some 23) 44 2 (bn) 0 (A2.out.cell rfl) Try.underlying44 ?_
  refine lnow 1 (.pointer (some ⟨q, 2, none⟩)) (some 24) ?_
  refine lcl 2 (strT nm) (some 25) 9 24 (q) 2 (B1.out.cell (by rw [← hCS.out]; rfl)) Try.underlying9 ?_
  refine lcal 3 108 #[.slice na M nc, strT nm] (some 26) _ (IW) ?_
  rintro e w' ⟨rfl, hw'⟩
  obtain rfl := hw'.symm
  refine ⟨_, rfl, ?_⟩
  refine lnow 4 (.int .i64 ix) (some 6) ?_
  refine ldn 5 ?_
  generalize hact : Act.put _ (some 6) _ = act
  simp only [Act.put, sA, sC, sZ] at hact
  subst hact
  clear IW
  by_cases hix0 : ix ≥ 0
  rotate_left
  · skip
    have OPT : Hid (R = some (.mk k n nm ls [])) := RV.out.trans (by rw [if_neg hk, if_pos hk4, if_neg (fun h => hix0 h.1)])
    go_upto_region 7 with (fail)
    refine lbeg (opsOf Try.f107 7) ?_
    refine lnow 0 (.int .i64 ix) (some 27) ?_
    refine lnow 1 (.bool (decide (ix ≥ 0))) (some 28) ?_
    rw [show decide (ix ≥ 0) = false from decide_eq_false hix0]
    refine lnow 2 (.bool false) (some 29) ?_
    refine lpas 3 (some 30) ?_
    refine lpas 4 (some 31) ?_
    refine lpas 5 (some 32) ?_
    refine lpas 6 (some 33) ?_
    refine lnow 7 (.bool false) (some 34) ?_
    refine ldn 8 ?_
    generalize hact : Act.put _ (some 34) _ = act
    simp only [Act.put, sA, sC, sZ] at hact
    subst hact
    have N5 := C5
    have N1 := C1
    have N0 := hCS
    have R2 := B2
    go_upto_region 9 with (fail)
    refine lbeg (opsOf Try.f107 9) ?_
    refine lrl 0 (CS) (some 43) 25 3 (q) 0 (B1.out).whole Try.underlying25 (t5Size N5.out) ?_
    refine lin_put 1 25 (.tmp 5) (.tmp 43) (q + 1) _ (z5T) (CS) (by kernel_rfl) (by kernel_rfl) (by kernel_rfl) (by kernel_rfl) (by kernel_rfl) R2.out (N5.out.trans (rfl : z5T.length = 5).symm) (t5Size N5.out) (by simpa using N1.out) ?_
    intro w9 bw9 uw9
    refine ldn 2 ?_
    generalize hact : Act.put _ none _ = act
    simp only [Act.put, sA, sC, sZ] at hact
    subst hact
    have BE9 : Hid (Below q w w9) := uw9.below BE.out (by omega) (by have := BE.out.size; have := hq.out; omega)
    have FT : Hid (TmAt (List.range B) w9 (.mk k n nm ls []) CS) := by rw [Hid, ← N0.out]; have h1 := (H1.out.step (Step.of_below (F := List.range B) BE9.out (by have := hq.out; omega))); rw [← hL.out] at h1 ⊢; exact TmAt.mk (t := (.mk k n nm ls [])) h1 (TmsAt.below H2.out (by rw [hq.out]; exact BE9.out))
    go_wp2
    refine bodyPost_ret (v := .agg (CS).toArray) ?_ rfl (Made.yes (by rw [hq.out]; exact BE9.out) OPT.out rfl FT.out)
    exact results_cell_row (g := q + 1) (t := 25) (cs := (CS).toArray) (fr := (0, 0)) Try.results107 _ _ _ rfl bw9 Try.underlying25 rfl (t5Size N5.out)
  by_cases hL0 : L = 0
  rotate_left
  · skip
    have OPT : Hid (R = some (.mk k n nm ls [])) := RV.out.trans (by rw [if_neg hk, if_pos hk4, if_neg (fun h => hL0 h.2)])
    go_upto_region 7 with (fail)
    refine lbeg (opsOf Try.f107 7) ?_
    refine lnow 0 (.int .i64 ix) (some 27) ?_
    refine lnow 1 (.bool (decide (ix ≥ 0))) (some 28) ?_
    rw [show decide (ix ≥ 0) = true from decide_eq_true hix0]
    refine lnow 2 (.bool true) (some 29) ?_
    refine lnow 3 (.pointer (some ⟨q, 3, none⟩)) (some 30) ?_
    refine lcl 4 (.slice la L lc) (some 31) 22 30 (q) 3 (B1.out.cell (by rw [← hCS.out]; rfl)) Try.underlying22 ?_
    refine lnow 5 (.int .i64 (L : Int)) (some 32) ?_
    refine lnow 6 (.bool (decide ((L : Int) = 0))) (some 33) ?_
    rw [show decide ((L : Int) = 0) = false from decide_eq_false (by omega)]
    refine lnow 7 (.bool false) (some 34) ?_
    refine ldn 8 ?_
    generalize hact : Act.put _ (some 34) _ = act
    simp only [Act.put, sA, sC, sZ] at hact
    subst hact
    have N5 := C5
    have N1 := C1
    have N0 := hCS
    have R2 := B2
    go_upto_region 9 with (fail)
    refine lbeg (opsOf Try.f107 9) ?_
    refine lrl 0 (CS) (some 43) 25 3 (q) 0 (B1.out).whole Try.underlying25 (t5Size N5.out) ?_
    refine lin_put 1 25 (.tmp 5) (.tmp 43) (q + 1) _ (z5T) (CS) (by kernel_rfl) (by kernel_rfl) (by kernel_rfl) (by kernel_rfl) (by kernel_rfl) R2.out (N5.out.trans (rfl : z5T.length = 5).symm) (t5Size N5.out) (by simpa using N1.out) ?_
    intro w9 bw9 uw9
    refine ldn 2 ?_
    generalize hact : Act.put _ none _ = act
    simp only [Act.put, sA, sC, sZ] at hact
    subst hact
    have BE9 : Hid (Below q w w9) := uw9.below BE.out (by omega) (by have := BE.out.size; have := hq.out; omega)
    have FT : Hid (TmAt (List.range B) w9 (.mk k n nm ls []) CS) := by rw [Hid, ← N0.out]; have h1 := (H1.out.step (Step.of_below (F := List.range B) BE9.out (by have := hq.out; omega))); rw [← hL.out] at h1 ⊢; exact TmAt.mk (t := (.mk k n nm ls [])) h1 (TmsAt.below H2.out (by rw [hq.out]; exact BE9.out))
    go_wp2
    refine bodyPost_ret (v := .agg (CS).toArray) ?_ rfl (Made.yes (by rw [hq.out]; exact BE9.out) OPT.out rfl FT.out)
    exact results_cell_row (g := q + 1) (t := 25) (cs := (CS).toArray) (fr := (0, 0)) Try.results107 _ _ _ rfl bw9 Try.underlying25 rfl (t5Size N5.out)
  have OPT : Hid (R = some (.mk 1 ((M : Int) - 1 - ix + d) [] [] [])) := RV.out.trans (by rw [if_neg hk, if_pos hk4, if_pos ⟨hix0, hL0⟩])
  go_upto_region 7 with (fail)
  refine lbeg (opsOf Try.f107 7) ?_
  refine lnow 0 (.int .i64 ix) (some 27) ?_
  refine lnow 1 (.bool (decide (ix ≥ 0))) (some 28) ?_
  rw [show decide (ix ≥ 0) = true from decide_eq_true hix0]
  refine lnow 2 (.bool true) (some 29) ?_
  refine lnow 3 (.pointer (some ⟨q, 3, none⟩)) (some 30) ?_
  refine lcl 4 (.slice la L lc) (some 31) 22 30 (q) 3 (B1.out.cell (by rw [← hCS.out]; rfl)) Try.underlying22 ?_
  refine lnow 5 (.int .i64 (L : Int)) (some 32) ?_
  refine lnow 6 (.bool (decide ((L : Int) = 0))) (some 33) ?_
  rw [show decide ((L : Int) = 0) = true from decide_eq_true (by omega)]
  refine lnow 7 (.bool true) (some 34) ?_
  refine ldn 8 ?_
  generalize hact : Act.put _ (some 34) _ = act
  simp only [Act.put, sA, sC, sZ] at hact
  subst hact
  go_upto_region 8 with (fail)
  refine lbeg (opsOf Try.f107 8) ?_
  refine lcl 0 (.slice na M nc) (some 35) 44 2 (bn) 0 (A2.out.cell rfl) Try.underlying44 ?_
  refine lnow 1 (.int .i64 (M : Int)) (some 36) ?_
  refine lnow 2 (.int .i64 (IntKind.i64.wrap ((M : Int) - 1))) (some 37) ?_
  rw [show IntKind.i64.wrap ((M : Int) - 1) = (M : Int) - 1 from IntWalk.i64_in _ (by omega)]
  refine lnow 3 (.int .i64 ix) (some 38) ?_
  refine lnow 4 (.int .i64 (IntKind.i64.wrap ((M : Int) - 1 - ix))) (some 39) ?_
  rw [show IntKind.i64.wrap ((M : Int) - 1 - ix) = (M : Int) - 1 - ix from IntWalk.i64_in _ (by omega)]
  refine lnow 5 (.int .i64 d) (some 40) ?_
  refine lnow 6 (.int .i64 (IntKind.i64.wrap ((M : Int) - 1 - ix + d))) (some 41) ?_
  rw [show IntKind.i64.wrap ((M : Int) - 1 - ix + d) = (M : Int) - 1 - ix + d from IntWalk.i64_in _ (by omega)]
  refine lnow 7 (.agg ([.int .i64 1, .int .i64 ((M : Int) - 1 - ix + d), strT [], .slice none 0 0, .slice none 0 0] : List Value).toArray) (some 42) ?_
  have VT : ∀ F w, TmAt F w (.mk 1 ((M : Int) - 1 - ix + d) [] [] []) [.int .i64 1, .int .i64 ((M : Int) - 1 - ix + d), strT [], .slice none 0 0, .slice none 0 0] := fun F w => TmAt.mk (t := .mk 1 ((M : Int) - 1 - ix + d) [] [] []) (LvsOff.nil _ _ _ _) (TmsAt.nil _ _ _ _)
  refine lin_put 8 25 (.tmp 5) (.tmp 42) (q + 1) _ (z5T) ([.int .i64 1, .int .i64 ((M : Int) - 1 - ix + d), strT [], .slice none 0 0, .slice none 0 0]) (by kernel_rfl) (by kernel_rfl) (by kernel_rfl) (by kernel_rfl) (by kernel_rfl) B2.out ((rfl : ([.int .i64 1, .int .i64 ((M : Int) - 1 - ix + d), strT [], .slice none 0 0, .slice none 0 0] : List Value).length = 5).trans (rfl : z5T.length = 5).symm) (t5Size (rfl : ([.int .i64 1, .int .i64 ((M : Int) - 1 - ix + d), strT [], .slice none 0 0, .slice none 0 0] : List Value).length = 5)) (by simpa using (VT [] w2).one) ?_
  intro w9 bw9 uw9
  refine ldn 9 ?_
  generalize hact : Act.put _ none _ = act
  simp only [Act.put, sA, sC, sZ] at hact
  subst hact
  have BE9 : Hid (Below q w w9) := uw9.below BE.out (by omega) (by have := BE.out.size; have := hq.out; omega)
  go_wp2
  refine bodyPost_ret (v := .agg ([.int .i64 1, .int .i64 ((M : Int) - 1 - ix + d), strT [], .slice none 0 0, .slice none 0 0] : List Value).toArray) ?_ rfl (Made.yes (by rw [hq.out]; exact BE9.out) OPT.out rfl (VT _ _))
  exact results_cell_row (g := q + 1) (t := 25) (cs := ([.int .i64 1, .int .i64 ((M : Int) - 1 - ix + d), strT [], .slice none 0 0, .slice none 0 0] : List Value).toArray) (fr := (0, 0)) Try.results107 _ _ _ rfl bw9 Try.underlying25 rfl (t5Size (rfl : ([.int .i64 1, .int .i64 ((M : Int) - 1 - ix + d), strT [], .slice none 0 0, .slice none 0 0] : List Value).length = 5))
theorem pulled_swap (ns : List (List UInt8)) (M : Nat) (na : Option Addr) (nc : Nat) (bn : Nat) (w0 : World) (hM : ns.length = M) (hMb : M ≤ 2000000000000) (hb : Blk w0 bn 44 [.slice na M nc]) (hm : NmsAt w0 (.slice na M nc) ns) : Swap (pullG ns) 107 #[.pointer (some ⟨bn, 0, none⟩)] (fun _ w => Bel [] w0.heap.size w0 w) [] w0.heap.size :=
  Swap.of (g := pullN ns) (enters_of Try.func107 (by kernel_rfl) rfl) (fun w w' h hE hb => h.trans hb)
    (fun t d cs w B ha hs hn hd ht hE hB hI _ => pulled1_walk ns M na nc bn t d cs w B hM hMb ha hn hd ht hB (hI.blk hb hb.lt (by simp)) (hm.bel hI))
set_option maxHeartbeats 4000000 in
theorem pulled_walk {F : List Nat} (ns : List (List UInt8)) (M : Nat) (na : Option Addr) (nc : Nat) (t : Tm) (cs : List Value) (w : World) (ht : TmAt F w t cs) (hM : ns.length = M) (hMb : M ≤ 2000000000000) (hm : NmsAt w (.slice na M nc) ns) (hs : SmT t) (hbt : BndT t) (hn : (nodesT t : Int) ≤ 1125899906842624) :
    Calls Try.prog 80 #[.agg cs.toArray, .slice na M nc] w (Builds (pulledO ns t) w) := by
  have C5 := Lib.hid ht.len
  have HT := Lib.hid ht
  have HM := Lib.hid hm
  obtain ⟨q, hq⟩ : ∃ q, Hid (w.heap.size = q) := ⟨_, rfl⟩
  obtain ⟨R, hR⟩ : ∃ R, Hid (pulledO ns t = R) := ⟨_, rfl⟩
  rw [hR.out]
  clear ht hm
  go_enter Try.func80, Try.ntmps80
  go_upto_region 0 with (fail)
  refine lbeg (opsOf Try.f80 0) ?_
  refine lbox 0 25 (.tmp 0) (cs) (q) (some 2) hq ?_
  intro w1 bw1 bew1 hsw1
  refine lin_box1 1 44 (.tmp 1) (.slice na M nc) (q + 1) (some 3) (by kernel_rfl) (by kernel_rfl) (by kernel_rfl) (by kernel_rfl) (by rfl) hsw1 ?_
  intro w2 bw2 bew2 hsw2
  refine lall 2 25 z5T (q + 1 + 1) (some 4) hsw2 ?_
  intro w3 bw3 bew3 hsw3
  refine ldn 3 ?_
  generalize hact : Act.put _ (some 4) _ = act
  simp only [Act.put, sA, sC, sZ] at hact
  subst hact
  have B0 : Hid (Blk w3 q 25 cs) := (bw1.below bew2 (by omega)).below bew3 (by omega)
  have B1 : Hid (Blk w3 (q + 1) 44 [.slice na M nc]) := bw2.below bew3 (by omega)
  have B2 : Hid (Blk w3 (q + 1 + 1) 25 z5T) := bw3
  have BE : Hid (Below q w w3) := (bew1.trans (bew2.mono (by omega))).trans (bew3.mono (by omega))
  have S3 : Hid (w3.heap.size = q + 3) := hsw3
  clear bw1 bew1 hsw1 bw2 bew2 hsw2 bw3 bew3 hsw3
  have CALL := rebuilt_walk (pulled_swap ns M na nc (q + 1) w3 hM hMb B1.out (HM.out.below (by rw [hq.out]; exact BE.out))) t cs w3 () F (HT.out.step (Step.of_below BE.out (by have := hq.out; omega))) (fun k hk => by cases hk) (Nat.le_refl _) (Bel.refl _ _ _) hs hbt hn
  obtain ⟨RT, hRT⟩ : ∃ y, Hid (rebT (pullG ns) () 0 t = y) := ⟨_, rfl⟩
  have SO : Hid (R = RT.map (·.2)) := hR.out.symm.trans (by unfold pulledO; rw [hRT.out])
  rw [hRT.out] at CALL
  go_upto_region 1 with (fail)
  refine lbeg (opsOf Try.f80 1) ?_
  refine lrl 0 (cs) (some 5) 25 2 (q) 0 (B0.out).whole Try.underlying25 (t5Size C5.out) ?_
  refine lnow 1 (.func (.func 107) #[] #[.pointer (some ⟨q + 1, 0, none⟩)]) (some 6) ?_
  refine lin_callP 2 57 #[.agg cs.toArray, .func (.func 107) #[] #[.pointer (some ⟨q + 1, 0, none⟩)]] (some 7) _ (by kernel_rfl) (by kernel_rfl) (by kernel_rfl) (CALL) ?_
  rintro e w5 ⟨hb, hres⟩
  have hbb : Below w3.heap.size w3 w5 := hb.below (fun k hk => by cases hk)
  have BE5 : Hid (Below q w w5) := BE.out.trans (hbb.mono (by have := S3.out; omega))
  have B25 : Hid (Blk w5 (q + 1 + 1) 25 z5T) := B2.out.below hbb B2.out.lt
  obtain _ | ⟨s', r⟩ := RT
  · obtain ⟨kk, rfl⟩ := hres
    exact .inr ⟨_, rfl, rfl, Builds.no (by rw [hq.out]; exact BE5.out) SO.out ⟨kk, rfl⟩⟩
  obtain ⟨⟨cr, rfl, htr, -⟩⟩ := hres
  refine .inl ⟨_, rfl, ?_⟩
  have CR5 := Lib.hid htr.len
  refine lin_put 3 25 (.tmp 4) (.tmp 7) (q + 1 + 1) _ (z5T) (cr) (by kernel_rfl) (by kernel_rfl) (by kernel_rfl) (by kernel_rfl) (by kernel_rfl) B25.out (htr.len.trans (rfl : z5T.length = 5).symm) (t5Size htr.len) (by simpa using htr.one) ?_
  intro w6 bw6 uw6
  refine ldn 4 ?_
  generalize hact : Act.put _ none _ = act
  simp only [Act.put, sA, sC, sZ] at hact
  subst hact
  go_wp2
  refine bodyPost_ret (v := .agg cr.toArray) ?_ rfl (Builds.yes (by rw [hq.out]; exact uw6.below BE5.out (by omega) (by have := BE5.out.size; have := hq.out; omega)) SO.out rfl ((TmAt.step (Step.of_upd uw6 (List.mem_range.2 (by have := S3.out; omega))) _ _ htr).range (by have := S3.out; have := hq.out; omega)))
  exact results_cell_row (g := q + 1 + 1) (t := 25) (cs := (cr).toArray) (fr := (0, 0)) Try.results80 _ _ _ rfl bw6 Try.underlying25 rfl (t5Size CR5.out)
def pullO (ns : List (List UInt8)) (t : Tm) : Option Tm := if rightP 4 1099511627776 t = true then okO (pulledO ns t) else none
set_option maxHeartbeats 4000000 in
theorem pull1_walk {F : List Nat} (ns : List (List UInt8)) (M : Nat) (na : Option Addr) (nc : Nat) (pn pt : Nat) (t : Tm) (cs : List Value) (w : World) (ht : TmAt F w t cs) (hM : ns.length = M) (hMb : M ≤ 2000000000000) (hm : NmsAt w (.slice na M nc) ns) (hs : SmT t) (hn : nodesT t ≤ 100000000000) (hb : Blk w pn 44 [.slice na M nc]) (hc : Blk w pt 25 cs) :
    Calls Try.prog 79 #[.pointer (some ⟨pt, 0, none⟩), .pointer (some ⟨pn, 0, none⟩)] w (Builds (pullO ns t) w) := by
  have C5 := Lib.hid ht.len
  have HT := Lib.hid ht
  have HM := Lib.hid hm
  obtain ⟨R, hR⟩ : ∃ R, Hid (pullO ns t = R) := ⟨_, rfl⟩
  rw [hR.out]
  obtain ⟨q, hq⟩ : ∃ q, Hid (w.heap.size = q) := ⟨_, rfl⟩
  have HQ : Hid (pn < q ∧ pt < q) := by have := hb.lt; have := hc.lt; have := hq.out; rw [Hid]; omega
  have HB := Lib.hid hb
  have HC := Lib.hid hc
  clear ht hm hb hc
  go_enter Try.func79, Try.ntmps79
  go_upto_region 0 with (fail)
  refine lbeg (opsOf Try.f79 0) ?_
  refine lall 0 25 z5T (q) (some 2) hq ?_
  intro w1 bw1 bew1 hsw1
  refine ldn 1 ?_
  generalize hact : Act.put _ (some 2) _ = act
  simp only [Act.put, sA, sC, sZ] at hact
  subst hact
  have BR : Hid (Blk w1 q 25 z5T) := bw1
  have BE : Hid (Below q w w1) := bew1
  have S1 : Hid (q + 1 ≤ w1.heap.size) := by have := hsw1.out; rw [Hid]; omega
  have h3 := HQ.out
  have K1 : Hid (Blk w1 pn 44 [.slice na M nc]) := HB.out.below BE.out h3.1
  have K2 : Hid (Blk w1 pt 25 cs) := HC.out.below BE.out h3.2
  clear bw1 bew1 hsw1 HB HC
  go_upto_region 1 with (fail)
  refine region_beginP (opsOf Try.f79 1) (fun W => (∃ x, Blk W q 25 x) ∧ Blk W pn 44 [.slice na M nc] ∧ Blk W pt 25 cs) (by kernel_rfl) (by kernel_rfl) 6 (by kernel_rfl) ?_
  intro Q' hQN hN hP
  have HS : Blk w1.drew q 25 z5T ∧ Blk w1.drew pn 44 [.slice na M nc] ∧ Blk w1.drew pt 25 cs := ⟨BR.out, K1.out, K2.out⟩
  refine reg_nowIf 0 (.agg (cs).toArray) (some 3) hQN ⟨⟨_, HS.1⟩, HS.2⟩ (by kernel_rfl) (by kernel_rfl) (fun w' hw => exec_load_mid 25 (.tmp 0) (by kernel_rfl) (pt) 0 (by kernel_rfl) (cs) _ hw.2.2.whole Try.underlying25 rfl (t5Size C5.out)) ?_
  refine reg_nowIf 2 (.slice na M nc) (some 5) hQN ⟨⟨_, HS.1⟩, HS.2⟩ (by kernel_rfl) (by kernel_rfl) (fun w' hw => exec_load_cell 44 (.tmp 1) (by kernel_rfl) pn 0 (by kernel_rfl) _ (hw.2.1.cell rfl) _ Try.underlying44 rfl) ?_
  have BD : Hid (Below q w w1.drew) := BE.out.drew
  have SD : Hid (q + 1 ≤ w1.drew.heap.size) := S1.out
  refine reg_callP 1 52 #[.agg cs.toArray] (some 4) _ (by kernel_rfl) (by kernel_rfl) (by kernel_rfl) (valid_walk t cs w1.drew (HT.out.step (Step.of_below BD.out (by have := hq.out; omega))) hs hn) ?_
  rintro e w2 (⟨hv, rfl, hb2⟩ | ⟨hv, ⟨kk, rfl⟩, hb2⟩)
  rotate_left
  · exact .inr ⟨_, rfl, hP _ _ _ fun a' ha' => ⟨ha', Builds.no (by rw [hq.out]; exact BD.out.trans (hb2.mono (by have := SD.out; omega))) (hR.out.symm.trans (if_neg (by rw [hv]; simp))) ⟨kk, rfl⟩⟩⟩
  have HV := Lib.hid hv
  have RE : Hid (R = okO (pulledO ns t)) := hR.out.symm.trans (if_pos hv)
  have BE2 : Hid (Below q w w2) := BD.out.trans (hb2.mono (by have := SD.out; omega))
  have HS2 : Blk w2 q 25 z5T ∧ Blk w2 pn 44 [.slice na M nc] ∧ Blk w2 pt 25 cs := ⟨HS.1.below hb2 HS.1.lt, HS.2.1.below hb2 HS.2.1.lt, HS.2.2.below hb2 HS.2.2.lt⟩
  have S2 : Hid (q + 1 ≤ w2.heap.size) := by have := hb2.size; have := SD.out; rw [Hid]; omega
  refine .inl ⟨_, rfl, ⟨⟨_, HS2.1⟩, HS2.2⟩, ?_⟩
  have np := (rightP_parts HV.out).2.1
  clear HS hb2 hv BD SD
  refine reg_callP 3 80 #[.agg cs.toArray, .slice na M nc] (some 6) _ (by kernel_rfl) (by kernel_rfl) (by kernel_rfl) (pulled_walk (F := F) ns M na nc t cs w2 (HT.out.step (Step.of_below BE2.out (by have := hq.out; omega))) hM hMb (HM.out.below (by rw [hq.out]; exact BE2.out)) hs (rightP_bnd HV.out) (by omega)) ?_
  intro e w3 hbu
  obtain ⟨hb3, ⟨r, cr, hr, rfl, htr⟩ | ⟨hr, ⟨kk, rfl⟩⟩⟩ := hbu.cases
  rotate_left
  · exact .inr ⟨_, rfl, hP _ _ _ fun a' ha' => ⟨ha', Builds.no (by rw [hq.out]; exact BE2.out.trans (hb3.mono (by have := S2.out; omega))) (RE.out.trans (by rw [hr]; rfl)) ⟨kk, rfl⟩⟩⟩
  have HR := Lib.hid hr
  have BE3 : Hid (Below q w w3) := BE2.out.trans (hb3.mono (by have := S2.out; omega))
  have HS3 : Blk w3 q 25 z5T ∧ Blk w3 pn 44 [.slice na M nc] ∧ Blk w3 pt 25 cs := ⟨HS2.1.below hb3 HS2.1.lt, HS2.2.1.below hb3 HS2.2.1.lt, HS2.2.2.below hb3 HS2.2.2.lt⟩
  have S3 : Hid (q + 1 ≤ w3.heap.size) := by have := hb3.size; have := S2.out; rw [Hid]; omega
  have HTR := Lib.hid (htr.range S2.out)
  have CR5 := Lib.hid htr.len
  have SMR := pulledO_sm hr hs
  refine .inl ⟨_, rfl, ⟨⟨_, HS3.1⟩, HS3.2⟩, ?_⟩
  clear HS2 hb3 hr htr hbu
  refine reg_callP 4 52 #[.agg cr.toArray] (some 7) _ (by kernel_rfl) (by kernel_rfl) (by kernel_rfl) (valid_walk r cr w3 HTR.out SMR.1 (by have := SMR.2; omega)) ?_
  rintro e w4 (⟨hv, rfl, hb4⟩ | ⟨hv, ⟨kk, rfl⟩, hb4⟩)
  rotate_left
  · exact .inr ⟨_, rfl, hP _ _ _ fun a' ha' => ⟨ha', Builds.no (by rw [hq.out]; exact BE3.out.trans (hb4.mono (by have := S3.out; omega))) (RE.out.trans (by rw [HR.out]; exact okO_no hv)) ⟨kk, rfl⟩⟩⟩
  have RS : Hid (R = some r) := RE.out.trans (by rw [HR.out]; exact okO_yes hv)
  have BE4 : Hid (Below q w w4) := BE3.out.trans (hb4.mono (by have := S3.out; omega))
  have HS4 : Blk w4 q 25 z5T ∧ Blk w4 pn 44 [.slice na M nc] ∧ Blk w4 pt 25 cs := ⟨HS3.1.below hb4 HS3.1.lt, HS3.2.1.below hb4 HS3.2.1.lt, HS3.2.2.below hb4 HS3.2.2.lt⟩
  have T4 : Hid (TmAt (List.range (q + 1)) w4 r cr) := HTR.out.below hb4
  have ONE := Lib.hid HTR.out.one
  refine .inl ⟨_, rfl, ⟨⟨_, HS4.1⟩, HS4.2⟩, ?_⟩
  clear HS3 hb4 hv HTR
  refine reg_putT 5 25 (.tmp 2) (.tmp 7) q 25 z5T cr (by kernel_rfl) (by kernel_rfl) (by kernel_rfl) (by kernel_rfl) (by kernel_rfl) HS4.1 (CR5.out.trans (rfl : 5 = z5T.length)) (t5Size CR5.out) (by simpa using ONE.out) ?_
  intro w5 bw5 uw5
  have h3 := HQ.out
  refine ⟨⟨⟨_, bw5⟩, uw5.blk HS4.2.1 (by omega), uw5.blk HS4.2.2 (by omega)⟩, ?_⟩
  refine reg_done (by kernel_rfl) (hN _ _ ?_)
  generalize hact : Act.put _ none _ = act
  simp only [Act.put, sA, sC, sZ] at hact
  subst hact
  go_wp2
  refine bodyPost_ret (v := .agg cr.toArray) ?_ rfl (Builds.yes (by rw [hq.out]; exact uw5.below BE4.out (by omega) (by have := BE4.out.size; have := hq.out; omega)) RS.out rfl (by rw [hq.out]; exact (TmAt.step (Step.of_upd uw5 (List.mem_range.2 (by omega))) _ _ T4.out).range (by omega)))
  exact results_cell_row (g := q) (t := 25) (cs := (cr).toArray) (fr := (0, 0)) Try.results79 _ _ _ rfl bw5 Try.underlying25 rfl (t5Size CR5.out)
set_option maxHeartbeats 4000000 in
theorem pull_walk {F : List Nat} (ns : List (List UInt8)) (M : Nat) (na : Option Addr) (nc : Nat) (t : Tm) (cs : List Value) (w : World) (ht : TmAt F w t cs) (hM : ns.length = M) (hMb : M ≤ 2000000000000) (hm : NmsAt w (.slice na M nc) ns) (hs : SmT t) (hn : nodesT t ≤ 100000000000) : Calls Try.prog 45 #[.agg cs.toArray, .slice na M nc] w fun e w' => ∃ cs', e = .returned (.tuple #[.agg cs'.toArray, .bool (pullO ns t).isSome]) ∧ TmAt (List.range w.heap.size) w' ((pullO ns t).getD zT) cs' ∧ Below w.heap.size w w' := by
  obtain ⟨q, hq⟩ : ∃ q, Hid (w.heap.size = q) := ⟨_, rfl⟩
  have HT := Lib.hid ht
  have C5 := Lib.hid ht.len
  have HM := Lib.hid hm
  clear hm
  clear ht
  obtain ⟨R, hR⟩ : ∃ R, Hid (pullO ns t = R) := ⟨_, rfl⟩
  rw [hR.out]
  go_enter Try.func45, Try.ntmps45
  go_upto_region 0 with (fail)
  refine lbeg (opsOf Try.f45 0) ?_
  refine lbox 0 25 (.tmp 0) (cs) (q) (some 2) hq ?_
  intro w1 bw1 bew1 hsw1
  refine lin_box1 1 44 (.tmp 1) (.slice na M nc) (q + 1) (some 3) (by kernel_rfl) (by kernel_rfl) (by kernel_rfl) (by kernel_rfl) (by rfl) hsw1 ?_
  intro w2 bw2 bew2 hsw2
  refine lall 2 25 z5T (q + 1 + 1) (some 4) hsw2 ?_
  intro w3 bw3 bew3 hsw3
  refine lnow 3 (.bool false) (some 5) ?_
  refine ldn 4 ?_
  generalize hact : Act.put _ (some 5) _ = act
  simp only [Act.put, sA, sC, sZ] at hact
  subst hact
  have B0 : Hid (Blk w3 (q) 25 cs) := ((bw1.below bew2 (by omega)).below bew3 (by omega))
  have B1 : Hid (Blk w3 (q + 1) 44 [.slice na M nc]) := (bw2.below bew3 (by omega))
  have BR : Hid (Blk w3 (q + 1 + 1) 25 z5T) := bw3
  have BE : Hid (Below q w w3) := ((bew1.trans (bew2.mono (by omega))).trans (bew3.mono (by omega)))
  have SZ : Hid (w3.heap.size = q + 3) := hsw3
  have LB : Hid (∀ k, w.heap.size ≤ k → True) := fun _ _ => trivial
  clear bw1 bew1 hsw1
  clear bw2 bew2 hsw2
  clear bw3 bew3 hsw3
  obtain ⟨wa, hwa⟩ : ∃ y, y = w3 := ⟨_, rfl⟩
  rw [← hwa] at BE SZ BR B0 B1 ⊢
  clear hwa
  go_upto_region 1 with (fail)
  refine lbeg (opsOf Try.f45 1) ?_
  refine lin_now 0 (.func (.func 79) #[] #[.pointer (some ⟨q, 0, none⟩), .pointer (some ⟨q + 1, 0, none⟩)]) (some 6) (by kernel_rfl) (by kernel_rfl) (by first | kernel_rfl | rfl) ?_
  have BW := built_walk 79 #[.pointer (some ⟨q, 0, none⟩), .pointer (some ⟨q + 1, 0, none⟩)] wa (enters_of Try.func79 (by kernel_rfl) rfl) R (fun w1 h1 => by
    show Calls Try.prog 79 #[.pointer (some ⟨q, 0, none⟩), .pointer (some ⟨q + 1, 0, none⟩)] w1 _
    rw [← hR.out]
    exact pull1_walk ns M na nc (q + 1) q t cs w1 ((HT.out.step (Step.of_below BE.out (by have := hq.out; omega))).below h1) hM hMb ((HM.out.below (by rw [hq.out]; exact BE.out)).below h1) hs hn (B1.out.below h1 B1.out.lt) (B0.out.below h1 B0.out.lt))
  refine lcal 1 49 #[.func (.func 79) #[] #[.pointer (some ⟨q, 0, none⟩), .pointer (some ⟨q + 1, 0, none⟩)]] (some 7) _ (BW) ?_
  rintro e wb ⟨cr, rfl, hcr, hbb⟩
  refine ⟨_, rfl, ?_⟩
  refine lnow 2 (.agg cr.toArray) (some 8) ?_
  refine lnow 3 (.bool R.isSome) (some 9) ?_
  have CR5 := Lib.hid hcr.len
  have BRb : Hid (Blk wb (q + 1 + 1) 25 z5T) := BR.out.below hbb BR.out.lt
  have BEb : Hid (Below q w wb) := BE.out.trans (hbb.mono (by have := SZ.out; omega))
  refine lin_put 4 25 (.tmp 4) (.tmp 8) (q + 1 + 1) _ (z5T) (cr) (by kernel_rfl) (by kernel_rfl) (by kernel_rfl) (by kernel_rfl) (by kernel_rfl) BRb.out (CR5.out.trans (rfl : z5T.length = 5).symm) (t5Size CR5.out) (by simpa using hcr.one) ?_
  intro wc bwc uwc
  refine lnow 5 (.bool R.isSome) (some 5) ?_
  refine ldn 6 ?_
  generalize hact : Act.put _ (some 5) _ = act
  simp only [Act.put, sA, sC, sZ] at hact
  subst hact
  go_wp2
  refine bodyPost_ret (v := .tuple #[.agg cr.toArray, .bool R.isSome]) ?_ rfl ⟨cr, rfl, (TmAt.step (Step.of_upd uwc (List.mem_range.2 (by have := SZ.out; omega))) _ _ hcr).range (by have := SZ.out; have := hq.out; omega), by rw [hq.out]; exact uwc.below BEb.out (by omega) (by have := BEb.out.size; have := hq.out; omega)⟩
  exact results_cell_tmp Try.results45 _ _ (q + 1 + 1) 25 cr.toArray (0, 0) _ _ rfl rfl bwc Try.underlying25 rfl (t5Size CR5.out)
end Go.Proofs.Ytndbpmkglddjjaa
