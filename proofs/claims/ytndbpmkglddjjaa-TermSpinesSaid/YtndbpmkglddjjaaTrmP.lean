/- Terms taken apart: package term's Strip and Spine. -/
import Derived.Test.YtndbpmkglddjjaaTrmE
import Derived.Deep.LoopGhost
namespace Go.Proofs.Ytndbpmkglddjjaa
open Go Go.RowKit
set_option maxRecDepth 100000

theorem splice_flat : ∀ (ds : List (List Value)) (i : Nat) (c : List Value), (∀ d ∈ ds, d.length = 5) → c.length = 5 → i < ds.length → splice ds.flatten (5 * i) c = (ds.set i c).flatten
  | [], i, c, _, _, h => by simp at h
  | d :: ds, 0, c, hd, hc, _ => by
    have h5 := hd d List.mem_cons_self
    unfold splice
    rw [List.set_cons_zero, List.flatten_cons, List.flatten_cons, Nat.mul_zero, List.take_zero, List.nil_append, Nat.zero_add, hc, ← h5, List.drop_left]
  | d :: ds, i + 1, c, hd, hc, h => by
    have h5 := hd d List.mem_cons_self
    have ih := splice_flat ds i c (fun x hx => hd x (List.mem_cons_of_mem _ hx)) hc (by simpa using h)
    unfold splice at ih ⊢
    rw [List.set_cons_succ, List.flatten_cons, List.flatten_cons, ← ih, show 5 * (i + 1) = d.length + 5 * i by omega, List.take_length_add_append, show d.length + 5 * i + c.length = d.length + (5 * i + c.length) by omega, List.drop_length_add_append]
    simp
theorem take_splice {X c : List Value} {n k : Nat} (h : k + c.length ≤ n) (hn : n ≤ X.length) : (splice X k c).take n = splice (X.take n) k c := by
  unfold splice
  rw [List.take_append, List.take_append, List.take_take, List.drop_take]
  simp only [List.length_append, List.length_take]
  rw [show min n k = k by omega, List.take_of_length_le (by omega : c.length ≤ n - min k X.length), List.take_take, show n - (min k X.length + c.length) = n - (k + c.length) by omega, show min k n = k by omega]
theorem TmCells.lens {F : List Nat} {w : World} : ∀ {ts : List Tm} {ds : List (List Value)}, TmCells F w ts ds → ∀ d ∈ ds, d.length = 5
  | [], [], _, d, hd => by cases hd
  | t :: ts, c :: cs, h, d, hd => by
    rcases List.mem_cons.1 hd with rfl | hd
    · exact h.1.len
    · exact TmCells.lens h.2 d hd
  | [], _ :: _, h, _, _ => h.elim
  | _ :: _, [], h, _, _ => h.elim
theorem TmCells.set {F : List Nat} {w : World} {t : Tm} {c : List Value} (ht : TmAt F w t c) : ∀ {ts : List Tm} {ds : List (List Value)} (i : Nat), TmCells F w ts ds → TmCells F w (ts.set i t) (ds.set i c)
  | [], [], _, _ => trivial
  | _ :: _, _ :: _, 0, h => ⟨ht, h.2⟩
  | _ :: _, _ :: _, i + 1, h => ⟨h.1, TmCells.set ht i h.2⟩
  | [], _ :: _, _, h => h.elim
  | _ :: _, [], _, h => h.elim
theorem TmCells.get {F : List Nat} {w : World} : ∀ {ts : List Tm} {ds : List (List Value)} {i : Nat} {t : Tm}, TmCells F w ts ds → ts[i]? = some t → ∃ c, ds[i]? = some c ∧ TmAt F w t c
  | [], [], i, t, _, hi => by simp at hi
  | t0 :: ts, c :: cs, 0, t, h, hi => by
    obtain rfl : t0 = t := by simpa using hi
    exact ⟨c, rfl, h.1⟩
  | t0 :: ts, c :: cs, i + 1, t, h, hi => by
    obtain ⟨c', h1, h2⟩ := TmCells.get h.2 (i := i) (t := t) (by simpa using hi)
    exact ⟨c', by simpa using h1, h2⟩
  | [], _ :: _, _, _, h, _ => h.elim
  | _ :: _, [], _, _, h, _ => h.elim
/-- A row of the call's own, its block named. -/
theorem RowT.at {m : Nat} {w : World} {v : Value} {ts : List Tm} {i : Nat} {t : Tm} (h : RowT m w v ts) (hi : ts[i]? = some t) : ∃ g cap c X, v = .slice (some ⟨g, 0, none⟩) ts.length cap ∧ Blk w g 25 X ∧ ts.length * 5 ≤ X.length ∧ w.rangeAt g (5 * i) c ∧ TmAt (List.range m ++ ownL v) w t c := by
  obtain ⟨ds, ⟨h0, h1⟩, h2⟩ := h
  have hil := (List.getElem?_eq_some_iff.1 hi).1
  rcases h1 with ⟨rfl, hn⟩ | ⟨g, cap, cur, rfl, hg, hb, hc, hm, hs, ht⟩
  · omega
  · obtain ⟨c, h3, h4⟩ := TmCells.at h2 hi
    have hcl : cur.toList.length = cap * 5 := by simpa using hs
    refine ⟨g, cap, c, cur.toList, rfl, by unfold Blk; simpa using hb, by rw [hcl]; exact Nat.mul_le_mul_right _ hc, fun j u hu => ?_, h3⟩
    have hB : Blk w g 25 cur.toList := by unfold Blk; simpa using hb
    refine hB.cell ?_
    have h5 := h4 j u hu
    rw [← ht, List.getElem?_take] at h5
    split at h5
    · exact h5
    · cases h5
/-- A term is stored at a place of such a row. -/
theorem RowT.put {m g n cap : Nat} {w : World} {ts : List Tm} {i : Nat} {t : Tm} {c : List Value} (h : RowT m w (.slice (some ⟨g, 0, none⟩) n cap) ts) (hn : ts.length = n) (hi : i < n) (ht : TmAt (List.range m ++ ownL (.slice (some ⟨g, 0, none⟩) n cap)) w t c) : RowT m (w.setCells g (5 * i) c) (.slice (some ⟨g, 0, none⟩) n cap) (ts.set i t) := by
  obtain ⟨ds, ⟨h0, h1⟩, h2⟩ := h
  have hl := ht.len
  have hdl := TmCells.len h2
  have hfl := TmCells.flat h2
  rcases h1 with ⟨e, -⟩ | ⟨g', cap', cur, e, hg, hb, hc, hm, hs, htk⟩
  · cases e
  · obtain ⟨e1, e2, rfl⟩ := Value.slice.inj e
    obtain rfl : g = g' := by have := Option.some.inj e1; simpa using congrArg Addr.block this
    have hB : Blk w g 25 cur.toList := by unfold Blk; simpa using hb
    have hcl : cur.toList.length = cap * 5 := by simpa using hs
    have hfit : 5 * i + c.length ≤ cur.toList.length := by rw [hcl, hl]; omega
    have hB2 := Blk.setCells c hB (5 * i) hfit
    have hu : Upd g w (w.setCells g (5 * i) c) := (Upd.refl g w).setCells c (5 * i)
    have hst : Step (List.range m ++ ownL (.slice (some ⟨g, 0, none⟩) n cap)) w (List.range m ++ ownL (.slice (some ⟨g, 0, none⟩) n cap)) (w.setCells g (5 * i) c) := Step.of_upd hu (List.mem_append_right _ (by simp [ownL, Value.ownBlock]))
    have hsp : splice ds.flatten (5 * i) c = (ds.set i c).flatten := splice_flat ds i c (TmCells.lens h2) hl (by omega)
    refine ⟨ds.set i c, ⟨by rw [← hsp, splice_length (by rw [hfl, hl]; omega), List.length_set, hfl]; omega, .inr ⟨g, cap, (splice cur.toList (5 * i) c).toArray, by rw [List.length_set, hn], hg, by unfold Blk at hB2; exact hB2, by rw [List.length_set]; exact hc, hm, by rw [List.size_toArray, splice_length hfit, hcl], ?_⟩⟩, TmCells.set (TmAt.step hst _ _ ht) i (TmCells.step hst h2)⟩
    rw [List.length_set]
    show (splice cur.toList (5 * i) c).take (ts.length * 5) = _
    rw [take_splice (by omega) (by rw [hcl]; exact Nat.mul_le_mul_right _ hc), htk, hsp]
theorem two_args {c : Tm} (h : c.args.length = 2) : ∃ x y, c.args = [x, y] := by
  match hc : c.args, h with
  | [x, y], _ => exact ⟨x, y, rfl⟩
theorem strip_yes {k : Int} {c x y : Tm} (hk : c.kind = k) (ha : c.args = [x, y]) : stripT k c = (x :: (stripT k y).1, (stripT k y).2) := by
  obtain ⟨k', n, s, l, a⟩ := c
  dsimp only [Tm.kind, Tm.args] at hk ha
  subst hk
  subst ha
  exact strip_node _ _ _ _ _ _
theorem strip_no {k : Int} {c : Tm} (h : ¬ (c.kind = k ∧ c.args.length = 2)) : stripT k c = ([], c) := by
  obtain ⟨k', n, s, l, a⟩ := c
  dsimp only [Tm.kind, Tm.args] at h
  match a, h with
  | [], _ => rw [stripT]; simp
  | [x], _ => rw [stripT]; simp
  | [x, y], h => rw [stripT, if_neg (fun e => h ⟨e, rfl⟩)]
  | x :: y :: z :: r, _ => rw [stripT]; simp
theorem spine_yes {c x y : Tm} (hk : c.kind = 5) (ha : c.args = [x, y]) : spineT c = ((spineT x).1, (spineT x).2 ++ [y]) := by
  obtain ⟨k', n, s, l, a⟩ := c
  dsimp only [Tm.kind, Tm.args] at hk ha
  subst hk
  subst ha
  exact spine_node _ _ _ _ _
theorem spine_no {c : Tm} (h : ¬ (c.kind = 5 ∧ c.args.length = 2)) : spineT c = (c, []) := by
  obtain ⟨k', n, s, l, a⟩ := c
  dsimp only [Tm.kind, Tm.args] at h
  unfold spineT
  split
  · rename_i e
    cases e
    exact absurd ⟨rfl, rfl⟩ h
  · rfl
theorem nodes_two {c x y : Tm} (ha : c.args = [x, y]) : nodesT x + nodesT y + 1 ≤ nodesT c := by
  obtain ⟨k', n, s, l, a⟩ := c
  dsimp only [Tm.args] at ha
  subst ha
  simp only [nodesT, nodesTs]
  omega
theorem SmT.args {c x : Tm} (h : SmT c) (hx : x ∈ c.args) : SmT x := SmTs.mem h.open.2.2.2 hx

set_option maxHeartbeats 4000000 in
theorem hastwo_walk {F : List Nat} (t : Tm) (cs : List Value) (k : Int) (w : World) (ht : TmAt F w t cs) : Calls Try.prog 40 #[.agg cs.toArray, .int .i64 k] w fun e w' => e = .returned (.bool (decide (t.kind = k ∧ t.args.length = 2))) ∧ Below w.heap.size w w' := by
  obtain ⟨lv, av, rfl, h1, h2⟩ := ht.open
  obtain ⟨aa, ac, rfl⟩ := h2.slice
  obtain ⟨ck, hck⟩ : ∃ y, Hid (t.kind = y) := ⟨_, rfl⟩
  obtain ⟨cn, hcn⟩ : ∃ y, Hid (t.args.length = y) := ⟨_, rfl⟩
  rw [hck.out, hcn.out]
  obtain ⟨q, hq⟩ : ∃ q, Hid (w.heap.size = q) := ⟨_, rfl⟩
  obtain ⟨CS, hCS⟩ : ∃ x, Hid ([.int .i64 ck, .int .i64 t.n, strT t.name, lv, .slice aa cn ac] = x) := ⟨_, rfl⟩
  rw [hCS.out, hq.out]
  clear ht h1 h2
  go_enter Try.func40, Try.ntmps40
  go_upto_region 0 with (fail)
  refine lin_begin (opsOf Try.f40 0) (by kernel_rfl) ?_
  refine lin_box 0 25 (.tmp 0) (CS) (q) (some 2) (by kernel_rfl) (by kernel_rfl) (by kernel_rfl) (by kernel_rfl) hq ?_
  intro w1 bw1 bew1 hsw1
  refine lin_now 1 (.bool false) (some 4) (by kernel_rfl) (by kernel_rfl) (by kernel_rfl) ?_
  refine lin_done 2 (by kernel_rfl) ?_
  generalize hact : Act.put _ (some 4) _ = act
  simp only [Act.put, List.setIfInBounds_toArray, List.set_cons_succ, List.set_cons_zero] at hact
  subst hact
  have k0 : w1.cell? ⟨q, 0, none⟩ = some (.int .i64 ck) := bw1.cell (by rw [← hCS.out]; rfl)
  have k4 : w1.cell? ⟨q, 4, none⟩ = some (.slice aa cn ac) := bw1.cell (by rw [← hCS.out]; rfl)
  have BE := Lib.hid bew1
  have K0 := Lib.hid k0
  have K4 := Lib.hid k4
  clear bw1 bew1 hsw1 k0 k4
  by_cases hk : ck = k
  rotate_left
  · have r1 : decide (ck = k) = false := decide_eq_false hk
    go_upto_region 1 with (fail)
    refine lin_begin (opsOf Try.f40 1) (by kernel_rfl) ?_
    refine lin_now 0 (.pointer (some ⟨q, 0, none⟩)) (some 5) (by kernel_rfl) (by kernel_rfl) (by kernel_rfl) ?_
    refine lin_now 1 (.int .i64 ck) (some 6) (by kernel_rfl) (by kernel_rfl) (exec_load_cell 3 (.tmp 5) (by kernel_rfl) (q) 0 (by kernel_rfl) _ (K0.out) _ Try.underlying3 rfl) ?_
    refine lin_now 2 (.int .i64 k) (some 7) (by kernel_rfl) (by kernel_rfl) (by kernel_rfl) ?_
    refine lin_now 3 (.bool (decide (ck = k))) (some 8) (by kernel_rfl) (by kernel_rfl) (by kernel_rfl) ?_
    rw [r1]
    refine lin_now 4 (.bool false) (some 9) (by kernel_rfl) (by kernel_rfl) (by kernel_rfl) ?_
    refine lin_pass 5 (some 10) (by kernel_rfl) (by kernel_rfl) ?_
    refine lin_pass 6 (some 11) (by kernel_rfl) (by kernel_rfl) ?_
    refine lin_pass 7 (some 12) (by kernel_rfl) (by kernel_rfl) ?_
    refine lin_pass 8 (some 13) (by kernel_rfl) (by kernel_rfl) ?_
    refine lin_now 9 (.bool false) (some 14) (by kernel_rfl) (by kernel_rfl) (by kernel_rfl) ?_
    refine lin_now 10 (.bool false) (some 4) (by kernel_rfl) (by kernel_rfl) (by kernel_rfl) ?_
    refine lin_done 11 (by kernel_rfl) ?_
    generalize hact : Act.put _ (some 4) _ = act
    simp only [Act.put, List.setIfInBounds_toArray, List.set_cons_succ, List.set_cons_zero] at hact
    subst hact
    go_wp2
    go_ret
    exact ⟨by simp [hk], BE.out⟩
  have r1 : decide (ck = k) = true := decide_eq_true hk
  go_upto_region 1 with (fail)
  refine lin_begin (opsOf Try.f40 1) (by kernel_rfl) ?_
  refine lin_now 0 (.pointer (some ⟨q, 0, none⟩)) (some 5) (by kernel_rfl) (by kernel_rfl) (by kernel_rfl) ?_
  refine lin_now 1 (.int .i64 ck) (some 6) (by kernel_rfl) (by kernel_rfl) (exec_load_cell 3 (.tmp 5) (by kernel_rfl) (q) 0 (by kernel_rfl) _ (K0.out) _ Try.underlying3 rfl) ?_
  refine lin_now 2 (.int .i64 k) (some 7) (by kernel_rfl) (by kernel_rfl) (by kernel_rfl) ?_
  refine lin_now 3 (.bool (decide (ck = k))) (some 8) (by kernel_rfl) (by kernel_rfl) (by kernel_rfl) ?_
  rw [r1]
  refine lin_now 4 (.bool true) (some 9) (by kernel_rfl) (by kernel_rfl) (by kernel_rfl) ?_
  refine lin_now 5 (.pointer (some ⟨q, 4, none⟩)) (some 10) (by kernel_rfl) (by kernel_rfl) (by kernel_rfl) ?_
  refine lin_now 6 (.slice aa cn ac) (some 11) (by kernel_rfl) (by kernel_rfl) (exec_load_cell 23 (.tmp 10) (by kernel_rfl) (q) 4 (by kernel_rfl) _ (K4.out) _ Try.underlying23 rfl) ?_
  refine lin_now 7 (.int .i64 (cn : Int)) (some 12) (by kernel_rfl) (by kernel_rfl) (by kernel_rfl) ?_
  refine lin_now 8 (.bool (decide ((cn : Int) = 2))) (some 13) (by kernel_rfl) (by kernel_rfl) (by kernel_rfl) ?_
  refine lin_now 9 (.bool (decide ((cn : Int) = 2))) (some 14) (by kernel_rfl) (by kernel_rfl) (by kernel_rfl) ?_
  refine lin_now 10 (.bool (decide ((cn : Int) = 2))) (some 4) (by kernel_rfl) (by kernel_rfl) (by kernel_rfl) ?_
  refine lin_done 11 (by kernel_rfl) ?_
  generalize hact : Act.put _ (some 4) _ = act
  simp only [Act.put, List.setIfInBounds_toArray, List.set_cons_succ, List.set_cons_zero] at hact
  subst hact
  have e : decide ((cn : Int) = 2) = decide (ck = k ∧ cn = 2) := by rw [Bool.eq_iff_iff]; simp [hk]; omega
  have HE := Lib.hid e
  clear e
  go_wp2
  go_ret
  exact ⟨by rw [← HE.out]; rfl, BE.out⟩

theorem nodesT_pos (t : Tm) : 1 ≤ nodesT t := by
  obtain ⟨k, n, s, l, a⟩ := t
  rw [nodesT]
  omega
theorem results_tmp_cell {P : Program} {fn : Func} {p q : Tmp} {ty : TypeId} (h : fn.results = #[.tmp q, .cell p ty]) (tmps : Array Value) (w : World) {g : Nat} {t : TypeId} {cs : Array Value} {fr : Nat × Nat} {d : TypeDesc} {v : Value}
    (hp : tmps.getD p undef = .pointer (some ⟨g, 0, none⟩)) (hg : w.heap[g]? = some (.cells cs t fr)) (hu : P.underlying ty = some d) (hd : (match d with | .struct _ | .array _ _ => true | _ => false) = true) (hi : (P.info? ty).map (·.size) = some cs.size) (hv : tmps.getD q undef = v) : (results fn tmps).run P w = .ok (.tuple #[v, .agg cs]) w := by
  have hp' : tmps[p]?.getD undef = .pointer (some ⟨g, 0, none⟩) := by simpa using hp
  have hv' : tmps[q]?.getD undef = v := by simpa using hv
  simp [results, h, hp', hv', asAddr, run_loadVar_row w g t ty cs fr d hg hu hd hi]

set_option maxHeartbeats 8000000 in
theorem strip_walk {F : List Nat} (t : Tm) (cs : List Value) (k : Int) (w : World) (ht : TmAt F w t cs) (hs : SmT t) (hn : nodesT t ≤ 1000000000000) : Calls Try.prog 12 #[.agg cs.toArray, .int .i64 k] w fun e w' => ∃ v cr, e = .returned (.tuple #[v, .agg cr.toArray]) ∧ TmsAt (List.range w.heap.size) w' (stripT k t).1 v ∧ TmAt (List.range w.heap.size) w' (stripT k t).2 cr ∧ Below w.heap.size w w' := by
  have C5 := Lib.hid ht.len
  have C1 := Lib.hid ht.one
  have HT := Lib.hid ht
  have HS := Lib.hid hs
  have HN := Lib.hid hn
  obtain ⟨q, hq⟩ : ∃ q, Hid (w.heap.size = q) := ⟨_, rfl⟩
  rw [hq.out]
  clear ht hs hn
  go_enter Try.func12, Try.ntmps12
  go_upto_region 0 with (fail)
  refine lin_begin (opsOf Try.f12 0) (by kernel_rfl) ?_
  refine lin_box 0 25 (.tmp 0) (cs) (q) (some 2) (by kernel_rfl) (by kernel_rfl) (by kernel_rfl) (by kernel_rfl) hq ?_
  intro w1 bw1 bew1 hsw1
  refine lin_now 1 (.slice none 0 0) (some 4) (by kernel_rfl) (by kernel_rfl) (by kernel_rfl) ?_
  refine lin_alloc 2 25 z5T (q + 1) (some 5) (by kernel_rfl) (by kernel_rfl) (by kernel_rfl) (by kernel_rfl) hsw1 ?_
  intro w2 bw2 bew2 hsw2
  refine lin_done 3 (by kernel_rfl) ?_
  generalize hact : Act.put _ (some 5) _ = act
  simp only [Act.put, List.setIfInBounds_toArray, List.set_cons_succ, List.set_cons_zero] at hact
  subst hact
  have B1 : Hid (Blk w2 q 25 cs) := bw1.below bew2 (by omega)
  have B2 : Hid (Blk w2 (q + 1) 25 z5T) := bw2
  have BE : Hid (Below q w w2) := bew1.trans (bew2.mono (by omega))
  have S2 : Hid (q + 2 ≤ w2.heap.size) := by have := hsw2.out; rw [Hid]; omega
  clear bw1 bew1 hsw1 bw2 bew2 hsw2
  go_upto_region 1 with (fail)
  refine lin_begin (opsOf Try.f12 1) (by kernel_rfl) ?_
  refine lin_now 0 (.slice none 0 0) (some 6) (by kernel_rfl) (by kernel_rfl) (by kernel_rfl) ?_
  refine lin_done 1 (by kernel_rfl) ?_
  generalize hact : Act.put _ (some 6) _ = act
  simp only [Act.put, List.setIfInBounds_toArray, List.set_cons_succ, List.set_cons_zero] at hact
  subst hact
  go_wp2
  go_loopg [6] (nodesT t + 1) (fun gn tv wr => ∃ (tz : Value) (c : Tm) (cc : List Value) (ts : List Tm), tz = tv ∧ Hid (nodesT c < gn) ∧ Hid (TmAt F w c cc) ∧ Hid (SmT c) ∧ Hid (RowT (q + 2) wr tz ts) ∧ Hid (stripT k t = (ts ++ (stripT k c).1, (stripT k c).2)) ∧ Hid (Blk wr q 25 cc) ∧ Hid (Blk wr (q + 1) 25 z5T) ∧ Hid (Below q w wr) ∧ Hid (q + 2 ≤ wr.heap.size) ∧ Hid (ts.length + nodesT c ≤ nodesT t))
  case atStart => exact ⟨.slice none 0 0, t, cs, [], rfl, Nat.lt_succ_self _, HT, HS, RowT.nil _ _, by rw [Hid]; simp, B1, B2, BE, S2, by rw [Hid]; simp⟩
  case round =>
    obtain ⟨tz, c, cc, ts, rfl, HGN, CT, CSM, RT, EQ, D1, D2, DE, DS, TL⟩ := hrel
    have CC5 := Lib.hid CT.out.len
    have CC1 := Lib.hid CT.out.one
    have CTr : Hid (TmAt F wr c cc) := TmAt.step (Step.of_below DE.out (by have := hq.out; omega)) _ _ CT.out
    have HH := hastwo_walk c cc k wr CTr.out
    by_cases hy : c.kind = k ∧ c.args.length = 2
    rotate_left
    · have rb : decide (c.kind = k ∧ c.args.length = 2) = false := decide_eq_false hy
      have FEQ : Hid (stripT k t = (ts, c)) := by rw [Hid, EQ.out, strip_no hy]; simp
      clear EQ
      go_upto_region 2 with (fail)
      refine lin_begin (opsOf Try.f12 2) (by kernel_rfl) ?_
      refine lin_now 0 (.agg (cc).toArray) (some 7) (by kernel_rfl) (by kernel_rfl) (exec_load_mid 25 (.tmp 2) (by kernel_rfl) (q) 0 (by kernel_rfl) (cc) _ (D1.out).whole Try.underlying25 rfl (t5Size CC5.out)) ?_
      refine lin_now 1 (.int .i64 k) (some 8) (by kernel_rfl) (by kernel_rfl) (by kernel_rfl) ?_
      refine lin_call 2 40 #[.agg cc.toArray, .int .i64 k] (some 9) _ (by kernel_rfl) (by kernel_rfl) (by kernel_rfl) (HH) ?_
      rintro e w3 ⟨rfl, hb3⟩
      rw [rb]
      refine ⟨_, rfl, ?_⟩
      refine lin_done 3 (by kernel_rfl) ?_
      generalize hact : Act.put _ (some 9) _ = act
      simp only [Act.put, List.setIfInBounds_toArray, List.set_cons_succ, List.set_cons_zero] at hact
      subst hact
      have E1 := Lib.hid (D1.out.below hb3 D1.out.lt)
      have E2 := Lib.hid (D2.out.below hb3 D2.out.lt)
      have EE : Hid (Below q w w3) := DE.out.trans (hb3.mono (by have := DS.out; omega))
      have ES : Hid (q + 2 ≤ w3.heap.size) := by have := DS.out; have := hb3.size; rw [Hid]; omega
      have ER := Lib.hid (RT.out.below hb3)
      have EC := Lib.hid (CTr.out.below hb3)
      clear hb3 D1 D2 DE DS RT CTr HH
      go_upto_region 5 with (fail)
      refine lin_begin (opsOf Try.f12 5) (by kernel_rfl) ?_
      refine lin_now 0 tz (some 22) (by kernel_rfl) (by kernel_rfl) (by kernel_rfl) ?_
      refine lin_now 1 (.agg (cc).toArray) (some 23) (by kernel_rfl) (by kernel_rfl) (exec_load_mid 25 (.tmp 2) (by kernel_rfl) (q) 0 (by kernel_rfl) (cc) _ (E1.out).whole Try.underlying25 rfl (t5Size CC5.out)) ?_
      refine lin_call 2 35 #[.agg cc.toArray] (some 24) _ (by kernel_rfl) (by kernel_rfl) (by kernel_rfl) (clone_walk c cc w3 F EC.out CSM.out) ?_
      rintro e w5 ⟨cr, rfl, hcr, hb5⟩
      refine ⟨_, rfl, ?_⟩
      have K5 := Lib.hid hcr.len
      refine lin_now 3 tz (some 4) (by kernel_rfl) (by kernel_rfl) (by kernel_rfl) ?_
      refine lin_put 4 25 (.tmp 5) (.tmp 24) (q + 1) _ (z5T) (cr) (by kernel_rfl) (by kernel_rfl) (by kernel_rfl) (by kernel_rfl) (by kernel_rfl) (E2.out.below hb5 E2.out.lt) (K5.out.trans (rfl : z5T.length = 5).symm) (t5Size K5.out) (by simpa using hcr.one) ?_
      intro w6 bw6 uw6
      refine lin_done 5 (by kernel_rfl) ?_
      generalize hact : Act.put _ none _ = act
      simp only [Act.put, List.setIfInBounds_toArray, List.set_cons_succ, List.set_cons_zero] at hact
      subst hact
      have st6 : Step (List.range (q + 2)) w5 (List.range (q + 2)) w6 := Step.of_upd uw6 (List.mem_range.2 (by omega))
      have F1 : TmAt (List.range q) w6 c cr := (TmAt.step st6 _ _ (hcr.range ES.out)).range (by omega)
      have F2 : TmsAt (List.range q) w6 ts _ := TmsAt.sub (fun k hk => .inl (List.mem_range.2 (by have := List.mem_range.1 hk; omega))) _ _ (TmsAt.step st6 _ _ (RowT.in (ER.out.below hb5)))
      have F3 : Below q w w6 := uw6.below (EE.out.trans (hb5.mono (by have := ES.out; omega))) (by omega) (by have := EE.out.size; have := hb5.size; have := hq.out; omega)
      clear hcr hb5 uw6 st6 E1 E2 EE ES EC ER
      go_wp2
      refine bodyPost_ret (v := .tuple #[_, .agg cr.toArray]) (results_tmp_cell (g := q + 1) (t := 25) (cs := cr.toArray) (fr := (0, 0)) Try.results12 _ _ rfl bw6 Try.underlying25 rfl (t5Size K5.out) rfl) rfl ⟨_, cr, rfl, by rw [FEQ.out]; exact F2, by rw [FEQ.out]; exact F1, F3⟩
    have rb : decide (c.kind = k ∧ c.args.length = 2) = true := decide_eq_true hy
    obtain ⟨x, y, hxy⟩ := two_args hy.2
    have NEQ : Hid (stripT k t = ((ts ++ [x]) ++ (stripT k y).1, (stripT k y).2)) := by rw [Hid, EQ.out, strip_yes hy.1 hxy]; simp
    have NL := Lib.hid (nodes_two hxy)
    have SX : Hid (SmT x) := SmT.args CSM.out (by rw [hxy]; simp)
    have SY : Hid (SmT y) := SmT.args CSM.out (by rw [hxy]; simp)
    obtain ⟨lv, av, hcc, -, ha⟩ := CT.out.open
    rw [hxy] at ha
    obtain ⟨aa, ac, rfl⟩ := ha.slice
    obtain ⟨x', pb, po, cx, hx1, -, rfl, -, hpb, -, hrx, htx⟩ := ha.get rfl (show 0 < 2 by decide)
    obtain ⟨y', pb2, po2, cy, hy1, -, e2, -, -, -, hry, hty⟩ := ha.get rfl (show 1 < 2 by decide)
    obtain ⟨rfl, rfl⟩ : pb = pb2 ∧ po = po2 := by cases e2; exact ⟨rfl, rfl⟩
    obtain rfl : x = x' := by simpa using hx1
    obtain rfl : y = y' := by simpa using hy1
    have NX := Lib.hid (nodesT_pos x)
    have NY := Lib.hid (nodesT_pos y)
    have HRX := Lib.hid hrx
    have HTX := Lib.hid htx
    have HRY := Lib.hid hry
    have HTY := Lib.hid hty
    have X5 := Lib.hid htx.len
    have Y5 := Lib.hid hty.len
    have X1 := Lib.hid htx.one
    have Y1 := Lib.hid hty.one
    have PBQ : Hid (pb < q) := by have := hq.out; rw [Hid]; omega
    have HCC := Lib.hid hcc
    clear EQ ha hx1 hy1 e2 hpb hrx htx hry hty hcc hxy hy CT
    go_upto_region 2 with (fail)
    refine lin_begin (opsOf Try.f12 2) (by kernel_rfl) ?_
    refine lin_now 0 (.agg (cc).toArray) (some 7) (by kernel_rfl) (by kernel_rfl) (exec_load_mid 25 (.tmp 2) (by kernel_rfl) (q) 0 (by kernel_rfl) (cc) _ (D1.out).whole Try.underlying25 rfl (t5Size CC5.out)) ?_
    refine lin_now 1 (.int .i64 k) (some 8) (by kernel_rfl) (by kernel_rfl) (by kernel_rfl) ?_
    refine lin_call 2 40 #[.agg cc.toArray, .int .i64 k] (some 9) _ (by kernel_rfl) (by kernel_rfl) (by kernel_rfl) (HH) ?_
    rintro e w3 ⟨rfl, hb3⟩
    rw [rb]
    refine ⟨_, rfl, ?_⟩
    refine lin_done 3 (by kernel_rfl) ?_
    generalize hact : Act.put _ (some 9) _ = act
    simp only [Act.put, List.setIfInBounds_toArray, List.set_cons_succ, List.set_cons_zero] at hact
    subst hact
    have E1 := Lib.hid (D1.out.below hb3 D1.out.lt)
    have E2 := Lib.hid (D2.out.below hb3 D2.out.lt)
    have EE : Hid (Below q w w3) := DE.out.trans (hb3.mono (by have := DS.out; omega))
    have ES : Hid (q + 2 ≤ w3.heap.size) := by have := DS.out; have := hb3.size; rw [Hid]; omega
    have ER := Lib.hid (RT.out.below hb3)
    have EC := Lib.hid (CTr.out.below hb3)
    clear hb3 D1 D2 DE DS RT CTr HH
    have k4 : w3.cell? ⟨q, 4, none⟩ = some (.slice (some ⟨pb, po, none⟩) 2 ac) := E1.out.cell (by rw [HCC.out]; rfl)
    have EA : Hid (TmAt F w3 x cx) := TmAt.step (Step.of_below EE.out (by have := hq.out; omega)) _ _ HTX.out
    go_upto_region 3 with (fail)
    refine lin_begin (opsOf Try.f12 3) (by kernel_rfl) ?_
    refine lin_now 0 tz (some 10) (by kernel_rfl) (by kernel_rfl) (by kernel_rfl) ?_
    refine lin_now 1 (.pointer (some ⟨q, 4, none⟩)) (some 11) (by kernel_rfl) (by kernel_rfl) (by kernel_rfl) ?_
    refine lin_now 2 (.slice (some ⟨pb, po, none⟩) 2 ac) (some 12) (by kernel_rfl) (by kernel_rfl) (exec_load_cell 23 (.tmp 11) (by kernel_rfl) (q) 4 (by kernel_rfl) _ (k4) _ Try.underlying23 rfl) ?_
    refine lin_now 3 (.pointer (some ⟨pb, po + 5 * 0, none⟩)) (some 13) (by kernel_rfl) (by kernel_rfl) (exec_indexAt 23 (.tmp 12) (.const (.int .i64 0)) (by kernel_rfl) _ _ _ (by kernel_rfl) (by kernel_rfl) (run_at_tm pb po 2 ac 0 (by decide) _)) ?_
    refine lin_now 4 (.agg cx.toArray) (some 14) (by kernel_rfl) (by kernel_rfl) (exec_load_mid 25 (.tmp 13) (by kernel_rfl) pb (po + 5 * 0) (by kernel_rfl) cx _ (rng_low HRX.out EE.out PBQ.out) Try.underlying25 rfl (t5Size X5.out)) ?_
    refine lin_call 5 35 #[.agg cx.toArray] (some 15) _ (by kernel_rfl) (by kernel_rfl) (by kernel_rfl) (clone_walk x cx w3 F EA.out SX.out) ?_
    rintro e w4 ⟨c', rfl, hct, hb4⟩
    refine ⟨_, rfl, ?_⟩
    have GC : Hid (TmAt (List.range (q + 2) ++ ownL tz) w4 x c') := TmAt.off hct (fun k hk => by
      rcases List.mem_append.1 hk with hk | hk
      · have := List.mem_range.1 hk; have := ES.out; exact .inl (by omega)
      · exact .inl (ER.out.own k (ownL_mem.1 hk)).2)
    have G1 := Lib.hid (E1.out.below hb4 E1.out.lt)
    have G2 := Lib.hid (E2.out.below hb4 E2.out.lt)
    have GE : Hid (Below q w w4) := EE.out.trans (hb4.mono (by have := ES.out; omega))
    have GS : Hid (q + 2 ≤ w4.heap.size) := by have := ES.out; have := hb4.size; rw [Hid]; omega
    have GR := Lib.hid (ER.out.below hb4)
    have RB := run_build_tm1 hct w4
    obtain ⟨qr, hqr⟩ : ∃ y, Hid (w4.heap.size = y) := ⟨_, rfl⟩
    clear hct hb4 E1 E2 EE ES ER EC EA k4
    refine lin_row 6 25 c' qr 1 (some 16) (by kernel_rfl) (by kernel_rfl) hqr (exec_of _ _ (by kernel_rfl) RB) ?_
    intro w5 bw5 bew5 hsw5
    have bew5' : Below w4.heap.size w4 w5 := by rw [hqr.out]; exact bew5
    have IR := Lib.hid (GR.out.below bew5')
    have I1 := Lib.hid (G1.out.below bew5' G1.out.lt)
    have I2 := Lib.hid (G2.out.below bew5' G2.out.lt)
    have IE : Hid (Below q w w5) := GE.out.trans (bew5'.mono (by have := GS.out; omega))
    have IS : Hid (q + 2 ≤ w5.heap.size) := by have := GS.out; have := bew5'.size; rw [Hid]; omega
    obtain ⟨tv', w6, hrun, RT6, hg6, hat6⟩ := IR.out.append bw5 (GC.out.below bew5') (by have := TL.out; have := HN.out; have := NX.out; omega) IS.out
    refine lin_value 7 tv' (some 17) w6 (by kernel_rfl) (by kernel_rfl) (exec_of _ _ (by kernel_rfl) hrun) ?_
    have gb : Below (q + 2) w5 w6 := grown_below hg6 IS.out (fun g hg => (IR.out.own g hg).1)
    have J1 : Hid (Blk w6 q 25 cc) := I1.out.below gb (by omega)
    have J2 : Hid (Blk w6 (q + 1) 25 z5T) := I2.out.below gb (by omega)
    have JE : Hid (Below q w w6) := IE.out.trans (gb.mono (by omega))
    have JS : Hid (q + 2 ≤ w6.heap.size) := by have := IS.out; have := gb.size; rw [Hid]; omega
    clear hrun hg6 hat6 gb bw5 bew5 bew5' hsw5 IR I1 I2 IE IS G1 G2 GE GS GR GC RB
    refine lin_now 8 (tv') (some 6) (by kernel_rfl) (by kernel_rfl) (by kernel_rfl) ?_
    refine lin_done 9 (by kernel_rfl) ?_
    generalize hact : Act.put _ (some 6) _ = act
    simp only [Act.put, List.setIfInBounds_toArray, List.set_cons_succ, List.set_cons_zero] at hact
    subst hact
    have k4 : w6.cell? ⟨q, 4, none⟩ = some (.slice (some ⟨pb, po, none⟩) 2 ac) := J1.out.cell (by rw [HCC.out]; rfl)
    go_upto_region 4 with (fail)
    refine lin_begin (opsOf Try.f12 4) (by kernel_rfl) ?_
    refine lin_now 0 (.pointer (some ⟨q, 4, none⟩)) (some 18) (by kernel_rfl) (by kernel_rfl) (by kernel_rfl) ?_
    refine lin_now 1 (.slice (some ⟨pb, po, none⟩) 2 ac) (some 19) (by kernel_rfl) (by kernel_rfl) (exec_load_cell 23 (.tmp 18) (by kernel_rfl) (q) 4 (by kernel_rfl) _ (k4) _ Try.underlying23 rfl) ?_
    refine lin_now 2 (.pointer (some ⟨pb, po + 5 * 1, none⟩)) (some 20) (by kernel_rfl) (by kernel_rfl) (exec_indexAt 23 (.tmp 19) (.const (.int .i64 1)) (by kernel_rfl) _ _ _ (by kernel_rfl) (by kernel_rfl) (run_at_tm pb po 2 ac 1 (by decide) _)) ?_
    refine lin_now 3 (.agg cy.toArray) (some 21) (by kernel_rfl) (by kernel_rfl) (exec_load_mid 25 (.tmp 20) (by kernel_rfl) pb (po + 5 * 1) (by kernel_rfl) cy _ (rng_low HRY.out JE.out PBQ.out) Try.underlying25 rfl (t5Size Y5.out)) ?_
    refine lin_put 4 25 (.tmp 2) (.tmp 21) (q) _ (cc) (cy) (by kernel_rfl) (by kernel_rfl) (by kernel_rfl) (by kernel_rfl) (by kernel_rfl) J1.out (Y5.out.trans CC5.out.symm) (t5Size Y5.out) (by simpa using Y1.out) ?_
    intro w7 bw7 uw7
    refine lin_done 5 (by kernel_rfl) ?_
    generalize hact : Act.put _ none _ = act
    simp only [Act.put, List.setIfInBounds_toArray, List.set_cons_succ, List.set_cons_zero] at hact
    subst hact
    have N1 : Hid (Blk w7 q 25 cy) := bw7
    have N2 : Hid (Blk w7 (q + 1) 25 z5T) := uw7.blk J2.out (by omega)
    have NE : Hid (Below q w w7) := uw7.below JE.out (Nat.le_refl _) (by have := JE.out.size; have := hq.out; omega)
    have NS : Hid (q + 2 ≤ w7.heap.size) := by have := JS.out; have := uw7.size; rw [Hid]; omega
    have NR : Hid (RowT (q + 2) w7 tv' (ts ++ [x])) := RowT.upd RT6 uw7 (by omega)
    clear bw7 uw7 J1 J2 JE JS RT6 k4
    go_wp2
    go_roundg (nodesT y + 1)
    case measure => have h1 := HGN.out; have h2 := NL.out; have h3 := NX.out; have h4 := NY.out; omega
    case rel => exact ⟨tv', y, cy, ts ++ [x], rfl, Nat.lt_succ_self _, HTY, SY, NR, NEQ, N1, N2, NE, NS, by have h1 := TL.out; have h2 := NL.out; have h3 := NX.out; have h4 := NY.out; rw [Hid, List.length_append]; simp; omega⟩

theorem drew_cells (g : Nat) : ∀ (c : List Value) (w : World) (o : Nat), w.drew.setCells g o c = (w.setCells g o c).drew
  | [], _, _ => rfl
  | v :: r, w, o => by
    rw [World.setCells, World.setCells]
    exact drew_cells g r (w.setCell ⟨g, o, none⟩ v) (o + 1)
set_option maxHeartbeats 8000000 in
theorem reverse_walk (m : Nat) (v : Value) (ts : List Tm) (w : World) (h : RowT m w v ts) (hn : ts.length ≤ 1000000000000) (hm : m ≤ w.heap.size) : Calls Try.prog 41 #[v] w fun e w' => (∃ u, e = .returned u) ∧ RowT m w' v ts.reverse ∧ Below m w w' := by
  obtain ⟨va, vn, vc, rfl⟩ := h.slice
  have hvn : vn = ts.length := by
    obtain ⟨a2, c2, e⟩ := h.in.slice
    cases e
    rfl
  obtain ⟨n, hnn⟩ : ∃ n, Hid (ts.length = n) := ⟨_, rfl⟩
  rw [hnn.out] at hvn hn
  subst hvn
  have HR := Lib.hid h
  have HL : Hid (w.heap.size = w.heap.size) := rfl
  clear h
  go_enter Try.func41, Try.ntmps41
  go_upto_region 0 with (fail)
  refine lin_begin (opsOf Try.f41 0) (by kernel_rfl) ?_
  refine lin_now 0 (.slice va vn vc) (some 4) (by kernel_rfl) (by kernel_rfl) (by kernel_rfl) ?_
  refine lin_now 1 (.int .i64 (vn : Int)) (some 5) (by kernel_rfl) (by kernel_rfl) (by kernel_rfl) ?_
  refine lin_now 2 (.int .i64 (IntKind.i64.wrap ((vn : Int) - 1))) (some 6) (by kernel_rfl) (by kernel_rfl) (by kernel_rfl) ?_
  rw [show IntKind.i64.wrap ((vn : Int) - 1) = (vn : Int) - 1 from IntWalk.i64_in _ (by omega)]
  refine lin_now 3 (.int .i64 0) (some 2) (by kernel_rfl) (by kernel_rfl) (by kernel_rfl) ?_
  refine lin_now 4 (.int .i64 ((vn : Int) - 1)) (some 3) (by kernel_rfl) (by kernel_rfl) (by kernel_rfl) ?_
  refine lin_done 5 (by kernel_rfl) ?_
  generalize hact : Act.put _ (some 3) _ = act
  simp only [Act.put, List.setIfInBounds_toArray, List.set_cons_succ, List.set_cons_zero] at hact
  subst hact
  go_wp2
  go_loopw [2, 3] (fun iv jv wr => ∃ (i : Nat) (ys : List Tm), 2 * i ≤ vn + 1 ∧ iv = .int .i64 (i : Int) ∧ jv = .int .i64 ((vn : Int) - 1 - i) ∧ Hid (RowT m wr (.slice va vn vc) ys) ∧ Hid (ys.length = vn) ∧ Hid (∀ k, k < vn → ys[k]? = if k < i ∨ vn ≤ k + i then ts[vn - 1 - k]? else ts[k]?) ∧ Hid (Below m w wr)) (fun iv _ _ => vn + 1 - 2 * (intOf iv).toNat)
  case atStart => exact ⟨0, ts, by omega, rfl, by simp, HR, hnn, fun k hk => by rw [if_neg (by omega)], Below.refl _ _⟩
  case round =>
    obtain ⟨i, ys, hi, rfl, rfl, RY, LY, GY, BE⟩ := hrel
    by_cases hlt : (i : Int) < (vn : Int) - 1 - i
    rotate_left
    · have r1 : ¬ (i : Int) < (vn : Int) - 1 - i := hlt
      have FIN : Hid (RowT m wr (.slice va vn vc) ts.reverse) := by
        have e : ys = ts.reverse := by
          apply List.ext_getElem?
          intro k
          by_cases hk : k < vn
          · rw [GY.out k hk, List.getElem?_reverse (by have := hnn.out; omega), hnn.out]
            split
            · rfl
            · rename_i hno
              rw [show vn - 1 - k = k by omega]
          · rw [List.getElem?_eq_none (by have := LY.out; omega), List.getElem?_eq_none (by rw [List.length_reverse]; have := hnn.out; omega)]
        rw [Hid, ← e]
        exact RY.out
      go_wp2
      go_end0
      exact ⟨⟨_, rfl⟩, FIN.out, BE.out⟩
    have r1 : (i : Int) < (vn : Int) - 1 - i := hlt
    obtain ⟨j, hj⟩ : ∃ j : Nat, j = vn - 1 - i := ⟨_, rfl⟩
    have hij : i < j ∧ j < vn := by omega
    have eji : (vn : Int) - 1 - i = (j : Int) := by omega
    rw [eji] at r1 ⊢
    obtain ⟨x, hx⟩ : ∃ x, ys[i]? = some x := ⟨_, List.getElem?_eq_getElem (by have := LY.out; omega)⟩
    obtain ⟨y, hy⟩ : ∃ y, ys[j]? = some y := ⟨_, List.getElem?_eq_getElem (by have := LY.out; omega)⟩
    obtain ⟨g, cap, cx, X, ev, hX, hXl, hrx, htx⟩ := RY.out.at hx
    obtain ⟨g2, cap2, cy, X2, ev2, -, -, hry, hty⟩ := RY.out.at hy
    obtain ⟨e1, -, rfl⟩ := Value.slice.inj ev
    subst e1
    obtain ⟨e2, -, -⟩ := Value.slice.inj ev2
    obtain rfl : g = g2 := by have := Option.some.inj e2; simpa using congrArg Addr.block this
    clear ev ev2 e2
    have OW := RY.out.own g rfl
    have X5 := Lib.hid htx.len
    have Y5 := Lib.hid hty.len
    have X1 := Lib.hid htx.one
    have Y1 := Lib.hid hty.one
    have HRX := Lib.hid hrx
    have HRY := Lib.hid hry
    have HTX := Lib.hid htx
    have HTY := Lib.hid hty
    have HX := Lib.hid hX
    have XL : Hid (vn * 5 ≤ X.length) := by have := LY.out; rw [Hid, ← this]; exact hXl
    have R2 := RowT.put RY.out LY.out (show i < vn by omega) HTY.out
    have TX2 : TmAt (List.range m ++ ownL (.slice (some ⟨g, 0, none⟩) vn vc)) (wr.setCells g (5 * i) cy) x cx := TmAt.step (Step.of_upd ((Upd.refl g wr).setCells cy (5 * i)) (List.mem_append_right _ (by simp [ownL, Value.ownBlock]))) _ _ HTX.out
    have R3 := Lib.hid (RowT.put R2 (by rw [List.length_set]; exact LY.out) hij.2 TX2)
    have hB2 := Blk.setCells cy hX (5 * i) (by have := XL.out; have := Y5.out; omega)
    have HB2 := Lib.hid hB2
    have L3 : Hid (((ys.set i y).set j x).length = vn) := by rw [Hid, List.length_set, List.length_set]; exact LY.out
    have G3 : Hid (∀ k, k < vn → ((ys.set i y).set j x)[k]? = if k < i + 1 ∨ vn ≤ k + (i + 1) then ts[vn - 1 - k]? else ts[k]?) := fun k hk => by
      have hli := LY.out
      have gi := GY.out i (by omega)
      have gj := GY.out j (by omega)
      rw [if_neg (by omega), hx] at gi
      rw [if_neg (by omega), hy] at gj
      by_cases hkj : k = j
      · subst hkj
        rw [List.getElem?_set_self (by rw [List.length_set]; omega), if_pos (by omega), gi, show vn - 1 - k = i by omega]
      · rw [List.getElem?_set_ne (Ne.symm hkj)]
        by_cases hki : k = i
        · subst hki
          rw [List.getElem?_set_self (by omega), if_pos (by omega), gj, hj]
        · rw [List.getElem?_set_ne (Ne.symm hki), GY.out k hk]
          by_cases hc : k < i ∨ vn ≤ k + i
          · rw [if_pos hc, if_pos (by omega)]
          · rw [if_neg hc, if_neg (by omega)]
    have B3 : Hid (Below m w ((wr.setCells g (5 * i) cy).setCells g (5 * j) cx)) := (((Upd.refl g wr).setCells cy (5 * i)).setCells cx (5 * j)).below BE.out OW.1 (by have := BE.out.size; omega)
    have IS : Hid (g < wr.heap.size) := OW.2
    have PB : Hid (j = vn - 1 - i) := hj
    clear R2 TX2 hB2 htx hty hrx hry hX hXl hx hy RY GY LY BE OW eji hlt hj
    go_upto_region 3 with (fail)
    refine region_begin (opsOf Try.f41 3) (fun _ => True) (by kernel_rfl) (by kernel_rfl) 16 (by kernel_rfl) ?_
    intro Q' hQN hN
    have HRXd : Hid (wr.drew.rangeAt g (5 * i) cx) := HRX.out
    have HRYd : Hid (wr.drew.rangeAt g (5 * j) cy) := HRY.out
    have HXd : Hid (Blk wr.drew g 25 X) := HX.out
    refine reg_now 0 (.slice (some ⟨g, 0, none⟩) vn vc) (some 14) hQN trivial (by kernel_rfl) (by kernel_rfl) (fun w => by kernel_rfl) ?_
    refine reg_now 1 (.int .i64 (i : Int)) (some 15) hQN trivial (by kernel_rfl) (by kernel_rfl) (fun w => by kernel_rfl) ?_
    refine reg_now 2 (.slice (some ⟨g, 0, none⟩) vn vc) (some 16) hQN trivial (by kernel_rfl) (by kernel_rfl) (fun w => by kernel_rfl) ?_
    refine reg_now 3 (.int .i64 (j : Int)) (some 17) hQN trivial (by kernel_rfl) (by kernel_rfl) (fun w => by kernel_rfl) ?_
    refine reg_now 4 (.slice (some ⟨g, 0, none⟩) vn vc) (some 18) hQN trivial (by kernel_rfl) (by kernel_rfl) (fun w => by kernel_rfl) ?_
    refine reg_now 5 (.int .i64 (j : Int)) (some 19) hQN trivial (by kernel_rfl) (by kernel_rfl) (fun w => by kernel_rfl) ?_
    refine reg_now 8 (.slice (some ⟨g, 0, none⟩) vn vc) (some 22) hQN trivial (by kernel_rfl) (by kernel_rfl) (fun w => by kernel_rfl) ?_
    refine reg_now 9 (.int .i64 (i : Int)) (some 23) hQN trivial (by kernel_rfl) (by kernel_rfl) (fun w => by kernel_rfl) ?_
    refine reg_now 6 (.pointer (some ⟨g, 0 + 5 * j, none⟩)) (some 20) hQN trivial (by kernel_rfl) (by kernel_rfl) (fun w' => exec_indexAt 23 (.tmp 18) (.tmp 19) (by kernel_rfl) _ _ _ (by kernel_rfl) (by kernel_rfl) (run_at_tm g 0 vn vc j (by omega) w')) ?_
    refine reg_now 10 (.pointer (some ⟨g, 0 + 5 * i, none⟩)) (some 24) hQN trivial (by kernel_rfl) (by kernel_rfl) (fun w' => exec_indexAt 23 (.tmp 22) (.tmp 23) (by kernel_rfl) _ _ _ (by kernel_rfl) (by kernel_rfl) (run_at_tm g 0 vn vc i (by omega) w')) ?_
    have e0i : 0 + 5 * i = 5 * i := Nat.zero_add _
    have e0j : 0 + 5 * j = 5 * j := Nat.zero_add _
    rw [e0i, e0j]
    refine reg_swap 7 11 (.agg cy.toArray) (.agg cx.toArray) (some 21) (some 25) trivial trivial (by kernel_rfl) (by decide) (by kernel_rfl) (by kernel_rfl) (exec_load_mid 25 (.tmp 20) (by kernel_rfl) g (5 * j) (by kernel_rfl) cy _ HRYd.out Try.underlying25 rfl (t5Size Y5.out)) (exec_load_mid 25 (.tmp 24) (by kernel_rfl) g (5 * i) (by kernel_rfl) cx _ HRXd.out Try.underlying25 rfl (t5Size X5.out)) (exec_load_mid 25 (.tmp 24) (by kernel_rfl) g (5 * i) (by kernel_rfl) cx _ HRXd.out Try.underlying25 rfl (t5Size X5.out)) (exec_load_mid 25 (.tmp 20) (by kernel_rfl) g (5 * j) (by kernel_rfl) cy _ HRYd.out Try.underlying25 rfl (t5Size Y5.out)) (fun d hd => by cases hd; decide) ?_
    refine reg_now 12 (.pointer (some ⟨g, 0 + 5 * i, none⟩)) (some 26) hQN trivial (by kernel_rfl) (by kernel_rfl) (fun w' => exec_indexAt 23 (.tmp 14) (.tmp 15) (by kernel_rfl) _ _ _ (by kernel_rfl) (by kernel_rfl) (run_at_tm g 0 vn vc i (by omega) w')) ?_
    rw [e0i]
    refine reg_store 13 (wr.drew.setCells g (5 * i) cy) (by kernel_rfl) (by kernel_rfl) (exec_store_mid 25 (.tmp 26) (.tmp 21) (by kernel_rfl) g (5 * i) cy (by kernel_rfl) (by kernel_rfl) (HXd.out.there _ _ (by have := XL.out; have := Y5.out; omega)) (t5Size Y5.out) (by simpa using Y1.out)) trivial ?_
    refine reg_now 14 (.pointer (some ⟨g, 0 + 5 * j, none⟩)) (some 27) hQN trivial (by kernel_rfl) (by kernel_rfl) (fun w' => exec_indexAt 23 (.tmp 16) (.tmp 17) (by kernel_rfl) _ _ _ (by kernel_rfl) (by kernel_rfl) (run_at_tm g 0 vn vc j (by omega) w')) ?_
    rw [e0j]
    refine reg_store 15 ((wr.drew.setCells g (5 * i) cy).setCells g (5 * j) cx) (by kernel_rfl) (by kernel_rfl) (exec_store_mid 25 (.tmp 27) (.tmp 25) (by kernel_rfl) g (5 * j) cx (by kernel_rfl) (by kernel_rfl) ((Blk.setCells cy HXd.out (5 * i) (by have := XL.out; have := Y5.out; omega)).there _ _ (by rw [splice_length (by have := XL.out; have := Y5.out; omega)]; have := XL.out; have := X5.out; omega)) (t5Size X5.out) (by simpa using X1.out)) trivial ?_
    have DR : (wr.drew.setCells g (5 * i) cy).setCells g (5 * j) cx = ((wr.setCells g (5 * i) cy).setCells g (5 * j) cx).drew := by rw [drew_cells, drew_cells]
    rw [DR]
    have R4 : Hid (RowT m ((wr.setCells g (5 * i) cy).setCells g (5 * j) cx).drew (.slice (some ⟨g, 0, none⟩) vn vc) ((ys.set i y).set j x)) := R3.out.below (Below.refl _ _).drew
    have B4 : Hid (Below m w ((wr.setCells g (5 * i) cy).setCells g (5 * j) cx).drew) := B3.out.drew
    generalize ((wr.setCells g (5 * i) cy).setCells g (5 * j) cx).drew = wn at R4 B4 ⊢
    clear R3 B3 HB2 HX HXd HRX HRY HRXd HRYd HTX HTY DR e0i e0j
    refine reg_done (by kernel_rfl) (hN _ _ ?_)
    generalize hact : Act.put _ none _ = act
    simp only [Act.put, List.setIfInBounds_toArray, List.set_cons_succ, List.set_cons_zero] at hact
    subst hact
    have hjv := PB.out
    have hbn := hn
    go_wp2
    go_roundw
    case rel => exact ⟨i + 1, (ys.set i y).set j x, by omega, by go_num, by go_num, R4, L3, G3, B4⟩
    case measure => simp [intOf]; omega

set_option maxHeartbeats 8000000 in
theorem spine_walk {F : List Nat} (t : Tm) (cs : List Value) (w : World) (ht : TmAt F w t cs) (hs : SmT t) (hn : nodesT t ≤ 1000000000000) : Calls Try.prog 11 #[.agg cs.toArray] w fun e w' => ∃ cr v, e = .returned (.tuple #[.agg cr.toArray, v]) ∧ TmAt (List.range w.heap.size) w' (spineT t).1 cr ∧ TmsAt (List.range w.heap.size) w' (spineT t).2 v ∧ Below w.heap.size w w' := by
  have C5 := Lib.hid ht.len
  have C1 := Lib.hid ht.one
  have HT := Lib.hid ht
  have HS := Lib.hid hs
  have HN := Lib.hid hn
  obtain ⟨q, hq⟩ : ∃ q, Hid (w.heap.size = q) := ⟨_, rfl⟩
  rw [hq.out]
  clear ht hs hn
  go_enter Try.func11, Try.ntmps11
  go_upto_region 0 with (fail)
  refine lin_begin (opsOf Try.f11 0) (by kernel_rfl) ?_
  refine lin_box 0 25 (.tmp 0) (cs) (q) (some 1) (by kernel_rfl) (by kernel_rfl) (by kernel_rfl) (by kernel_rfl) hq ?_
  intro w1 bw1 bew1 hsw1
  refine lin_alloc 1 25 z5T (q + 1) (some 2) (by kernel_rfl) (by kernel_rfl) (by kernel_rfl) (by kernel_rfl) hsw1 ?_
  intro w2 bw2 bew2 hsw2
  refine lin_now 2 (.slice none 0 0) (some 3) (by kernel_rfl) (by kernel_rfl) (by kernel_rfl) ?_
  refine lin_done 3 (by kernel_rfl) ?_
  generalize hact : Act.put _ (some 3) _ = act
  simp only [Act.put, List.setIfInBounds_toArray, List.set_cons_succ, List.set_cons_zero] at hact
  subst hact
  have B1 : Hid (Blk w2 q 25 cs) := bw1.below bew2 (by omega)
  have B2 : Hid (Blk w2 (q + 1) 25 z5T) := bw2
  have BE : Hid (Below q w w2) := bew1.trans (bew2.mono (by omega))
  have S2 : Hid (q + 2 ≤ w2.heap.size) := by have := hsw2.out; rw [Hid]; omega
  clear bw1 bew1 hsw1 bw2 bew2 hsw2
  go_upto_region 1 with (fail)
  refine lin_begin (opsOf Try.f11 1) (by kernel_rfl) ?_
  refine lin_now 0 (.slice none 0 0) (some 4) (by kernel_rfl) (by kernel_rfl) (by kernel_rfl) ?_
  refine lin_done 1 (by kernel_rfl) ?_
  generalize hact : Act.put _ (some 4) _ = act
  simp only [Act.put, List.setIfInBounds_toArray, List.set_cons_succ, List.set_cons_zero] at hact
  subst hact
  go_wp2
  go_loopg [4] (nodesT t + 1) (fun gn tv wr => ∃ (tz : Value) (c : Tm) (cc : List Value) (ts : List Tm), tz = tv ∧ Hid (nodesT c < gn) ∧ Hid (TmAt F w c cc) ∧ Hid (SmT c) ∧ Hid (RowT (q + 2) wr tz ts) ∧ Hid (spineT t = ((spineT c).1, (spineT c).2 ++ ts.reverse)) ∧ Hid (Blk wr q 25 cc) ∧ Hid (Blk wr (q + 1) 25 z5T) ∧ Hid (Below q w wr) ∧ Hid (q + 2 ≤ wr.heap.size) ∧ Hid (ts.length + nodesT c ≤ nodesT t))
  case atStart => exact ⟨.slice none 0 0, t, cs, [], rfl, Nat.lt_succ_self _, HT, HS, RowT.nil _ _, by rw [Hid]; simp, B1, B2, BE, S2, by rw [Hid]; simp⟩
  case round =>
    obtain ⟨tz, c, cc, ts, rfl, HGN, CT, CSM, RT, EQ, D1, D2, DE, DS, TL⟩ := hrel
    have CC5 := Lib.hid CT.out.len
    have CC1 := Lib.hid CT.out.one
    have CTr : Hid (TmAt F wr c cc) := TmAt.step (Step.of_below DE.out (by have := hq.out; omega)) _ _ CT.out
    have HH := hastwo_walk c cc 5 wr CTr.out
    by_cases hy : c.kind = 5 ∧ c.args.length = 2
    rotate_left
    · have rb : decide (c.kind = 5 ∧ c.args.length = 2) = false := decide_eq_false hy
      have FEQ : Hid (spineT t = (c, ts.reverse)) := by rw [Hid, EQ.out, spine_no hy]; simp
      clear EQ
      go_upto_region 2 with (fail)
      refine lin_begin (opsOf Try.f11 2) (by kernel_rfl) ?_
      refine lin_now 0 (.agg (cc).toArray) (some 5) (by kernel_rfl) (by kernel_rfl) (exec_load_mid 25 (.tmp 1) (by kernel_rfl) (q) 0 (by kernel_rfl) (cc) _ (D1.out).whole Try.underlying25 rfl (t5Size CC5.out)) ?_
      refine lin_call 1 40 #[.agg cc.toArray, .int .i64 5] (some 6) _ (by kernel_rfl) (by kernel_rfl) (by kernel_rfl) (HH) ?_
      rintro e w3 ⟨rfl, hb3⟩
      rw [rb]
      refine ⟨_, rfl, ?_⟩
      refine lin_done 2 (by kernel_rfl) ?_
      generalize hact : Act.put _ (some 6) _ = act
      simp only [Act.put, List.setIfInBounds_toArray, List.set_cons_succ, List.set_cons_zero] at hact
      subst hact
      have E1 := Lib.hid (D1.out.below hb3 D1.out.lt)
      have E2 := Lib.hid (D2.out.below hb3 D2.out.lt)
      have EE : Hid (Below q w w3) := DE.out.trans (hb3.mono (by have := DS.out; omega))
      have ES : Hid (q + 2 ≤ w3.heap.size) := by have := DS.out; have := hb3.size; rw [Hid]; omega
      have ER := Lib.hid (RT.out.below hb3)
      have EC := Lib.hid (CTr.out.below hb3)
      clear hb3 D1 D2 DE DS RT CTr HH
      have RV := reverse_walk (q + 2) _ ts w3 ER.out (by have := TL.out; have := HN.out; omega) ES.out
      go_upto_region 5 with (fail)
      refine lin_begin (opsOf Try.f11 5) (by kernel_rfl) ?_
      refine lin_now 0 tz (some 19) (by kernel_rfl) (by kernel_rfl) (by kernel_rfl) ?_
      refine lin_call 1 41 #[_] (some 20) _ (by kernel_rfl) (by kernel_rfl) (by kernel_rfl) (RV) ?_
      rintro e w4 ⟨⟨rv, rfl⟩, RR, RB⟩
      refine ⟨_, rfl, ?_⟩
      refine lin_done 2 (by kernel_rfl) ?_
      generalize hact : Act.put _ (some 20) _ = act
      simp only [Act.put, List.setIfInBounds_toArray, List.set_cons_succ, List.set_cons_zero] at hact
      subst hact
      have G1 : Hid (Blk w4 q 25 cc) := E1.out.below RB (by omega)
      have G2 : Hid (Blk w4 (q + 1) 25 z5T) := E2.out.below RB (by omega)
      have GE : Hid (Below q w w4) := EE.out.trans (RB.mono (by omega))
      have GS : Hid (q + 2 ≤ w4.heap.size) := by have := ES.out; have := RB.size; rw [Hid]; omega
      have GC : Hid (TmAt F w4 c cc) := TmAt.step (Step.of_below GE.out (by have := hq.out; omega)) _ _ CT.out
      have GR := Lib.hid RR
      clear RR RB E1 E2 EE ES ER EC
      go_upto_region 6 with (fail)
      refine lin_begin (opsOf Try.f11 6) (by kernel_rfl) ?_
      refine lin_now 0 (.agg (cc).toArray) (some 21) (by kernel_rfl) (by kernel_rfl) (exec_load_mid 25 (.tmp 1) (by kernel_rfl) (q) 0 (by kernel_rfl) (cc) _ (G1.out).whole Try.underlying25 rfl (t5Size CC5.out)) ?_
      refine lin_call 1 35 #[.agg cc.toArray] (some 22) _ (by kernel_rfl) (by kernel_rfl) (by kernel_rfl) (clone_walk c cc w4 F GC.out CSM.out) ?_
      rintro e w5 ⟨cr, rfl, hcr, hb5⟩
      refine ⟨_, rfl, ?_⟩
      have K5 := Lib.hid hcr.len
      refine lin_now 2 tz (some 23) (by kernel_rfl) (by kernel_rfl) (by kernel_rfl) ?_
      refine lin_put 3 25 (.tmp 2) (.tmp 22) (q + 1) _ (z5T) (cr) (by kernel_rfl) (by kernel_rfl) (by kernel_rfl) (by kernel_rfl) (by kernel_rfl) (G2.out.below hb5 G2.out.lt) (K5.out.trans (rfl : z5T.length = 5).symm) (t5Size K5.out) (by simpa using hcr.one) ?_
      intro w6 bw6 uw6
      refine lin_now 4 tz (some 3) (by kernel_rfl) (by kernel_rfl) (by kernel_rfl) ?_
      refine lin_done 5 (by kernel_rfl) ?_
      generalize hact : Act.put _ (some 3) _ = act
      simp only [Act.put, List.setIfInBounds_toArray, List.set_cons_succ, List.set_cons_zero] at hact
      subst hact
      have st6 : Step (List.range (q + 2)) w5 (List.range (q + 2)) w6 := Step.of_upd uw6 (List.mem_range.2 (by omega))
      have F1 : TmAt (List.range q) w6 c cr := (TmAt.step st6 _ _ (hcr.range GS.out)).range (by omega)
      have F2 : TmsAt (List.range q) w6 ts.reverse _ := TmsAt.sub (fun k hk => .inl (List.mem_range.2 (by have := List.mem_range.1 hk; omega))) _ _ (TmsAt.step st6 _ _ (RowT.in (GR.out.below hb5)))
      have F3 : Below q w w6 := uw6.below (GE.out.trans (hb5.mono (by have := GS.out; omega))) (by omega) (by have := GE.out.size; have := hb5.size; have := hq.out; omega)
      clear hcr hb5 uw6 st6 G1 G2 GE GS GC GR
      go_wp2
      refine bodyPost_ret (v := .tuple #[.agg cr.toArray, _]) (results_cell_tmp Try.results11 _ _ (q + 1) 25 cr.toArray (0, 0) _ _ rfl rfl bw6 Try.underlying25 rfl (t5Size K5.out)) rfl ⟨cr, _, rfl, by rw [FEQ.out]; exact F1, by rw [FEQ.out]; exact F2, F3⟩
    have rb : decide (c.kind = 5 ∧ c.args.length = 2) = true := decide_eq_true hy
    obtain ⟨x, y, hxy⟩ := two_args hy.2
    have NEQ : Hid (spineT t = ((spineT x).1, (spineT x).2 ++ (ts ++ [y]).reverse)) := by rw [Hid, EQ.out, spine_yes hy.1 hxy]; simp
    have NL := Lib.hid (nodes_two hxy)
    have SX : Hid (SmT x) := SmT.args CSM.out (by rw [hxy]; simp)
    have SY : Hid (SmT y) := SmT.args CSM.out (by rw [hxy]; simp)
    obtain ⟨lv, av, hcc, -, ha⟩ := CT.out.open
    rw [hxy] at ha
    obtain ⟨aa, ac, rfl⟩ := ha.slice
    obtain ⟨x', pb, po, cx, hx1, -, rfl, -, hpb, -, hrx, htx⟩ := ha.get rfl (show 0 < 2 by decide)
    obtain ⟨y', pb2, po2, cy, hy1, -, e2, -, -, -, hry, hty⟩ := ha.get rfl (show 1 < 2 by decide)
    obtain ⟨rfl, rfl⟩ : pb = pb2 ∧ po = po2 := by cases e2; exact ⟨rfl, rfl⟩
    obtain rfl : x = x' := by simpa using hx1
    obtain rfl : y = y' := by simpa using hy1
    have NX := Lib.hid (nodesT_pos x)
    have NY := Lib.hid (nodesT_pos y)
    have HRX := Lib.hid hrx
    have HTX := Lib.hid htx
    have HRY := Lib.hid hry
    have HTY := Lib.hid hty
    have X5 := Lib.hid htx.len
    have Y5 := Lib.hid hty.len
    have X1 := Lib.hid htx.one
    have Y1 := Lib.hid hty.one
    have PBQ : Hid (pb < q) := by have := hq.out; rw [Hid]; omega
    have HCC := Lib.hid hcc
    clear EQ ha hx1 hy1 e2 hpb hrx htx hry hty hcc hxy hy CT
    go_upto_region 2 with (fail)
    refine lin_begin (opsOf Try.f11 2) (by kernel_rfl) ?_
    refine lin_now 0 (.agg (cc).toArray) (some 5) (by kernel_rfl) (by kernel_rfl) (exec_load_mid 25 (.tmp 1) (by kernel_rfl) (q) 0 (by kernel_rfl) (cc) _ (D1.out).whole Try.underlying25 rfl (t5Size CC5.out)) ?_
    refine lin_call 1 40 #[.agg cc.toArray, .int .i64 5] (some 6) _ (by kernel_rfl) (by kernel_rfl) (by kernel_rfl) (HH) ?_
    rintro e w3 ⟨rfl, hb3⟩
    rw [rb]
    refine ⟨_, rfl, ?_⟩
    refine lin_done 2 (by kernel_rfl) ?_
    generalize hact : Act.put _ (some 6) _ = act
    simp only [Act.put, List.setIfInBounds_toArray, List.set_cons_succ, List.set_cons_zero] at hact
    subst hact
    have E1 := Lib.hid (D1.out.below hb3 D1.out.lt)
    have E2 := Lib.hid (D2.out.below hb3 D2.out.lt)
    have EE : Hid (Below q w w3) := DE.out.trans (hb3.mono (by have := DS.out; omega))
    have ES : Hid (q + 2 ≤ w3.heap.size) := by have := DS.out; have := hb3.size; rw [Hid]; omega
    have ER := Lib.hid (RT.out.below hb3)
    have EC := Lib.hid (CTr.out.below hb3)
    clear hb3 D1 D2 DE DS RT CTr HH
    have k4 : w3.cell? ⟨q, 4, none⟩ = some (.slice (some ⟨pb, po, none⟩) 2 ac) := E1.out.cell (by rw [HCC.out]; rfl)
    have EA : Hid (TmAt F w3 y cy) := TmAt.step (Step.of_below EE.out (by have := hq.out; omega)) _ _ HTY.out
    go_upto_region 3 with (fail)
    refine lin_begin (opsOf Try.f11 3) (by kernel_rfl) ?_
    refine lin_now 0 tz (some 7) (by kernel_rfl) (by kernel_rfl) (by kernel_rfl) ?_
    refine lin_now 1 (.pointer (some ⟨q, 4, none⟩)) (some 8) (by kernel_rfl) (by kernel_rfl) (by kernel_rfl) ?_
    refine lin_now 2 (.slice (some ⟨pb, po, none⟩) 2 ac) (some 9) (by kernel_rfl) (by kernel_rfl) (exec_load_cell 23 (.tmp 8) (by kernel_rfl) (q) 4 (by kernel_rfl) _ (k4) _ Try.underlying23 rfl) ?_
    refine lin_now 3 (.pointer (some ⟨pb, po + 5 * 1, none⟩)) (some 10) (by kernel_rfl) (by kernel_rfl) (exec_indexAt 23 (.tmp 9) (.const (.int .i64 1)) (by kernel_rfl) _ _ _ (by kernel_rfl) (by kernel_rfl) (run_at_tm pb po 2 ac 1 (by decide) _)) ?_
    refine lin_now 4 (.agg cy.toArray) (some 11) (by kernel_rfl) (by kernel_rfl) (exec_load_mid 25 (.tmp 10) (by kernel_rfl) pb (po + 5 * 1) (by kernel_rfl) cy _ (rng_low HRY.out EE.out PBQ.out) Try.underlying25 rfl (t5Size Y5.out)) ?_
    refine lin_call 5 35 #[.agg cy.toArray] (some 12) _ (by kernel_rfl) (by kernel_rfl) (by kernel_rfl) (clone_walk y cy w3 F EA.out SY.out) ?_
    rintro e w4 ⟨c', rfl, hct, hb4⟩
    refine ⟨_, rfl, ?_⟩
    have GC : Hid (TmAt (List.range (q + 2) ++ ownL tz) w4 y c') := TmAt.off hct (fun k hk => by
      rcases List.mem_append.1 hk with hk | hk
      · have := List.mem_range.1 hk; have := ES.out; exact .inl (by omega)
      · exact .inl (ER.out.own k (ownL_mem.1 hk)).2)
    have G1 := Lib.hid (E1.out.below hb4 E1.out.lt)
    have G2 := Lib.hid (E2.out.below hb4 E2.out.lt)
    have GE : Hid (Below q w w4) := EE.out.trans (hb4.mono (by have := ES.out; omega))
    have GS : Hid (q + 2 ≤ w4.heap.size) := by have := ES.out; have := hb4.size; rw [Hid]; omega
    have GR := Lib.hid (ER.out.below hb4)
    have RB := run_build_tm1 hct w4
    obtain ⟨qr, hqr⟩ : ∃ y, Hid (w4.heap.size = y) := ⟨_, rfl⟩
    clear hct hb4 E1 E2 EE ES ER EC EA k4
    refine lin_row 6 25 c' qr 1 (some 13) (by kernel_rfl) (by kernel_rfl) hqr (exec_of _ _ (by kernel_rfl) RB) ?_
    intro w5 bw5 bew5 hsw5
    have bew5' : Below w4.heap.size w4 w5 := by rw [hqr.out]; exact bew5
    have IR := Lib.hid (GR.out.below bew5')
    have I1 := Lib.hid (G1.out.below bew5' G1.out.lt)
    have I2 := Lib.hid (G2.out.below bew5' G2.out.lt)
    have IE : Hid (Below q w w5) := GE.out.trans (bew5'.mono (by have := GS.out; omega))
    have IS : Hid (q + 2 ≤ w5.heap.size) := by have := GS.out; have := bew5'.size; rw [Hid]; omega
    obtain ⟨tv', w6, hrun, RT6, hg6, hat6⟩ := IR.out.append bw5 (GC.out.below bew5') (by have := TL.out; have := HN.out; have := NX.out; omega) IS.out
    refine lin_value 7 tv' (some 14) w6 (by kernel_rfl) (by kernel_rfl) (exec_of _ _ (by kernel_rfl) hrun) ?_
    have gb : Below (q + 2) w5 w6 := grown_below hg6 IS.out (fun g hg => (IR.out.own g hg).1)
    have J1 : Hid (Blk w6 q 25 cc) := I1.out.below gb (by omega)
    have J2 : Hid (Blk w6 (q + 1) 25 z5T) := I2.out.below gb (by omega)
    have JE : Hid (Below q w w6) := IE.out.trans (gb.mono (by omega))
    have JS : Hid (q + 2 ≤ w6.heap.size) := by have := IS.out; have := gb.size; rw [Hid]; omega
    clear hrun hg6 hat6 gb bw5 bew5 bew5' hsw5 IR I1 I2 IE IS G1 G2 GE GS GR GC RB
    refine lin_now 8 (tv') (some 4) (by kernel_rfl) (by kernel_rfl) (by kernel_rfl) ?_
    refine lin_done 9 (by kernel_rfl) ?_
    generalize hact : Act.put _ (some 4) _ = act
    simp only [Act.put, List.setIfInBounds_toArray, List.set_cons_succ, List.set_cons_zero] at hact
    subst hact
    have k4 : w6.cell? ⟨q, 4, none⟩ = some (.slice (some ⟨pb, po, none⟩) 2 ac) := J1.out.cell (by rw [HCC.out]; rfl)
    go_upto_region 4 with (fail)
    refine lin_begin (opsOf Try.f11 4) (by kernel_rfl) ?_
    refine lin_now 0 (.pointer (some ⟨q, 4, none⟩)) (some 15) (by kernel_rfl) (by kernel_rfl) (by kernel_rfl) ?_
    refine lin_now 1 (.slice (some ⟨pb, po, none⟩) 2 ac) (some 16) (by kernel_rfl) (by kernel_rfl) (exec_load_cell 23 (.tmp 15) (by kernel_rfl) (q) 4 (by kernel_rfl) _ (k4) _ Try.underlying23 rfl) ?_
    refine lin_now 2 (.pointer (some ⟨pb, po + 5 * 0, none⟩)) (some 17) (by kernel_rfl) (by kernel_rfl) (exec_indexAt 23 (.tmp 16) (.const (.int .i64 0)) (by kernel_rfl) _ _ _ (by kernel_rfl) (by kernel_rfl) (run_at_tm pb po 2 ac 0 (by decide) _)) ?_
    refine lin_now 3 (.agg cx.toArray) (some 18) (by kernel_rfl) (by kernel_rfl) (exec_load_mid 25 (.tmp 17) (by kernel_rfl) pb (po + 5 * 0) (by kernel_rfl) cx _ (rng_low HRX.out JE.out PBQ.out) Try.underlying25 rfl (t5Size X5.out)) ?_
    refine lin_put 4 25 (.tmp 1) (.tmp 18) (q) _ (cc) (cx) (by kernel_rfl) (by kernel_rfl) (by kernel_rfl) (by kernel_rfl) (by kernel_rfl) J1.out (X5.out.trans CC5.out.symm) (t5Size X5.out) (by simpa using X1.out) ?_
    intro w7 bw7 uw7
    refine lin_done 5 (by kernel_rfl) ?_
    generalize hact : Act.put _ none _ = act
    simp only [Act.put, List.setIfInBounds_toArray, List.set_cons_succ, List.set_cons_zero] at hact
    subst hact
    have N1 : Hid (Blk w7 q 25 cx) := bw7
    have N2 : Hid (Blk w7 (q + 1) 25 z5T) := uw7.blk J2.out (by omega)
    have NE : Hid (Below q w w7) := uw7.below JE.out (Nat.le_refl _) (by have := JE.out.size; have := hq.out; omega)
    have NS : Hid (q + 2 ≤ w7.heap.size) := by have := JS.out; have := uw7.size; rw [Hid]; omega
    have NR : Hid (RowT (q + 2) w7 tv' (ts ++ [y])) := RowT.upd RT6 uw7 (by omega)
    clear bw7 uw7 J1 J2 JE JS RT6 k4
    go_wp2
    go_roundg (nodesT x + 1)
    case measure => have h1 := HGN.out; have h2 := NL.out; have h3 := NX.out; have h4 := NY.out; omega
    case rel => exact ⟨tv', x, cx, ts ++ [y], rfl, Nat.lt_succ_self _, HTX, SX, NR, NEQ, N1, N2, NE, NS, by have h1 := TL.out; have h2 := NL.out; have h3 := NX.out; have h4 := NY.out; rw [Hid, List.length_append]; simp; omega⟩
end Go.Proofs.Ytndbpmkglddjjaa
