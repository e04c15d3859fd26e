/- The names in a term: package term's Consts. -/
import Derived.Test.YtmceocgddaaohaaGreatDoorQGenT
import Derived.Test.YtmceocgddaaohaaGreatDoorQTrmV
namespace Go.Proofs.YtmceocgddaaohaaGreatDoor
open Go Go.RowKit
set_option maxRecDepth 100000
theorem RowS.slice {m : Nat} {w : World} {v : Value} {l : List (List UInt8)} (h : RowS m w v l) : ∃ a n c, v = .slice a n c := by
 rcases h with ⟨rfl, -⟩ | ⟨g, cap, cur, rfl, -⟩
 ·exact ⟨_, _, _, rfl⟩
 ·exact ⟨_, _, _, rfl⟩
theorem run_build_str1 (s : List UInt8) (w : World) : (Instr.buildSlice 62 1 #[(0, strT s)]).run Tryz.prog w = .ok (.slice (some ⟨w.heap.size, 0, none⟩) 1 1) (w.alloc (.cells [strT s].toArray 9)) := by kernel_rfl
/-- The name of a node that bears one. -/
def nmX (x : Tm × Int) : List (List UInt8) := if x.1.kind = 4 ∨ x.1.kind = 9 then [x.1.name] else []
def nmL (l : List (Tm × Int)) : List (List UInt8) := (l.map nmX).flatten
def nmN {G : List Nat} {w : World} (l : List (Nd G w)) : List (List UInt8) := nmL (l.map Nd.pr)
theorem nmN_snoc {G : List Nat} {w : World} (l : List (Nd G w)) (x : Nd G w) : nmN (l ++ [x]) = nmN l ++ nmX x.pr := by simp [nmN, nmL]
theorem nmN_le {G : List Nat} {w : World} (l : List (Nd G w)) : (nmN l).length ≤ wN l := by
 unfold nmN wN
 generalize l.map Nd.pr = r
 induction r with
 | nil => simp [nmL]
 | cons x r ih =>
  have : (nmX x).length ≤ 1 := by unfold nmX; split <;> simp
  simp [nmL, wsum] at ih ⊢
  omega
theorem compact_le (l : List (List UInt8)) : (Lib.compact l).length ≤ l.length := by
 unfold Lib.compact Lib.compactUpTo
 rw [List.length_map]
 exact Nat.le_trans (List.length_filter_le _ _) (by simp)
theorem StrsAt.of_blocks {w w' : World} {v : Value} {l : List (List UInt8)} (h : StrsAt w v l) (hk : ∀ k : Nat, v.ownBlock = some k → w'.heap[k]? = w.heap[k]?) : StrsAt w' v l := by
 obtain ⟨b, o, c, rfl, h1⟩ := h
 exact ⟨b, o, c, rfl, fun j u hu => by rw [World.cell?_of_block (w := w) (a := ⟨b, o + j, none⟩) (hk b rfl)]; exact h1 j u hu⟩
set_option maxHeartbeats 8000000 in
theorem consts_all {F : List Nat} (t : Tm) (cs : List Value) (w : World) (ht : TmAt F w t cs) (hs : SmT t) (hn : nodesT t ≤ 3000) : Calls Tryz.prog 47 #[.agg cs.toArray] w fun e w' => ∃ v, e = .returned v ∧ ((nmL (walkT t 0) = [] ∧ ∃ a c, v = .slice a 0 c) ∨ StrsAt w' v (Lib.compact (sortedS (nmL (walkT t 0))))) ∧ Below w.heap.size w w' := by
 obtain ⟨xs, hxs, hstops⟩ := nodes_stops [w.heap.size + 1, w.heap.size + 2] w t cs (TmAt.sub (fun k hk => Or.inr (by simp at hk; omega)) t cs ht) hs (by omega)
 have hsum : wN xs = nodesT t := by rw [wN, hxs, wsum_walk]
 have hnm : nmN xs = nmL (walkT t 0) := by rw [nmN, hxs]
 have C5 := Lib.hid ht.len
 have C1 := Lib.hid ht.one
 clear ht
 obtain ⟨q, hq⟩ : ∃ q, w.heap.size = q := ⟨_, rfl⟩
 have HQ : Hid (w.heap.size = q) := hq
 revert hnm hsum hstops hxs xs
 rw [hq]
 intro xs hxs hstops hsum hnm
 have SUM := Lib.hid hsum
 have NM := Lib.hid hnm
 have STOPS := Lib.hid hstops
 clear hsum hnm hstops hxs hq
 obtain ⟨G, hGd⟩ : ∃ G, Hid (([q + 1, q + 2] : List Nat) = G) := ⟨_, rfl⟩
 revert STOPS NM SUM xs
 rw [hGd.out]
 intro xs SUM NM STOPS
 have M1 : Hid (q + 1 ∈ G) := by rw [Hid, ← hGd.out]; simp
 have M2 : Hid (q + 2 ∈ G) := by rw [Hid, ← hGd.out]; simp
 have GB : Hid (∀ g ∈ G, q ≤ g ∧ g < q + 3) := fun g hg => by rw [← hGd.out] at hg; simp at hg; omega
 clear hGd
 obtain ⟨L, hL⟩ : ∃ L, Hid (nmL (walkT t 0) = L) := ⟨_, rfl⟩
 rw [hL.out] at NM ⊢
 have LB : Hid (L.length ≤ 3000) := by have h2 := nmN_le xs; rw [NM.out, SUM.out] at h2; rw [Hid]; omega
 refine calls_of_marks Tryz.func47 rfl ?_
 simp only [Tryz.ntmps47, List.size_toArray, List.length_cons, List.length_nil, Nat.reduceAdd, Nat.reduceSub, Array.replicate_succ, Array.replicate_zero, List.push_toArray, List.append_toArray, List.nil_append, List.cons_append]
 go_upto_region 0 with (fail)
 refine lbeg (opsOf Tryz.f47 0) ?_
 refine lbox 0 25 (.tmp 0) (cs) (q) (some 1) HQ ?_
 intro w1 bw1 bew1 hsw1
 refine lnow 1 (.slice none 0 0) (some 2) ?_
 refine ldn 2 ?_
 generalize hact : Act.put _ (some 2) _ = act
 simp only [Act.put, sA, sC, sZ] at hact
 subst hact
 go_upto_region 1 with (fail)
 refine lbeg (opsOf Tryz.f47 1) ?_
 refine lin_alloc1 0 62 (.slice none 0 0) (q + 1) (some 3) (by kernel_rfl) (by kernel_rfl) (by kernel_rfl) (by kernel_rfl) (by rfl) hsw1 ?_
 intro w2 bw2 bew2 hsw2
 refine ldn 1 ?_
 generalize hact : Act.put _ (some 3) _ = act
 simp only [Act.put, sA, sC, sZ] at hact
 subst hact
 go_upto_region 2 with (fail)
 refine lbeg (opsOf Tryz.f47 2) ?_
 refine lin_alloc1 0 3 (.int .i64 0) (q + 1 + 1) (some 4) (by kernel_rfl) (by kernel_rfl) (by kernel_rfl) (by kernel_rfl) (by rfl) hsw2 ?_
 intro w3 bw3 bew3 hsw3
 refine lin_put1 1 3 (.tmp 4) (Operand.const (.int .i64 3000)) (q + 1 + 1) _ (.int .i64 0) (.int .i64 3000) (by kernel_rfl) (by kernel_rfl) (by kernel_rfl) (by kernel_rfl) (by kernel_rfl) bw3 (by kernel_rfl) (by rfl) (by rfl) ?_
 intro w4 bw4 uw4
 refine ldn 2 ?_
 generalize hact : Act.put _ none _ = act
 simp only [Act.put, sA, sC, sZ] at hact
 subst hact
 have BE4 : Below q w w4 := uw4.below ((bew1.trans (bew2.mono (by omega))).trans (bew3.mono (by omega))) (by omega) (by have h1 := bew1.size; have h2 := bew2.size; have h3 := bew3.size; have := HQ.out; omega)
 have S4 : Hid (q + 1 + 1 + 1 ≤ w4.heap.size) := by have := uw4.size; have := hsw3.out; rw [Hid]; omega
 have B1 : Hid (Blk w4 q 25 cs) := uw4.blk ((bw1.below bew2 (by omega)).below bew3 (by omega)) (by omega)
 have B2 : Hid (Blk w4 (q + 1) 62 [.slice none 0 0]) := uw4.blk (bw2.below bew3 (by omega)) (by omega)
 have B3 : Hid (IntAt w4 (q + 2) 3000) := bw4
 have BE := Lib.hid BE4
 clear bw1 bew1 hsw1 bw2 bew2 hsw2 bw3 bew3 hsw3 bw4 uw4 BE4
 go_upto_region 3 with (fail)
 refine lbeg (opsOf Tryz.f47 3) ?_
 refine lrl 0 (cs) (some 6) 25 1 (q) 0 (B1.out).whole Tryz.underlying25 (t5Size C5.out) ?_
 refine lcal 1 44 #[.agg cs.toArray] (some 7) _ (iter_walk cs w4) ?_
 rintro e w5 ⟨rfl, hb5, hbe5, hs5⟩
 refine ⟨_, rfl, ?_⟩
 refine ldn 2 ?_
 generalize hact : Act.put _ (some 7) _ = act
 simp only [Act.put, sA, sC, sZ] at hact
 subst hact
 obtain ⟨bt, hbt⟩ : ∃ bt, Hid (w4.heap.size = bt) := ⟨_, rfl⟩
 rw [hbt.out] at hb5 hbe5 hs5 S4 ⊢
 have L5 : Hid (q + 3 ≤ w5.heap.size) := by have := hs5.out; have := S4.out; rw [Hid]; omega
 have B51 : Hid (Blk w5 q 25 cs) := B1.out.below hbe5 (by have := S4.out; omega)
 have B52 : Hid (Blk w5 (q + 1) 62 [.slice none 0 0]) := B2.out.below hbe5 (by have := S4.out; omega)
 have B53 : Hid (IntAt w5 (q + 2) 3000) := B3.out.below hbe5 (by have := S4.out; omega)
 have BE5 : Hid (Below q w w5) := BE.out.trans (hbe5.mono (by have := S4.out; omega))
 have B54 := Lib.hid hb5
 clear hb5 hbe5 hs5 S4 B1 B2 B3 BE
 go_wp2
 refine range_nodesG G w w q bt xs (by kernel_rfl) (STOPS.out w5 bt B54.out (KeepC.of_below (by rw [HQ.out]; exact BE5.out)) (fun g hg => by have := GB.out g hg; have := L5.out; omega)) (KeepC.of_below (by rw [HQ.out]; exact BE5.out)) BE5.out (by have := L5.out; omega)
  (fun pre W => (∃ v, Blk W (q + 1) 62 [v] ∧ RowS (q + 3) W v (nmN pre)) ∧ IntAt W (q + 2) (3000 - ((wN pre : Nat) : Int)) ∧ Hid (wN pre ≤ 3000) ∧ Hid (q + 3 ≤ W.heap.size)) (fun c pre W => Hid (3001 ≤ wN pre))
  (fun s A B row h hg hr => by
   obtain ⟨⟨v, h1, h2⟩, h3, h4, h5⟩ := h
   exact ⟨⟨v, own_blk_any (β := Unit) _ _ _ _ () A B row h1 hg hr, RowS.own_from _ _ h2 hg hr⟩, own_blk_any (β := Unit) _ _ _ _ () A B row h3 hg hr, h4, Nat.le_trans h5 hg.size⟩) (fun c s A B row h hg hr => h)
  ⟨⟨_, B52.out, RowS.nil _ _⟩, by rw [show (3000 - ((wN ([] : List (Nd G w)) : Nat) : Int)) = 3000 by simp [wN, wsum]]; exact B53.out, show wN ([] : List (Nd G w)) ≤ 3000 by simp [wN, wsum], L5.out⟩ (fun x nb => { tmps := #[.agg cs.toArray, .pointer (some ⟨q, 0, none⟩), .slice none 0 0, .pointer (some ⟨q + 1, 0, none⟩), .pointer (some ⟨q + 1 + 1, 0, none⟩), .pointer (some ⟨nb, 0, none⟩), .agg cs.toArray, .func (.func 72) #[] #[.pointer (some ⟨bt, 0, none⟩)], .agg x.cs.toArray, .int .i64 x.d, undef, undef, undef, undef, undef, undef, undef, undef, undef, undef, undef, undef, undef, undef, undef, undef, undef, undef, undef, undef, undef, undef, undef], defers := [] }) ?_ ?_ ?_ ?_
 ·intro l x W K hK
  obtain ⟨q2, hq2⟩ : ∃ q2, Hid (W.heap.size = q2) := ⟨_, rfl⟩
  rw [hq2.out] at hK
  refine rin_lin (opsOf Tryz.f47 4) (by kernel_rfl) (by kernel_rfl) (fun ⟨_, _, h⟩ => h) ?_
  refine lall 0 25 z5T (q2) (some 5) hq2 ?_
  intro wa bwa bewa hswa
  refine lput 1 25 (.tmp 5) (.tmp 8) (q2) _ (z5T) (x.cs) bwa (x.at_.len.trans (rfl : z5T.length = 5).symm) (t5Size x.at_.len) (by simpa using x.at_.one) ?_
  intro wb bwb uwb
  refine ldn 2 ?_
  generalize hact : Act.put _ none _ = act
  simp only [Act.put, sA, sC, sZ] at hact
  subst hact
  exact hK wb bwb (uwb.below bewa (Nat.le_refl _) (by have := bewa.size; have := hq2.out; omega))
 ·rintro l pre x nb W ⟨⟨v, hv1, hv2⟩, hi2, hi3, hi4⟩ hnb hxb hxt hbl hnW hlen
  have sl := level_bound x.sm
  have X5 := Lib.hid x.at_.len
  have NB : Hid (nb ≠ q + 2 ∧ nb ≠ q + 1 ∧ q + 2 ≠ q + 1) := by have := L5.out; rw [Hid]; omega
  have WE := weight_walk x.t x.cs W.drew (hxt.below (Below.refl _ _).drew) x.sm
  have hnl := nmN_le pre
  have HNS := Lib.hid (nmN_snoc pre x)
  have D1 : Hid (Blk W.drew (q + 1) 62 [v]) := hv1
  have D4 : Hid (RowS (q + 3) W.drew v (nmN pre)) := hv2.below (Below.refl _ _).drew
  have DS : Hid (q + 3 ≤ W.drew.heap.size) := hi4
  have DB : Hid (Below q w W.drew) := hbl.drew
  have D2 : Hid (IntAt W.drew (q + 2) (3000 - ((wN pre : Nat) : Int))) := hi2
  have D3 : Blk W.drew nb 25 x.cs := hxb
  have KD := Lib.hid (Keeps.drew G W)
  have HV := wN_snoc pre x
  obtain ⟨lv, av, hcs, -, -⟩ := x.at_.open
  have XCS := Lib.hid hcs
  obtain ⟨M, hM⟩ : ∃ M, Hid (x.t.levels.length = M) := ⟨_, rfl⟩
  rw [hM.out] at WE HV sl
  obtain ⟨vv, hvv⟩ : ∃ vv, Hid (wN pre = vv) := ⟨_, rfl⟩
  have HI3 : Hid (vv ≤ 3000) := by rw [Hid, ← hvv.out]; exact hi3
  rw [hvv.out] at HV D2 hnl
  have HV2 := Lib.hid HV
  have HNL : Hid ((nmN pre).length ≤ 3000) := by have := HI3.out; rw [Hid]; omega
  obtain ⟨av0, an, ac, rfl⟩ := hv2.slice
  clear hv1 hv2 hi2 hi3 hi4 hxb hnb hxt hbl hnW hlen HV hcs hnl hvv
  refine wpIn_block ?_
  refine wpIn_seq ?_
  refine rin_draw (opsOf Tryz.f47 5) (fun W' => Blk W' nb 25 x.cs) (by kernel_rfl) (by kernel_rfl) (by kernel_rfl) 5 (by kernel_rfl) ?_
  intro Q' hQN hN
  generalize W.drew = wr at D1 D2 D3 D4 DS DB KD WE ⊢
  obtain ⟨v1, hv1⟩ : ∃ z : Int, Hid (3000 - (vv : Int) = z) := ⟨_, rfl⟩
  rw [hv1.out] at D2
  refine reg_nowIf 1 (.agg (x.cs).toArray) (some 11) hQN D3 (by kernel_rfl) (by kernel_rfl) (fun w' hw => exec_load_mid 25 (.tmp 5) (by kernel_rfl) (nb) 0 (by kernel_rfl) (x.cs) _ hw.whole Tryz.underlying25 rfl (t5Size X5.out)) ?_
  refine reg_lc 0 2 (.int .i64 v1) 10 12 45 #[.agg x.cs.toArray] _ D3 (fun w1 hb1 => D3.below hb1 D3.lt) (by kernel_rfl) (by kernel_rfl) (by kernel_rfl) (by decide) (by decide) (exec_load_cell 3 (.tmp 4) (by kernel_rfl) (q + 2) 0 (by kernel_rfl) _ (D2.out.cell rfl) _ Tryz.underlying3 rfl) (fun vj w1 hb1 => exec_load_cell 3 (.tmp 4) (by kernel_rfl) (q + 2) 0 (by kernel_rfl) _ ((D2.out.below hb1 D2.out.lt).cell rfl) _ Tryz.underlying3 rfl) (by kernel_rfl) (by kernel_rfl) (WE) ?_
  rintro e w6 ⟨rfl, hb6⟩
  refine ⟨hb6, _, rfl, ?_⟩
  have E1 := Lib.hid (D1.out.below hb6 D1.out.lt)
  have E2 := Lib.hid (D2.out.below hb6 D2.out.lt)
  have E3 := D3.below hb6 D3.lt
  have E4 := Lib.hid (D4.out.below hb6)
  have ES : Hid (q + 3 ≤ w6.heap.size) := Nat.le_trans DS.out hb6.size
  have EB : Hid (Below q w w6) := DB.out.trans (hb6.mono (by have := DS.out; omega))
  have KE : Hid (Keeps G W w6) := KD.out.trans (Keeps.of_below hb6)
  clear hb6 D1 D2 D3 D4 DS DB KD WE
  refine reg_now 3 (.int .i64 (IntKind.i64.wrap (v1 - ((1 + M : Nat) : Int)))) (some 13) hQN E3 (by kernel_rfl) (by kernel_rfl) (fun w => by kernel_rfl) ?_
  rw [show IntKind.i64.wrap (v1 - ((1 + M : Nat) : Int)) = v1 - ((1 + M : Nat) : Int) from (IntWalk.i64_in _ (by have := HI3.out; have := hv1.out; omega))]
  obtain ⟨v2, hv2⟩ : ∃ x, Hid (v1 - ((1 + M : Nat) : Int) = x) := ⟨_, rfl⟩
  rw [hv2.out]
  refine reg_put1 4 3 (.tmp 4) (.tmp 13) (q + 2) _ (.int .i64 v1) (.int .i64 v2) (by kernel_rfl) (by kernel_rfl) (by kernel_rfl) (by kernel_rfl) (by kernel_rfl) E2.out (by kernel_rfl) (by rfl) (by rfl) ?_
  intro w7 bw7 uw7
  refine ⟨uw7.blk E3 NB.out.1, ?_⟩
  refine reg_done (by kernel_rfl) (hN _ _ ?_)
  have F1 : Hid (Blk w7 (q + 1) 62 [.slice av0 an ac]) := uw7.blk E1.out (by omega)
  have F2 : Hid (IntAt w7 (q + 2) v2) := bw7
  have F3 : Hid (Blk w7 nb 25 x.cs) := uw7.blk E3 NB.out.1
  have F4 : Hid (RowS (q + 3) w7 (.slice av0 an ac) (nmN pre)) := E4.out.upd uw7 (by omega)
  have FS : Hid (q + 3 ≤ w7.heap.size) := Nat.le_trans ES.out uw7.size
  have FB : Hid (Below q w w7) := uw7.below EB.out (by omega) (by have := ES.out; omega)
  have KF : Hid (Keeps G W w7) := KE.out.upd uw7 (.inl M2.out)
  have HW : Hid (v2 = 3000 - ((wN (pre ++ [x]) : Nat) : Int)) := by have h1 := hv1.out; have h2 := hv2.out; rw [Hid, HV2.out]; omega
  clear E1 E2 E3 E4 ES EB KE bw7 uw7 HI3 hv1 hv2
  generalize hact : Act.put _ none _ = act
  simp only [Act.put, sA, sC, sZ] at hact
  subst hact
  refine then_normal ?_
  refine wpIn_seq ?_
  refine wpIn_seq ?_
  refine rin_lin (opsOf Tryz.f47 6) (by kernel_rfl) (by kernel_rfl) (fun ⟨_, _, h⟩ => h) ?_
  refine lcl 0 (.int .i64 v2) (some 14) 3 4 (q + 2) 0 (F2.out.cell rfl) Tryz.underlying3 ?_
  by_cases hgt : v2 < 0
  ·have rg : decide (v2 < 0) = true := decide_eq_true hgt
   refine lnow 1 (.bool (decide (v2 < 0))) (some 15) ?_
   rw [rg]
   refine ldn 2 ?_
   generalize hact : Act.put _ (some 15) _ = act
   simp only [Act.put, sA, sC, sZ] at hact
   subst hact
   refine then_normal ?_
   refine wpIn_cond_true (by kernel_rfl) ?_
   refine wpIn_exit ?_
   exact ⟨⟨KF.out.from (fun g hg => by have := GB.out g hg; have := L5.out; omega), KeepC.of_keeps KF.out, FB.out⟩, show 3001 ≤ wN (pre ++ [x]) by have := HW.out; omega⟩
  have rg : decide (v2 < 0) = false := decide_eq_false hgt
  refine lnow 1 (.bool (decide (v2 < 0))) (some 15) ?_
  rw [rg]
  refine ldn 2 ?_
  generalize hact : Act.put _ (some 15) _ = act
  simp only [Act.put, sA, sC, sZ] at hact
  subst hact
  refine then_normal ?_
  refine wpIn_cond_false (by kernel_rfl) ?_
  refine wpIn_skip ?_
  refine then_normal ?_
  refine wpIn_seq ?_
  have k0 : w7.cell? ⟨nb, 0, none⟩ = some (.int .i64 x.t.kind) := F3.out.cell (by rw [XCS.out]; rfl)
  by_cases h4 : x.t.kind = 4
  ·have hk4 := h4
   refine rin_lin (opsOf Tryz.f47 7) (by kernel_rfl) (by kernel_rfl) (fun ⟨_, _, h⟩ => h) ?_
   refine lnow 0 (.pointer (some ⟨nb, 0, none⟩)) (some 16) ?_
   refine lcl 1 (.int .i64 x.t.kind) (some 17) 3 16 (nb) 0 (k0) Tryz.underlying3 ?_
   refine lnowP 2 (.bool true) (some 18) (exec_eqli_yes h4 (by kernel_rfl)) ?_
   refine lnow 3 (.bool true) (some 19) ?_
   refine lpas 4 (some 20) ?_
   refine lpas 5 (some 21) ?_
   refine lpas 6 (some 22) ?_
   refine lnow 7 (.bool true) (some 23) ?_
   refine ldn 8 ?_
   generalize hact : Act.put _ (some 23) _ = act
   simp only [Act.put, sA, sC, sZ] at hact
   subst hact
   refine then_normal ?_
   refine wpIn_cond_true (by kernel_rfl) ?_
   have HX : Hid (nmN (pre ++ [x]) = nmN pre ++ [x.t.name]) := by rw [Hid, HNS.out, nmX, if_pos (.inl h4)]; rfl
   have k2 : w7.cell? ⟨nb, 2, none⟩ = some (strT x.t.name) := F3.out.cell (by rw [XCS.out]; rfl)
   obtain ⟨q9, hq9⟩ : ∃ z, Hid (w7.heap.size = z) := ⟨_, rfl⟩
   refine rin_lin (opsOf Tryz.f47 8) (by kernel_rfl) (by kernel_rfl) (fun ⟨_, _, h⟩ => h) ?_
   refine lcl 0 (.slice av0 an ac) (some 24) 62 3 (q + 1) 0 (F1.out.cell rfl) Tryz.underlying62 ?_
   refine lnow 1 (.pointer (some ⟨nb, 2, none⟩)) (some 25) ?_
   refine lcl 2 (strT x.t.name) (some 26) 9 25 (nb) 2 (k2) Tryz.underlying9 ?_
   refine lin_row 3 9 [strT x.t.name] q9 1 (some 27) (by kernel_rfl) (by kernel_rfl) hq9 (exec_of (Instr.buildSlice 62 1 #[(0, strT x.t.name)]) _ (by kernel_rfl) (run_build_str1 _ _)) ?_
   intro w8 bw8 bew8 hsw8
   have bew8' : Below w7.heap.size w7 w8 := by rw [hq9.out]; exact bew8
   obtain ⟨v', w9, hrun, RS9, hg9⟩ := (F4.out.below bew8').append bw8 (by have := HNL.out; omega) (Nat.le_trans FS.out bew8'.size)
   have RS8 := F4.out.below bew8'
   refine lin_value 4 v' (some 28) w9 (by kernel_rfl) (by kernel_rfl) (exec_of _ _ (by kernel_rfl) hrun) ?_
   obtain ⟨va, vn, vc, rfl⟩ := RS9.slice
   have G1 : Blk w9 (q + 1) 62 [.slice av0 an ac] := grown_blk hg9 (F1.out.below bew8' F1.out.lt) (fun e => by have := (RS8.own _ e).1; omega)
   have G2 : Blk w9 (q + 2) 3 [.int .i64 v2] := grown_blk hg9 (F2.out.below bew8' F2.out.lt) (fun e => by have := (RS8.own _ e).1; omega)
   refine lin_put1 5 62 (.tmp 3) (.tmp 28) (q + 1) _ (.slice av0 an ac) (.slice va vn vc) (by kernel_rfl) (by kernel_rfl) (by kernel_rfl) (by kernel_rfl) (by kernel_rfl) G1 (by kernel_rfl) (by rfl) (by rfl) ?_
   intro w10 bw10 uw10
   refine ldn 6 ?_
   generalize hact : Act.put _ none _ = act
   simp only [Act.put, sA, sC, sZ] at hact
   subst hact
   have KA : Keeps G W w8 := KF.out.trans (Keeps.of_below bew8')
   have KB : Keeps G w9 w10 := (Keeps.refl G w9).upd uw10 (.inl M1.out)
   have gb : ∀ g ∈ G, g < w5.heap.size := fun g hg => by have := GB.out g hg; have := L5.out; omega
   have B8 : Below q w w8 := FB.out.trans (bew8'.mono (by have := FS.out; omega))
   have B9 : Below q w w9 := B8.trans (grown_below hg9 (by have := FS.out; have := bew8'.size; omega) (fun g e => by have := (RS8.own g e).1; omega))
   exact ⟨⟨((KA.from gb).trans (RS8.from _ hg9)).trans (KB.from gb), ((KeepC.of_keeps KA).trans (RS8.keepC G hg9)).trans (KeepC.of_keeps KB), uw10.below B9 (by omega) (by have := B9.size; have := HQ.out; have := G1.lt; omega)⟩, ⟨_, bw10, by rw [HX.out]; exact RS9.upd uw10 (by omega)⟩, by rw [← HW.out]; exact uw10.blk G2 (by omega), by have := HW.out; rw [Hid]; omega, by have := uw10.size; have := hg9.size; have := bew8'.size; have := FS.out; rw [Hid]; omega⟩
  by_cases h9 : x.t.kind = 9
  ·have hk9 := h9
   refine rin_lin (opsOf Tryz.f47 7) (by kernel_rfl) (by kernel_rfl) (fun ⟨_, _, h⟩ => h) ?_
   refine lnow 0 (.pointer (some ⟨nb, 0, none⟩)) (some 16) ?_
   refine lcl 1 (.int .i64 x.t.kind) (some 17) 3 16 (nb) 0 (k0) Tryz.underlying3 ?_
   refine lnowP 2 (.bool false) (some 18) (exec_eqli h4 (by kernel_rfl)) ?_
   refine lnow 3 (.bool false) (some 19) ?_
   refine lnow 4 (.pointer (some ⟨nb, 0, none⟩)) (some 20) ?_
   refine lcl 5 (.int .i64 x.t.kind) (some 21) 3 20 (nb) 0 (k0) Tryz.underlying3 ?_
   refine lnowP 6 (.bool true) (some 22) (exec_eqli_yes h9 (by kernel_rfl)) ?_
   refine lnow 7 (.bool true) (some 23) ?_
   refine ldn 8 ?_
   generalize hact : Act.put _ (some 23) _ = act
   simp only [Act.put, sA, sC, sZ] at hact
   subst hact
   refine then_normal ?_
   refine wpIn_cond_true (by kernel_rfl) ?_
   have HX : Hid (nmN (pre ++ [x]) = nmN pre ++ [x.t.name]) := by rw [Hid, HNS.out, nmX, if_pos (.inr h9)]; rfl
   have k2 : w7.cell? ⟨nb, 2, none⟩ = some (strT x.t.name) := F3.out.cell (by rw [XCS.out]; rfl)
   obtain ⟨q9, hq9⟩ : ∃ z, Hid (w7.heap.size = z) := ⟨_, rfl⟩
   refine rin_lin (opsOf Tryz.f47 8) (by kernel_rfl) (by kernel_rfl) (fun ⟨_, _, h⟩ => h) ?_
   refine lcl 0 (.slice av0 an ac) (some 24) 62 3 (q + 1) 0 (F1.out.cell rfl) Tryz.underlying62 ?_
   refine lnow 1 (.pointer (some ⟨nb, 2, none⟩)) (some 25) ?_
   refine lcl 2 (strT x.t.name) (some 26) 9 25 (nb) 2 (k2) Tryz.underlying9 ?_
   refine lin_row 3 9 [strT x.t.name] q9 1 (some 27) (by kernel_rfl) (by kernel_rfl) hq9 (exec_of (Instr.buildSlice 62 1 #[(0, strT x.t.name)]) _ (by kernel_rfl) (run_build_str1 _ _)) ?_
   intro w8 bw8 bew8 hsw8
   have bew8' : Below w7.heap.size w7 w8 := by rw [hq9.out]; exact bew8
   obtain ⟨v', w9, hrun, RS9, hg9⟩ := (F4.out.below bew8').append bw8 (by have := HNL.out; omega) (Nat.le_trans FS.out bew8'.size)
   have RS8 := F4.out.below bew8'
   refine lin_value 4 v' (some 28) w9 (by kernel_rfl) (by kernel_rfl) (exec_of _ _ (by kernel_rfl) hrun) ?_
   obtain ⟨va, vn, vc, rfl⟩ := RS9.slice
   have G1 : Blk w9 (q + 1) 62 [.slice av0 an ac] := grown_blk hg9 (F1.out.below bew8' F1.out.lt) (fun e => by have := (RS8.own _ e).1; omega)
   have G2 : Blk w9 (q + 2) 3 [.int .i64 v2] := grown_blk hg9 (F2.out.below bew8' F2.out.lt) (fun e => by have := (RS8.own _ e).1; omega)
   refine lin_put1 5 62 (.tmp 3) (.tmp 28) (q + 1) _ (.slice av0 an ac) (.slice va vn vc) (by kernel_rfl) (by kernel_rfl) (by kernel_rfl) (by kernel_rfl) (by kernel_rfl) G1 (by kernel_rfl) (by rfl) (by rfl) ?_
   intro w10 bw10 uw10
   refine ldn 6 ?_
   generalize hact : Act.put _ none _ = act
   simp only [Act.put, sA, sC, sZ] at hact
   subst hact
   have KA : Keeps G W w8 := KF.out.trans (Keeps.of_below bew8')
   have KB : Keeps G w9 w10 := (Keeps.refl G w9).upd uw10 (.inl M1.out)
   have gb : ∀ g ∈ G, g < w5.heap.size := fun g hg => by have := GB.out g hg; have := L5.out; omega
   have B8 : Below q w w8 := FB.out.trans (bew8'.mono (by have := FS.out; omega))
   have B9 : Below q w w9 := B8.trans (grown_below hg9 (by have := FS.out; have := bew8'.size; omega) (fun g e => by have := (RS8.own g e).1; omega))
   exact ⟨⟨((KA.from gb).trans (RS8.from _ hg9)).trans (KB.from gb), ((KeepC.of_keeps KA).trans (RS8.keepC G hg9)).trans (KeepC.of_keeps KB), uw10.below B9 (by omega) (by have := B9.size; have := HQ.out; have := G1.lt; omega)⟩, ⟨_, bw10, by rw [HX.out]; exact RS9.upd uw10 (by omega)⟩, by rw [← HW.out]; exact uw10.blk G2 (by omega), by have := HW.out; rw [Hid]; omega, by have := uw10.size; have := hg9.size; have := bew8'.size; have := FS.out; rw [Hid]; omega⟩
  refine rin_lin (opsOf Tryz.f47 7) (by kernel_rfl) (by kernel_rfl) (fun ⟨_, _, h⟩ => h) ?_
  refine lnow 0 (.pointer (some ⟨nb, 0, none⟩)) (some 16) ?_
  refine lcl 1 (.int .i64 x.t.kind) (some 17) 3 16 (nb) 0 (k0) Tryz.underlying3 ?_
  refine lnowP 2 (.bool false) (some 18) (exec_eqli h4 (by kernel_rfl)) ?_
  refine lnow 3 (.bool false) (some 19) ?_
  refine lnow 4 (.pointer (some ⟨nb, 0, none⟩)) (some 20) ?_
  refine lcl 5 (.int .i64 x.t.kind) (some 21) 3 20 (nb) 0 (k0) Tryz.underlying3 ?_
  refine lnowP 6 (.bool false) (some 22) (exec_eqli h9 (by kernel_rfl)) ?_
  refine lnow 7 (.bool false) (some 23) ?_
  refine ldn 8 ?_
  generalize hact : Act.put _ (some 23) _ = act
  simp only [Act.put, sA, sC, sZ] at hact
  subst hact
  refine then_normal ?_
  refine wpIn_cond_false (by kernel_rfl) ?_
  refine wpIn_skip ?_
  have HX : nmN (pre ++ [x]) = nmN pre := by rw [HNS.out, nmX, if_neg (fun h => h.elim h4 h9), List.append_nil]
  exact ⟨⟨KF.out.from (fun g hg => by have := GB.out g hg; have := L5.out; omega), KeepC.of_keeps KF.out, FB.out⟩, ⟨_, F1.out, by rw [HX]; exact F4.out⟩, by rw [← HW.out]; exact F2.out, by have := HW.out; rw [Hid]; omega, FS.out⟩
 ·rintro D W ⟨⟨v, hv1, hv2⟩, hi2, hi3, hi4⟩ hD hK hb
  rw [NM.out] at hv2
  have HD : Hid (q + 3 ≤ D) := by have := L5.out; rw [Hid]; omega
  dsimp only [Act.marked]
  by_cases h1 : L = []
  ·obtain ⟨a0, c0, hv⟩ : ∃ a0 c0, v = .slice a0 0 c0 := by
    rcases hv2 with ⟨hv, -⟩ | ⟨g, cap, cur, hv, -⟩
    ·exact ⟨_, _, hv⟩
    ·exact ⟨_, _, by rw [hv, h1]; rfl⟩
   subst hv
   have HV1 := Lib.hid hv1
   have HK := Lib.hid hK
   have HB := Lib.hid hb
   have HDL : Hid (D < W.heap.size) := (Array.getElem?_eq_some_iff.1 hK).1
   clear hv1 hv2 hi2 hi3 hi4 hD hK hb
   have H1 := Lib.hid h1
   clear h1
   go_upto_region 9 with (fail)
   refine lbeg (opsOf Tryz.f47 9) ?_
   refine lcl 0 (.slice a0 0 c0) (some 29) 62 3 (q + 1) 0 (HV1.out.cell rfl) Tryz.underlying62 ?_
   refine lcal 1 78 #[.slice a0 0 c0] (some 30) _ (Tryz.slices_Sort_string_none a0 c0 W) ?_
   rintro e w6 ⟨rfl, hw6⟩
   obtain rfl := hw6.symm
   refine ⟨_, rfl, ?_⟩
   refine ldn 2 ?_
   generalize hact : Act.put _ (some 30) _ = act
   simp only [Act.put, sA, sC, sZ] at hact
   subst hact
   go_upto_region 10 with (fail)
   refine lbeg (opsOf Tryz.f47 10) ?_
   refine lcl 0 (.slice a0 0 c0) (some 31) 62 3 (q + 1) 0 (HV1.out.cell rfl) Tryz.underlying62 ?_
   refine lcal 1 79 #[.slice a0 0 c0] (some 32) _ (Tryz.slices_Compact_string_empty a0 c0 W) ?_
   rintro e w7 ⟨rfl, hw7⟩
   obtain rfl := hw7.symm
   refine ⟨_, rfl, ?_⟩
   refine lnow 2 (.slice a0 0 c0) (some 2) ?_
   refine ldn 3 ?_
   generalize hact : Act.put _ (some 2) _ = act
   simp only [Act.put, sA, sC, sZ] at hact
   subst hact
   go_wp2
   exact ret_marks rfl HK.out (by rw [results_tmp Tryz.results47]; rfl) ⟨_, rfl, .inl ⟨H1.out, _, _, rfl⟩, below_put HB.out (by have := HD.out; omega) HDL.out⟩
  obtain ⟨g, cap, hv⟩ : ∃ g cap, v = .slice (some ⟨g, 0, none⟩) L.length cap := by
   rcases hv2 with ⟨-, hl⟩ | ⟨g, cap, cur, hv, -⟩
   ·exact absurd hl h1
   ·exact ⟨g, cap, hv⟩
  subst hv
  have hcap : L.length ≤ cap := by
   rcases hv2 with ⟨h, -⟩ | ⟨g2, cap2, cur, h, -, -, h3, -⟩
   ·cases h
   ·cases h; exact h3
  have GQ : Hid (q + 3 ≤ g) := (hv2.own g rfl).1
  have GD : Hid (g ≠ D) := by
   obtain ⟨-, -, cur, h, -⟩ := hv2.own g rfl
   intro e
   rw [e, hK] at h
   cases h
  have SO := sort_row hv2 (by have := LB.out; omega)
  have HV1 := Lib.hid hv1
  have HK := Lib.hid hK
  have HB := Lib.hid hb
  have HDL : Hid (D < W.heap.size) := (Array.getElem?_eq_some_iff.1 hK).1
  have HCAP := Lib.hid hcap
  clear hv1 hv2 hi2 hi3 hi4 hD hK hb hcap
  go_upto_region 9 with (fail)
  refine lbeg (opsOf Tryz.f47 9) ?_
  refine lcl 0 (.slice (some ⟨g, 0, none⟩) L.length cap) (some 29) 62 3 (q + 1) 0 (HV1.out.cell rfl) Tryz.underlying62 ?_
  refine lcal 1 78 #[.slice (some ⟨g, 0, none⟩) L.length cap] (some 30) _ (SO) ?_
  rintro e w6 ⟨rfl, hr6, hg6⟩
  refine ⟨_, rfl, ?_⟩
  refine ldn 2 ?_
  generalize hact : Act.put _ (some 30) _ = act
  simp only [Act.put, sA, sC, sZ] at hact
  subst hact
  have V6 : Blk w6 (q + 1) 62 [.slice (some ⟨g, 0, none⟩) L.length cap] := grown_blk hg6 HV1.out (fun e => by have := GQ.out; cases e; omega)
  have K6 : w6.heap[D]? = some (.deferred (some [])) := (hg6.block D HDL.out (fun e => GD.out (by cases e; rfl))).trans HK.out
  have B6 : Below q w w6 := HB.out.trans (grown_below hg6 (by have := HDL.out; have := HD.out; omega) (fun k e => by have := GQ.out; cases e; omega))
  have hlen : (sortedS L).length = L.length := List.length_mergeSort ..
  rw [← hlen] at hr6
  have CO := compact_row hr6 (by have := LB.out; omega) (by rw [hlen]; exact HCAP.out) (compact_le _)
  rw [hlen] at CO
  have L6 : D < w6.heap.size := Nat.lt_of_lt_of_le HDL.out hg6.size
  clear SO hr6 hlen
  go_upto_region 10 with (fail)
  refine lbeg (opsOf Tryz.f47 10) ?_
  refine lcl 0 (.slice (some ⟨g, 0, none⟩) L.length cap) (some 31) 62 3 (q + 1) 0 (V6.cell rfl) Tryz.underlying62 ?_
  refine lcal 1 79 #[.slice (some ⟨g, 0, none⟩) L.length cap] (some 32) _ (CO) ?_
  rintro e w7 ⟨r, rfl, hr7, ho7, hg7⟩
  refine ⟨_, rfl, ?_⟩
  refine lnow 2 (r) (some 2) ?_
  refine ldn 3 ?_
  generalize hact : Act.put _ (some 2) _ = act
  simp only [Act.put, sA, sC, sZ] at hact
  subst hact
  have K7 : w7.heap[D]? = some (.deferred (some [])) := (hg7.block D L6 (fun e => GD.out (by cases e; rfl))).trans K6
  have B7 : Below q w w7 := B6.trans (grown_below hg7 (by have := HD.out; omega) (fun k e => by have := GQ.out; cases e; omega))
  go_wp2
  refine ret_marks rfl K7 (by rw [results_tmp Tryz.results47]; rfl) ⟨r, rfl, .inr (hr7.of_blocks (fun k hk => World.putObj_heap_other (fun e => by rw [ho7] at hk; cases hk; exact GD.out e))), below_put B7 (by have := HD.out; omega) (Array.getElem?_eq_some_iff.1 K7).1⟩
 ·rintro D c pre W hp hi hD hK hb
  have hle := wN_pre hp
  rw [SUM.out] at hle
  have := hi.out
  omega
end Go.Proofs.YtmceocgddaaohaaGreatDoor
