/- Law 13's Parts: rows of declarations behind one another. -/
import Derived.Test.YtmceocgddaaohaaGreatDoorQGenT
import Derived.Test.YtmceocgddaaohaaGreatDoorQShwM
import Derived.Test.YtmceocgddaaohaaGreatDoorQCodGr
import Derived.Test.YtmceocgddaaohaaGreatDoorQCodOp
import Derived.Maps.AppendAt
namespace Go.Proofs.YtmceocgddaaohaaGreatDoor
open Go Go.RowKit
set_option maxRecDepth 100000
/-- A row of declarations of the call's own. -/
def RowDs (m : Nat) (w : World) (v : Value) (ds : List Dc) : Prop := ∃ cs, w.ownsRow m 46 15 v ds.length cs.flatten ∧ DcCells ([] ++ ownL v) w ds cs
theorem DcCells.one {F : List Nat} {w : World} : ∀ {ds : List Dc} {cs : List (List Value)}, DcCells F w ds cs → ∀ u ∈ cs.flatten, u.oneCell' = true
 | [], [], _, u, hu => by cases hu
 | _ :: _, c :: cs, h, u, hu => by
  rw [List.flatten_cons] at hu
  rcases List.mem_append.1 hu with hu | hu
  ·exact h.1.one u hu
  ·exact DcCells.one h.2 u hu
 | [], _ :: _, h, _, _ => h.elim
 | _ :: _, [], h, _, _ => h.elim
theorem DcCells.app {F : List Nat} {w : World} : ∀ {ds es : List Dc} {cs ys : List (List Value)}, DcCells F w ds cs → DcCells F w es ys → DcCells F w (ds ++ es) (cs ++ ys)
 | [], _, [], _, _, h => h
 | _ :: _, _, _ :: _, _, h, h' => ⟨h.1, DcCells.app h.2 h'⟩
 | [], _, _ :: _, _, h, _ => h.elim
 | _ :: _, _, [], _, h, _ => h.elim
theorem dc_cells {F : List Nat} {w : World} {pb : Nat} : ∀ (es : List Dc) (po : Nat), (∀ (i : Nat) (d : Dc), es[i]? = some d → ∃ cs, w.rangeAt pb (po + 15 * i) cs ∧ DcAt F w d cs) → ∃ css, DcCells F w es css ∧ w.rangeAt pb po css.flatten
 | [], po, _ => ⟨[], trivial, fun j u hu => by simp at hu⟩
 | d :: es, po, h => by
  obtain ⟨c, h1, h2⟩ := h 0 d rfl
  obtain ⟨css, h3, h4⟩ := dc_cells es (po + 15) fun i x hx => by
   obtain ⟨c', g1, g2⟩ := h (i + 1) x (by simpa using hx)
   exact ⟨c', by rw [show po + 15 + 15 * i = po + 15 * (i + 1) by omega]; exact g1, g2⟩
  refine ⟨c :: css, ⟨h2, h3⟩, fun j u hu => ?_⟩
  rw [List.flatten_cons] at hu
  by_cases hj : j < 15
  ·rw [List.getElem?_append_left (by rw [h2.len]; exact hj)] at hu
   exact h1 j u hu
  ·rw [List.getElem?_append_right (by rw [h2.len]; omega), h2.len] at hu
   have := h4 (j - 15) u hu
   rw [show po + 15 + (j - 15) = po + j by omega] at this
   exact this
theorem RowDs.append {m : Nat} {w : World} {v u : Value} {ds es : List Dc} (h : RowDs m w v ds) (hu : DcsAt ([] ++ ownL v) w es u) (hnil : NilOk u) (hn : (ds.length + es.length) * 224 ≤ 140737488355328) (hm : m ≤ w.heap.size) :
    ∃ v' w', (Builtin.append_ #[40, 40] 40 #[v, u]).run Tryz.prog w = .ok v' w' ∧ RowDs m w' v' (ds ++ es) ∧ w.grownBy w' v.ownBlock ∧ (v'.ownBlock = v.ownBlock ∨ v'.ownBlock = some w.heap.size) := by
  obtain ⟨cs, h1, h2⟩ := h
  obtain ⟨i0, hi0, hz0, hz1, hz2⟩ := info_parts infoDc
  obtain ⟨a, c, rfl, hc, hp⟩ := hu
  cases a with
  | none =>
    obtain ⟨e1, e2⟩ := hnil
    obtain rfl := List.eq_nil_of_length_eq_zero e1
    subst e2
    refine ⟨v, w, run_append_owned_none (P := Tryz.prog) (w := w) m 40 40 46 i0 15 elemDcs1 hi0 v ds.length cs.flatten h1, ⟨cs, by rw [List.append_nil]; exact h1, by rw [List.append_nil]; exact h2⟩, ⟨rfl, rfl, rfl, Nat.le_refl _, fun _ _ _ => rfl⟩, .inl rfl⟩
  | some ad =>
    obtain ⟨css, h3, h4⟩ : ∃ css, DcCells ([] ++ ownL v) w es css ∧ ∀ j u, css.flatten[j]? = some u → w.cell? (ad.add j) = some u := by
      by_cases h0 : 0 < es.length
      · obtain ⟨pb, po, e, -, -, hr⟩ := hp h0
        obtain rfl := Option.some.inj e
        obtain ⟨css, h3, h4⟩ := dc_cells es po hr
        exact ⟨css, h3, fun j u hj => by rw [Addr.add_mid]; exact h4 j u hj⟩
      · obtain rfl := List.eq_nil_of_length_eq_zero (Nat.eq_zero_of_not_pos h0)
        exact ⟨[], trivial, fun j u hu => by simp at hu⟩
    obtain ⟨v', w', e1, e2, e3, -, e5⟩ := run_append_own_at w m 40 40 46 i0 _ 15 224 elemDcs1 hi0 hz0 hz1 hz2 (by rfl) (by decide) v ds.length cs.flatten h1 ad es.length c css.flatten (by rw [h3.flat, Nat.mul_comm]) h4 h3.one (by unfold maxLen; omega) hn hm
    have hs := grown_stepD (F := []) e3 e5
    exact ⟨v', w', e1, ⟨cs ++ css, by rw [List.flatten_append, List.length_append]; exact e2, DcCells.app (DcCells.step hs h2) (DcCells.step hs h3)⟩, e3, e5⟩
theorem RowDs.own {m : Nat} {w : World} {v : Value} {ds : List Dc} (h : RowDs m w v ds) : ∀ g, v.ownBlock = some g → m ≤ g ∧ g < w.heap.size := by
 obtain ⟨cs, h1, -⟩ := h
 exact own_where h1
theorem shI_len {w : World} {ds : List Dc} {v : Value} (h : DcsAt [] w ds v) (hn : ds.length ≤ 64) : (if shOk ds = true then shT ds else []).length ≤ 1000000000 := by
 split
 ·next hk =>
  unfold shOk at hk
  rw [Bool.and_eq_true, List.all_eq_true] at hk
  exact Nat.le_trans (shT_len ds fun d hd => ⟨formed_is (hk.2 d hd), dcs_lv4 h d hd⟩) (Nat.le_trans (Nat.mul_le_mul_right _ hn) (by decide))
 ·exact Nat.zero_le _
theorem RowDs.in {m : Nat} {w : World} {v : Value} {ds : List Dc} (h : RowDs m w v ds) : DcsAt [] w ds v := by
 obtain ⟨cs, h1, h2⟩ := h
 have ho := own_where h1
 rcases h1.2 with ⟨rfl, hn⟩ | ⟨g, cap, cur, rfl, hmg, hg, hc, hcs, hsz, ht⟩
 ·obtain rfl := List.eq_nil_of_length_eq_zero hn
  exact DcsAt.nil _ _ _ _
 ·refine ⟨_, _, rfl, hc, fun _ => ⟨g, 0, rfl, by simp, (Array.getElem?_eq_some_iff.1 hg).1, fun i d hi => ?_⟩⟩
  obtain ⟨c, g1, g2⟩ := DcCells.at h2 hi
  refine ⟨c, fun j u hu => ?_, g1.sub (fun k hk => by cases hk)⟩
  rw [cell_of_row w g (0 + 15 * i + j) cur 46 (0, 0) hg, show 0 + 15 * i + j = 15 * i + j by omega]
  have h9 := g2 j u hu
  rw [← ht, List.getElem?_take] at h9
  split at h9
  ·simpa using h9
  ·cases h9
theorem run_build_nodc (w : World) : (Instr.buildSlice 40 0 #[]).run Tryz.prog w = .ok (.slice (some ⟨w.heap.size, 0, none⟩) 0 0) (w.alloc (.cells #[] 46)) := by kernel_rfl
theorem RowDs.new {w : World} (m : Nat) (hm : m ≤ w.heap.size) : RowDs m (w.alloc (.cells #[] 46)) (.slice (some ⟨w.heap.size, 0, none⟩) 0 0) [] :=
 ⟨[], ⟨by rfl, .inr ⟨w.heap.size, 0, #[], rfl, hm, Blk.new w 46 [], Nat.le_refl _, by unfold maxLen; omega, by simp, by simp⟩⟩, trivial⟩
theorem shOk_app {a b : List Dc} (h : a.length + b.length ≤ 64) : shOk (a ++ b) = (shOk a && shOk b) := by
 unfold shOk
 rw [List.length_append, decide_eq_true h, decide_eq_true (by omega), decide_eq_true (by omega), List.all_append, Bool.true_and, Bool.true_and, Bool.true_and]
theorem shT_app (a b : List Dc) : shT (a ++ b) = shT a ++ shT b := by simp [shT]
theorem grown_belowP {w w' : World} {v : Value} {B : Nat} (h : w.grownBy w' v.ownBlock) (hv : ∀ g, v.ownBlock = some g → B ≤ g) (hB : B ≤ w.heap.size) : Below B w w' :=
 ⟨h.os, h.tape, h.output, h.size, fun k hk => h.block k (by omega) (fun e => by have := hv k e.symm; omega)⟩
theorem open_decls2 {H : Type} {enc : TypeId × Value → H} {W : World} {base : Nat} {v : Value} {d : DataW H} {p : List MemPlace} (hval : Value.okWide Tryz.prog W .any base 40 v)
    (h : DataW.Trod enc Tryz.prog W 0 (fun _ => true) true 40 v d p) (hsz : ∀ n ∈ d.weights Tryz.prog 40, n ≤ reachBytes) : (∃ ds : List Dc, DcsAt [] W ds v ∧ NilOk v ∧ (∀ x ∈ ds, SmD x) ∧ ds.length ≤ 140737488351232) ∧ ∀ x ∈ p, x.block < W.heap.size := by
  obtain ⟨⟨ds, h1, h2, h3⟩, h4⟩ := open_decls hval h hsz
  refine ⟨⟨ds, h1, ?_, h2, h3⟩, h4⟩
  obtain ⟨m, hm⟩ := h
  obtain ⟨a0, len0, cap0, rfl⟩ := WideShapes.okWide_slice Tryz.underlying40 hval
  rcases DataW.trod_slice Tryz.underlying40 hm with ⟨e, -⟩ | ⟨a, len, cap, elems, rest, n', hn', e2, -⟩
  · obtain ⟨e1, -⟩ := List.cons.inj e
    injection e1 with e1 e2 e3
    subst e1 e2 e3
    exact ⟨rfl, rfl⟩
  · obtain ⟨e1, -⟩ := List.cons.inj e2
    injection e1 with e1 e2 e3
    subst e1
    trivial
set_option maxHeartbeats 8000000 in
theorem parts_walk13 (xs ys : List Dc) (va vb : Value) (w : World) (hT : TabW w) (ha : DcsAt [] w xs va) (hb : DcsAt [] w ys vb) (hna : NilOk va) (hnb : NilOk vb) (hsa : ∀ d ∈ xs, SmD d) (hsb : ∀ d ∈ ys, SmD d) (hla : xs.length ≤ 140737488351232) (hlb : ys.length ≤ 140737488351232) : Calls Tryz.prog 5 #[va, vb] w fun e w' => e = .returned (.bool true) ∧ Below w.heap.size w w' := by
 obtain ⟨q, hq⟩ : ∃ q, Hid (w.heap.size = q) := ⟨_, rfl⟩
 obtain ⟨aa, ac, rfl⟩ := ha.slice
 obtain ⟨ba, bc, rfl⟩ := hb.slice
 have DA := Lib.hid ha
 have DB := Lib.hid hb
 have NA := Lib.hid hna
 have NB := Lib.hid hnb
 have SA := Lib.hid hsa
 have SB := Lib.hid hsb
 have LA := Lib.hid hla
 have LB := Lib.hid hlb
 obtain ⟨L, hL⟩ : ∃ L, Hid (xs.length = L) := ⟨_, rfl⟩
 obtain ⟨M, hM⟩ : ∃ M, Hid (ys.length = M) := ⟨_, rfl⟩
 rw [hL.out] at DA NA LA
 rw [hM.out] at DB NB LB
 rw [hq.out, hL.out, hM.out]
 have BE : Hid (Below q w w) := by have h9 := Below.refl w.heap.size w; rw [hq.out] at h9; exact h9
 have SQ : Hid (q ≤ w.heap.size) := by have := hq.out; rw [Hid]; omega
 clear ha hb hna hnb hsa hsb hla hlb
 go_enter Tryz.func5, Tryz.ntmps5
 go_upto_region 0 with (fail)
 refine lbeg (opsOf Tryz.f5 0) ?_
 refine lnow 0 (.bool false) (some 4) ?_
 refine ldn 1 ?_
 generalize hact : Act.put _ (some 4) _ = act
 simp only [Act.put, sA, sC, sZ] at hact
 subst hact
 go_upto_region 1 with (fail)
 refine lbeg (opsOf Tryz.f5 1) ?_
 refine lcal 0 6 #[] (some 11) _ (alive13_walk w hT) ?_
 rintro e u1 ⟨rfl, hbl⟩
 refine ⟨_, rfl, ?_⟩
 replace BE : Hid (Below q w u1) := BE.out.trans (hbl.mono SQ.out)
 replace SQ : Hid (q ≤ u1.heap.size) := Nat.le_trans SQ.out hbl.size
 clear hbl
 refine lnow 1 (.bool false) (some 12) ?_
 refine ldn 2 ?_
 generalize hact : Act.put _ (some 12) _ = act
 simp only [Act.put, sA, sC, sZ] at hact
 subst hact
 go_upto_region 3 with (fail)
 refine lbeg (opsOf Tryz.f5 3) ?_
 refine lnow 0 (.slice aa L ac) (some 13) ?_
 have LA9 := LA.out
 have LB9 := LB.out
 refine lcal 1 14 #[.slice aa L ac] (some 14) _ (great10_walk xs (.slice aa L ac) u1 (DA.out.step (Step.of_below BE.out (by rw [hq.out]; exact Nat.le_refl _) : Step [] w [] u1)) SA.out (by rw [hL.out]; exact LA9)) ?_
 rintro e u2 ⟨b1, rfl, hbl, hk1⟩
 refine ⟨_, rfl, ?_⟩
 replace BE : Hid (Below q w u2) := BE.out.trans (hbl.mono SQ.out)
 replace SQ : Hid (q ≤ u2.heap.size) := Nat.le_trans SQ.out hbl.size
 clear hbl
 cases b1 with
 | true =>
  refine lnow 2 (.bool true) (some 15) ?_
  refine lpas 3 (some 16) ?_
  refine lpas 4 (some 17) ?_
  refine lnow 5 (.bool true) (some 18) ?_
  refine lnow 6 (.bool true) (some 19) ?_
  refine lpas 7 (some 20) ?_
  refine lpas 8 (some 21) ?_
  refine lpas 9 (some 22) ?_
  refine lpas 10 (some 23) ?_
  refine lpas 11 (some 24) ?_
  refine lpas 12 (some 25) ?_
  refine lnow 13 (.bool true) (some 26) ?_
  refine ldn 14 ?_
  generalize hact : Act.put _ (some 26) _ = act
  simp only [Act.put, sA, sC, sZ] at hact
  subst hact
  go_upto_region 4 with (fail)
  refine lbeg (opsOf Tryz.f5 4) ?_
  refine lnow 0 (.bool true) (some 4) ?_
  refine ldn 1 ?_
  generalize hact : Act.put _ (some 4) _ = act
  simp only [Act.put, sA, sC, sZ] at hact
  subst hact
  go_wp2
  refine bodyPost_ret (v := .bool true) (by kernel_rfl) rfl ⟨rfl, BE.out⟩
 | false =>
  refine lnow 2 (.bool false) (some 15) ?_
  refine lnow 3 (.slice ba M bc) (some 16) ?_
  refine lcal 4 14 #[.slice ba M bc] (some 17) _ (great10_walk ys (.slice ba M bc) u2 (DB.out.step (Step.of_below BE.out (by rw [hq.out]; exact Nat.le_refl _) : Step [] w [] u2)) SB.out (by rw [hM.out]; exact LB9)) ?_
  rintro e u3 ⟨b2, rfl, hbl, hk2⟩
  refine ⟨_, rfl, ?_⟩
  replace BE : Hid (Below q w u3) := BE.out.trans (hbl.mono SQ.out)
  replace SQ : Hid (q ≤ u3.heap.size) := Nat.le_trans SQ.out hbl.size
  clear hbl
  cases b2 with
  | true =>
   refine lnow 5 (.bool true) (some 18) ?_
   refine lnow 6 (.bool true) (some 19) ?_
   refine lpas 7 (some 20) ?_
   refine lpas 8 (some 21) ?_
   refine lpas 9 (some 22) ?_
   refine lpas 10 (some 23) ?_
   refine lpas 11 (some 24) ?_
   refine lpas 12 (some 25) ?_
   refine lnow 13 (.bool true) (some 26) ?_
   refine ldn 14 ?_
   generalize hact : Act.put _ (some 26) _ = act
   simp only [Act.put, sA, sC, sZ] at hact
   subst hact
   go_upto_region 4 with (fail)
   refine lbeg (opsOf Tryz.f5 4) ?_
   refine lnow 0 (.bool true) (some 4) ?_
   refine ldn 1 ?_
   generalize hact : Act.put _ (some 4) _ = act
   simp only [Act.put, sA, sC, sZ] at hact
   subst hact
   go_wp2
   refine bodyPost_ret (v := .bool true) (by kernel_rfl) rfl ⟨rfl, BE.out⟩
  | false =>
   have K1 := Lib.hid (hk1 rfl)
   have K2 := Lib.hid (hk2 rfl)
   have k1 := K1.out.1
   have k2 := K2.out.1
   rw [hL.out] at k1
   rw [hM.out] at k2
   clear hk1 hk2
   refine lnow 5 (.bool false) (some 18) ?_
   refine lnow 6 (.bool false) (some 19) ?_
   refine lnow 7 (.slice aa L ac) (some 20) ?_
   refine lnow 8 (.int .i64 (L : Int)) (some 21) ?_
   refine lnow 9 (.slice ba M bc) (some 22) ?_
   refine lnow 10 (.int .i64 (M : Int)) (some 23) ?_
   refine lnow 11 (.int .i64 (IntKind.i64.wrap ((L : Int) + (M : Int)))) (some 24) ?_
   rw [nat_wrap (n := L + M) (by omega) (by omega)]
   refine lnow 12 (.bool (decide (60 < ((L + M : Nat) : Int)))) (some 25) ?_
   by_cases h60 : L + M ≤ 60
   rotate_left
   ·skip
    rw [decide_eq_true (show (60 : Int) < ((L + M : Nat) : Int) by omega)]
    refine lnow 13 (.bool true) (some 26) ?_
    refine ldn 14 ?_
    generalize hact : Act.put _ (some 26) _ = act
    simp only [Act.put, sA, sC, sZ] at hact
    subst hact
    go_upto_region 4 with (fail)
    refine lbeg (opsOf Tryz.f5 4) ?_
    refine lnow 0 (.bool true) (some 4) ?_
    refine ldn 1 ?_
    generalize hact : Act.put _ (some 4) _ = act
    simp only [Act.put, sA, sC, sZ] at hact
    subst hact
    go_wp2
    refine bodyPost_ret (v := .bool true) (by kernel_rfl) rfl ⟨rfl, BE.out⟩
   rw [decide_eq_false (show ¬ (60 : Int) < ((L + M : Nat) : Int) by omega)]
   refine lnow 13 (.bool false) (some 26) ?_
   refine ldn 14 ?_
   generalize hact : Act.put _ (some 26) _ = act
   simp only [Act.put, sA, sC, sZ] at hact
   subst hact
   have H60 := Lib.hid h60
   clear h60 k1 k2 LA9 LB9
   have BA : Hid (∀ d ∈ xs, BigD d) := fun d hd => (K1.out.2 d hd).big
   have BB : Hid (∀ d ∈ ys, BigD d) := fun d hd => (K2.out.2 d hd).big
   clear K1 K2
   go_upto_region 5 with (fail)
   refine lbeg (opsOf Tryz.f5 5) ?_
   refine lnow 0 (.slice aa L ac) (some 28) ?_
   refine lcal 1 15 #[.slice aa L ac] (some 29) _ (showLibrary_walk xs (.slice aa L ac) u3 (hT.below (by rw [hq.out]; exact BE.out)) (DA.out.step (Step.of_below BE.out (by rw [hq.out]; exact Nat.le_refl _) : Step [] w [] u3)) SA.out BA.out) ?_
   rintro e u4 ⟨rfl, hbl⟩
   refine ⟨_, rfl, ?_⟩
   replace BE : Hid (Below q w u4) := BE.out.trans (hbl.mono SQ.out)
   replace SQ : Hid (q ≤ u4.heap.size) := Nat.le_trans SQ.out hbl.size
   clear hbl
   obtain ⟨A, hA⟩ : ∃ y, Hid (shOk xs = y) := ⟨_, rfl⟩
   obtain ⟨X, hX⟩ : ∃ y, Hid ((if shOk xs = true then shT xs else []) = y) := ⟨_, Lib.hid rfl⟩
   rw [hX.out, hA.out]
   refine lnow 2 (.tuple #[sT X, .bool A]) (some 27) ?_
   refine lnow 3 (sT X) (some 30) ?_
   refine lnow 4 (.bool A) (some 31) ?_
   refine lnow 5 (sT X) (some 5) ?_
   refine lnow 6 (.bool A) (some 6) ?_
   refine ldn 7 ?_
   generalize hact : Act.put _ (some 6) _ = act
   simp only [Act.put, sA, sC, sZ] at hact
   subst hact
   go_upto_region 6 with (fail)
   refine lbeg (opsOf Tryz.f5 6) ?_
   refine lnow 0 (.slice ba M bc) (some 33) ?_
   refine lcal 1 15 #[.slice ba M bc] (some 34) _ (showLibrary_walk ys (.slice ba M bc) u4 (hT.below (by rw [hq.out]; exact BE.out)) (DB.out.step (Step.of_below BE.out (by rw [hq.out]; exact Nat.le_refl _) : Step [] w [] u4)) SB.out BB.out) ?_
   rintro e u5 ⟨rfl, hbl⟩
   refine ⟨_, rfl, ?_⟩
   replace BE : Hid (Below q w u5) := BE.out.trans (hbl.mono SQ.out)
   replace SQ : Hid (q ≤ u5.heap.size) := Nat.le_trans SQ.out hbl.size
   clear hbl
   obtain ⟨B, hB⟩ : ∃ y, Hid (shOk ys = y) := ⟨_, rfl⟩
   obtain ⟨Y, hY⟩ : ∃ y, Hid ((if shOk ys = true then shT ys else []) = y) := ⟨_, Lib.hid rfl⟩
   rw [hY.out, hB.out]
   refine lnow 2 (.tuple #[sT Y, .bool B]) (some 32) ?_
   refine lnow 3 (sT Y) (some 35) ?_
   refine lnow 4 (.bool B) (some 36) ?_
   refine lnow 5 (sT Y) (some 7) ?_
   refine lnow 6 (.bool B) (some 8) ?_
   refine ldn 7 ?_
   generalize hact : Act.put _ (some 8) _ = act
   simp only [Act.put, sA, sC, sZ] at hact
   subst hact
   go_upto_region 7 with (fail)
   refine lbeg (opsOf Tryz.f5 7) ?_
   have R0 := RowDs.new (w := u5) q SQ.out
   have E0 : Below u5.heap.size u5 (u5.alloc (.cells #[] 46)) := (Below.refl _ _).alloc (Nat.le_refl _) _
   obtain ⟨g, hg⟩ : ∃ y, Hid (u5.heap.size = y) := ⟨_, rfl⟩
   refine lin_value 0 (.slice (some ⟨u5.heap.size, 0, none⟩) 0 0) (some 38) _ (by kernel_rfl) (by kernel_rfl) (exec_of _ _ (by kernel_rfl) (run_build_nodc u5)) ?_
   generalize u5.alloc (.cells #[] 46) = wb at R0 E0 ⊢
   replace BE : Hid (Below q w wb) := BE.out.trans (E0.mono SQ.out)
   replace SQ : Hid (q ≤ wb.heap.size) := Nat.le_trans SQ.out E0.size
   rw [hg.out] at R0 ⊢
   clear E0
   refine lnow 1 (.slice aa L ac) (some 39) ?_
   have OWN := R0.own
   obtain ⟨v2, wc, e1, R9, e3, e5⟩ := R0.append (u := .slice aa L ac) (es := xs) (((DA.out.sub (G := [] ++ ownL (.slice (some ⟨g, 0, none⟩) 0 0)) (fun k hk => .inr (by have h8 := (OWN k (ownL_mem.1 (by simpa using hk))).1; have h9 := hq.out; omega))).step (Step.of_below BE.out (by rw [hq.out]; exact Nat.le_refl _) : Step _ w _ wb))) NA.out (by have := H60.out; have := hL.out; have := hM.out; simp only [List.length_nil]; omega) SQ.out
   refine lin_value 2 v2 (some 40) _ (by kernel_rfl) (by kernel_rfl) (exec_of (Builtin.append_ #[40, 40] 40 #[.slice (some ⟨g, 0, none⟩) 0 0, .slice aa L ac]) _ (by kernel_rfl) e1) ?_
   have EB := grown_belowP (B := q) e3 (fun g hg => (OWN g hg).1) SQ.out
   replace BE : Hid (Below q w wc) := BE.out.trans EB
   replace SQ : Hid (q ≤ wc.heap.size) := Nat.le_trans SQ.out EB.size
   have RRv2 := R9
   clear e1 e3 e5 EB OWN R9 R0
   refine lnow 3 (.slice ba M bc) (some 41) ?_
   have OWN := RRv2.own
   obtain ⟨v3, wd, e1, R9, e3, e5⟩ := RRv2.append (u := .slice ba M bc) (es := ys) (((DB.out.sub (G := [] ++ ownL (v2)) (fun k hk => .inr (by have h8 := (OWN k (ownL_mem.1 (by simpa using hk))).1; have h9 := hq.out; omega))).step (Step.of_below BE.out (by rw [hq.out]; exact Nat.le_refl _) : Step _ w _ wc))) NB.out (by have := H60.out; have := hL.out; have := hM.out; simp only [List.length_append, List.length_nil]; omega) SQ.out
   refine lin_value 4 v3 (some 42) _ (by kernel_rfl) (by kernel_rfl) (exec_of (Builtin.append_ #[40, 40] 40 #[v2, .slice ba M bc]) _ (by kernel_rfl) e1) ?_
   have EB := grown_belowP (B := q) e3 (fun g hg => (OWN g hg).1) SQ.out
   replace BE : Hid (Below q w wd) := BE.out.trans EB
   replace SQ : Hid (q ≤ wd.heap.size) := Nat.le_trans SQ.out EB.size
   have RRv3 := R9
   clear e1 e3 e5 EB OWN R9 RRv2
   have D3 : DcsAt [] wd (xs ++ ys) v3 := by have h9 := RRv3.in; rw [List.nil_append] at h9; exact h9
   clear RRv3
   refine lcal 5 15 #[v3] (some 43) _ (showLibrary_walk (xs ++ ys) v3 wd (hT.below (by rw [hq.out]; exact BE.out)) D3 (fun d hd => (List.mem_append.1 hd).elim (SA.out d) (SB.out d)) (fun d hd => (List.mem_append.1 hd).elim (BA.out d) (BB.out d))) ?_
   rintro e u6 ⟨rfl, hbl⟩
   refine ⟨_, rfl, ?_⟩
   replace BE : Hid (Below q w u6) := BE.out.trans (hbl.mono SQ.out)
   replace SQ : Hid (q ≤ u6.heap.size) := Nat.le_trans SQ.out hbl.size
   clear hbl D3
   rw [shOk_app (by have := H60.out; have := hL.out; have := hM.out; omega), shT_app, hA.out, hB.out]
   have XA := hX.out
   have XB := hY.out
   rw [hA.out] at XA
   rw [hB.out] at XB
   have LX : Hid (X.length ≤ 1000000000 ∧ Y.length ≤ 1000000000) := ⟨by rw [← hX.out]; exact shI_len DA.out (by rw [hL.out]; have := H60.out; omega), by rw [← hY.out]; exact shI_len DB.out (by rw [hM.out]; have := H60.out; omega)⟩
   cases A with
   | false =>
    cases B with
    | false =>
     rw [show (false && false) = false from rfl, if_neg Bool.false_ne_true]
     refine lnow 6 (.tuple #[sT [], .bool false]) (some 37) ?_
     refine lnow 7 (sT []) (some 44) ?_
     refine lnow 8 (.bool false) (some 45) ?_
     refine lnow 9 (sT []) (some 9) ?_
     refine lnow 10 (.bool false) (some 10) ?_
     refine ldn 11 ?_
     generalize hact : Act.put _ (some 10) _ = act
     simp only [Act.put, sA, sC, sZ] at hact
     subst hact
     go_upto_region 8 with (fail)
     refine lbeg (opsOf Tryz.f5 8) ?_
     refine lnow 0 (.bool false) (some 46) ?_
     refine lnow 1 (.bool false) (some 47) ?_
     refine lnow 2 (.bool false) (some 48) ?_
     refine lpas 3 (some 49) ?_
     refine lnow 4 (.bool false) (some 50) ?_
     refine lnow 5 (.bool false) (some 51) ?_
     refine ldn 6 ?_
     generalize hact : Act.put _ (some 51) _ = act
     simp only [Act.put, sA, sC, sZ] at hact
     subst hact
     go_upto_region 10 with (fail)
     refine lbeg (opsOf Tryz.f5 10) ?_
     refine lnow 0 (.bool false) (some 52) ?_
     refine lnow 1 (.bool true) (some 53) ?_
     refine lnow 2 (.bool true) (some 54) ?_
     refine lnow 3 (sT []) (some 55) ?_
     refine lnow 4 (.bool true) (some 56) ?_
     refine lnow 5 (.bool true) (some 57) ?_
     refine lnow 6 (.bool true) (some 58) ?_
     refine lpas 7 (some 59) ?_
     refine lpas 8 (some 60) ?_
     refine lpas 9 (some 61) ?_
     refine lpas 10 (some 62) ?_
     refine lpas 11 (some 63) ?_
     refine lpas 12 (some 64) ?_
     refine lpas 13 (some 65) ?_
     refine lpas 14 (some 66) ?_
     refine lnow 15 (.bool true) (some 67) ?_
     refine lnow 16 (.bool true) (some 4) ?_
     refine ldn 17 ?_
     generalize hact : Act.put _ (some 4) _ = act
     simp only [Act.put, sA, sC, sZ] at hact
     subst hact
     go_wp2
     refine bodyPost_ret (v := .bool true) (by kernel_rfl) rfl ⟨rfl, BE.out⟩
    | true =>
     rw [show (false && true) = false from rfl, if_neg Bool.false_ne_true]
     refine lnow 6 (.tuple #[sT [], .bool false]) (some 37) ?_
     refine lnow 7 (sT []) (some 44) ?_
     refine lnow 8 (.bool false) (some 45) ?_
     refine lnow 9 (sT []) (some 9) ?_
     refine lnow 10 (.bool false) (some 10) ?_
     refine ldn 11 ?_
     generalize hact : Act.put _ (some 10) _ = act
     simp only [Act.put, sA, sC, sZ] at hact
     subst hact
     go_upto_region 8 with (fail)
     refine lbeg (opsOf Tryz.f5 8) ?_
     refine lnow 0 (.bool false) (some 46) ?_
     refine lnow 1 (.bool false) (some 47) ?_
     refine lnow 2 (.bool false) (some 48) ?_
     refine lpas 3 (some 49) ?_
     refine lnow 4 (.bool false) (some 50) ?_
     refine lnow 5 (.bool false) (some 51) ?_
     refine ldn 6 ?_
     generalize hact : Act.put _ (some 51) _ = act
     simp only [Act.put, sA, sC, sZ] at hact
     subst hact
     go_upto_region 10 with (fail)
     refine lbeg (opsOf Tryz.f5 10) ?_
     refine lnow 0 (.bool false) (some 52) ?_
     refine lnow 1 (.bool true) (some 53) ?_
     refine lnow 2 (.bool true) (some 54) ?_
     refine lnow 3 (sT []) (some 55) ?_
     refine lnow 4 (.bool true) (some 56) ?_
     refine lnow 5 (.bool true) (some 57) ?_
     refine lnow 6 (.bool true) (some 58) ?_
     refine lpas 7 (some 59) ?_
     refine lpas 8 (some 60) ?_
     refine lpas 9 (some 61) ?_
     refine lpas 10 (some 62) ?_
     refine lpas 11 (some 63) ?_
     refine lpas 12 (some 64) ?_
     refine lpas 13 (some 65) ?_
     refine lpas 14 (some 66) ?_
     refine lnow 15 (.bool true) (some 67) ?_
     refine lnow 16 (.bool true) (some 4) ?_
     refine ldn 17 ?_
     generalize hact : Act.put _ (some 4) _ = act
     simp only [Act.put, sA, sC, sZ] at hact
     subst hact
     go_wp2
     refine bodyPost_ret (v := .bool true) (by kernel_rfl) rfl ⟨rfl, BE.out⟩
   | true =>
    cases B with
    | false =>
     rw [show (true && false) = false from rfl, if_neg Bool.false_ne_true]
     refine lnow 6 (.tuple #[sT [], .bool false]) (some 37) ?_
     refine lnow 7 (sT []) (some 44) ?_
     refine lnow 8 (.bool false) (some 45) ?_
     refine lnow 9 (sT []) (some 9) ?_
     refine lnow 10 (.bool false) (some 10) ?_
     refine ldn 11 ?_
     generalize hact : Act.put _ (some 10) _ = act
     simp only [Act.put, sA, sC, sZ] at hact
     subst hact
     go_upto_region 8 with (fail)
     refine lbeg (opsOf Tryz.f5 8) ?_
     refine lnow 0 (.bool false) (some 46) ?_
     refine lnow 1 (.bool true) (some 47) ?_
     refine lnow 2 (.bool true) (some 48) ?_
     refine lnow 3 (.bool false) (some 49) ?_
     refine lnow 4 (.bool false) (some 50) ?_
     refine lnow 5 (.bool false) (some 51) ?_
     refine ldn 6 ?_
     generalize hact : Act.put _ (some 51) _ = act
     simp only [Act.put, sA, sC, sZ] at hact
     subst hact
     go_upto_region 10 with (fail)
     refine lbeg (opsOf Tryz.f5 10) ?_
     refine lnow 0 (.bool false) (some 52) ?_
     refine lnow 1 (.bool true) (some 53) ?_
     refine lnow 2 (.bool true) (some 54) ?_
     refine lnow 3 (sT []) (some 55) ?_
     refine lnow 4 (.bool true) (some 56) ?_
     refine lnow 5 (.bool true) (some 57) ?_
     refine lnow 6 (.bool true) (some 58) ?_
     refine lpas 7 (some 59) ?_
     refine lpas 8 (some 60) ?_
     refine lpas 9 (some 61) ?_
     refine lpas 10 (some 62) ?_
     refine lpas 11 (some 63) ?_
     refine lpas 12 (some 64) ?_
     refine lpas 13 (some 65) ?_
     refine lpas 14 (some 66) ?_
     refine lnow 15 (.bool true) (some 67) ?_
     refine lnow 16 (.bool true) (some 4) ?_
     refine ldn 17 ?_
     generalize hact : Act.put _ (some 4) _ = act
     simp only [Act.put, sA, sC, sZ] at hact
     subst hact
     go_wp2
     refine bodyPost_ret (v := .bool true) (by kernel_rfl) rfl ⟨rfl, BE.out⟩
    | true =>
     rw [if_pos rfl] at XA XB
     rw [Bool.and_self, if_pos rfl, XA, XB]
     refine lnow 6 (.tuple #[sT (X ++ Y), .bool true]) (some 37) ?_
     refine lnow 7 (sT (X ++ Y)) (some 44) ?_
     refine lnow 8 (.bool true) (some 45) ?_
     refine lnow 9 (sT (X ++ Y)) (some 9) ?_
     refine lnow 10 (.bool true) (some 10) ?_
     refine ldn 11 ?_
     generalize hact : Act.put _ (some 10) _ = act
     simp only [Act.put, sA, sC, sZ] at hact
     subst hact
     go_upto_region 8 with (fail)
     refine lbeg (opsOf Tryz.f5 8) ?_
     refine lnow 0 (.bool true) (some 46) ?_
     refine lnow 1 (.bool true) (some 47) ?_
     refine lnow 2 (.bool true) (some 48) ?_
     refine lnow 3 (.bool true) (some 49) ?_
     refine lnow 4 (.bool true) (some 50) ?_
     refine lnow 5 (.bool false) (some 51) ?_
     refine ldn 6 ?_
     generalize hact : Act.put _ (some 51) _ = act
     simp only [Act.put, sA, sC, sZ] at hact
     subst hact
     go_upto_region 10 with (fail)
     refine lbeg (opsOf Tryz.f5 10) ?_
     refine lnow 0 (.bool true) (some 52) ?_
     refine lnow 1 (.bool false) (some 53) ?_
     refine lnow 2 (.bool false) (some 54) ?_
     refine lpas 3 (some 55) ?_
     refine lpas 4 (some 56) ?_
     refine lnow 5 (.bool false) (some 57) ?_
     refine lnow 6 (.bool false) (some 58) ?_
     refine lnow 7 (.bool true) (some 59) ?_
     refine lnow 8 (.bool true) (some 60) ?_
     refine lnow 9 (sT (X ++ Y)) (some 61) ?_
     refine lnow 10 (sT X) (some 62) ?_
     refine lnow 11 (sT Y) (some 63) ?_
     refine lnowP 12 (sT (X ++ Y)) (some 64) (exec_catS 9 9 (.tmp 62) (.tmp 63) (by kernel_rfl) X Y (by kernel_rfl) (by kernel_rfl) (by have := LX.out.1; omega) (by have := LX.out.2; omega)) ?_
     refine lnowP 13 (.bool (decide ((X ++ Y) = X ++ Y))) (some 65) (exec_sEq 9 9 (.tmp 61) (.tmp 64) (by kernel_rfl) _ _ (by kernel_rfl) (by kernel_rfl) (fun w => by kernel_rfl)) ?_
     rw [decide_eq_true rfl]
     refine lnow 14 (.bool true) (some 66) ?_
     refine lnow 15 (.bool true) (some 67) ?_
     refine lnow 16 (.bool true) (some 4) ?_
     refine ldn 17 ?_
     generalize hact : Act.put _ (some 4) _ = act
     simp only [Act.put, sA, sC, sZ] at hact
     subst hact
     go_wp2
     refine bodyPost_ret (v := .bool true) (by kernel_rfl) rfl ⟨rfl, BE.out⟩
end Go.Proofs.YtmceocgddaaohaaGreatDoor
