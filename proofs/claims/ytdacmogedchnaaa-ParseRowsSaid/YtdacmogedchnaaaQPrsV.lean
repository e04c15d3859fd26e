/- The law ParseRows. -/
import Derived.Test.YtdacmogedchnaaaQGenT
import Derived.Test.YtdacmogedchnaaaQPrsS
import Derived.Test.YtdacmogedchnaaaQPrsU
namespace Go.Proofs.Ytdacmogedchnaaa
open Go Go.RowKit
set_option maxRecDepth 100000
/-- A row of texts. -/
def strP (_ : List Nat) (_ : World) (x : List UInt8) (cs : List Value) : Prop := cs = [sT x]
theorem strG : PredG strP 1 := ⟨fun _ _ _ h => h, fun _ _ _ h => h, fun h => by rw [h]; rfl, fun h u hu => by rw [h] at hu; rw [List.mem_singleton.1 hu]; rfl⟩
theorem cellsS_eq {F : List Nat} {w : World} : ∀ {xs : List (List UInt8)} {ds : List (List Value)}, CellsG strP F w xs ds → ds = xs.map fun x => [sT x]
 | [], [], _ => rfl
 | _ :: _, _ :: _, h => by
  obtain ⟨h1, h2⟩ := h
  rw [cellsS_eq h2, h1]
  rfl
 | [], _ :: _, h => h.elim
 | _ :: _, [], h => h.elim
theorem cellsS_any {F G : List Nat} {w w' : World} : ∀ {xs : List (List UInt8)} {ds : List (List Value)}, CellsG strP F w xs ds → CellsG strP G w' xs ds
 | [], [], _ => trivial
 | _ :: _, _ :: _, h => ⟨h.1, cellsS_any h.2⟩
 | [], _ :: _, h => h.elim
 | _ :: _, [], h => h.elim
theorem RowG.zero {m g : Nat} {w : World} (hb : Blk w g 9 []) (hm : m ≤ g) : RowG strP 1 9 m w (.slice (some ⟨g, 0, none⟩) 0 0) [] := ⟨[], ⟨rfl, .inr ⟨g, 0, #[], rfl, hm, hb, Nat.le_refl _, by unfold maxLen; omega, rfl, rfl⟩⟩, trivial⟩
theorem RowG.some' {m : Nat} {w : World} {v : Value} {xs : List (List UInt8)} (h : RowG strP 1 9 m w v xs) (hx : xs ≠ []) : ∃ g c, v = .slice (some ⟨g, 0, none⟩) xs.length c := by
 obtain ⟨ds, ⟨-, h1⟩, -⟩ := h
 rcases h1 with ⟨-, h2⟩ | ⟨g, cap, cur, rfl, -⟩
 ·exact absurd (List.eq_nil_of_length_eq_zero h2) hx
 ·exact ⟨g, cap, rfl⟩
theorem RowG.strs {m : Nat} {w : World} {v : Value} {xs : List (List UInt8)} (h : RowG strP 1 9 m w v xs) (hn : ∃ g c, v = .slice (some ⟨g, 0, none⟩) xs.length c) : StrsAt w v xs := by
 obtain ⟨g, c, rfl⟩ := hn
 obtain ⟨ds, ⟨-, h1⟩, h2⟩ := h
 obtain rfl := cellsS_eq h2
 rcases h1 with ⟨e, -⟩ | ⟨g2, cap, cur, e, -, hb, hc, -, hs, ht⟩
 ·cases e
 ·obtain ⟨e1, -, e3⟩ := Value.slice.inj e
  have e4 := Option.some.inj e1
  obtain rfl : g = g2 := by injection e4
  refine ⟨g, 0, c, rfl, fun j u hj => ?_⟩
  have hB : Blk w g 9 cur.toList := by unfold Blk; simpa using hb
  refine hB.cell ?_
  have h5 : (cur.toList.take (xs.length * 1))[j]? = some u := by
   rw [ht, show (xs.map fun x => [sT x]).flatten = xs.map strT from ?_]
   ·exact hj
   ·clear hj ht hs hc hb h2 e
    induction xs with
    | nil => rfl
    | cons a xs ih => rw [List.map_cons, List.flatten_cons, ih, List.map_cons]; rfl
  rw [List.getElem?_take] at h5
  split at h5
  ·rw [Nat.zero_add]; exact h5
  ·cases h5
/-- Two rows of texts of the call's own, in two blocks. -/
structure TwoS (m : Nat) (w : World) (v : Value) (xs : List (List UInt8)) (u : Value) (ys : List (List UInt8)) : Prop where
 a : RowG strP 1 9 m w v xs
 b : RowG strP 1 9 m w u ys
 na : ∃ g c, v = .slice (some ⟨g, 0, none⟩) xs.length c
 nb : ∃ g c, u = .slice (some ⟨g, 0, none⟩) ys.length c
 ne : v.ownBlock ≠ u.ownBlock
theorem TwoS.symm {m : Nat} {w : World} {v u : Value} {xs ys : List (List UInt8)} (h : TwoS m w v xs u ys) : TwoS m w u ys v xs := ⟨h.b, h.a, h.nb, h.na, h.ne.symm⟩
theorem TwoS.start {m g k : Nat} {w : World} (h1 : Blk w g 9 []) (h2 : Blk w k 9 []) (hg : m ≤ g) (hk : m ≤ k) (hn : g ≠ k) : TwoS m w (.slice (some ⟨g, 0, none⟩) 0 0) [] (.slice (some ⟨k, 0, none⟩) 0 0) [] :=
 ⟨RowG.zero h1 hg, RowG.zero h2 hk, ⟨g, 0, rfl⟩, ⟨k, 0, rfl⟩, fun e => hn (by injection e)⟩
theorem RowG.off {m : Nat} {w w' : World} {v u u' : Value} {xs : List (List UInt8)} (h : RowG strP 1 9 m w v xs) (e3 : w.grownBy w' u.ownBlock) (e5 : u'.ownBlock = u.ownBlock ∨ u'.ownBlock = some w.heap.size) (hn : u.ownBlock ≠ v.ownBlock) : RowG strP 1 9 m w' v xs := by
 obtain ⟨ds, h1, h2⟩ := h
 have hs := grown_step (m := 0) e3 e5
 exact ⟨ds, own_step h1 hs (fun g hg hc => by
  rcases List.mem_append.1 hc with hc | hc
  ·have := List.mem_range.1 hc
   omega
  ·exact hn ((ownL_mem.1 hc).trans hg.symm)), cellsS_any h2⟩
theorem infoStrP : (Try.prog.info? 9).map (fun i => (i.zero, i.size, i.bytes)) = some (some (sT []), 1, 16) := by kernel_rfl
theorem run_build_str1 (x : List UInt8) (w : World) : (Instr.buildSlice 42 1 #[(0, sT x)]).run Try.prog w = .ok (.slice (some ⟨w.heap.size, 0, none⟩) 1 1) (w.alloc (.cells ([sT x] : List Value).toArray 9)) := by kernel_rfl
theorem run_build_str0 (w : World) : (Instr.buildSlice 42 0 #[]).run Try.prog w = .ok (.slice (some ⟨w.heap.size, 0, none⟩) 0 0) (w.alloc (.cells ([] : List Value).toArray 9)) := by kernel_rfl
theorem lin_two {ops : Array Oper} {Q : Exit → Act → World → Prop} {a : Act} {w : World} (i : Nat) (d1 d2 : Option Tmp) (x : List UInt8) (v u : Value) (xs ys : List (List UInt8)) (m : Nat) (h : TwoS m w v xs u ys) (hn : xs.length ≤ 1000000) (hm : m ≤ w.heap.size)
    (hi : (ops[i]?.isSome && Region.wanted (opAt ops i) (yielded ops a.tmps)) = true) (hd : (opAt ops i).dst = d1) (hr1 : execOp a.eval (opAt ops i) = (Instr.buildSlice 42 1 #[(0, sT x)] >>= fun x => pure (.value x)))
    (hk : ∀ q : Nat, (ops[i + 1]?.isSome && Region.wanted (opAt ops (i + 1)) (yielded ops (a.put d1 (.slice (some ⟨q, 0, none⟩) 1 1)).tmps)) = true) (hd2 : (opAt ops (i + 1)).dst = d2)
    (hr2 : ∀ q : Nat, execOp (a.put d1 (.slice (some ⟨q, 0, none⟩) 1 1)).eval (opAt ops (i + 1)) = (Builtin.append_ #[42, 42] 42 #[v, .slice (some ⟨q, 0, none⟩) 1 1] >>= fun x => pure (.value x)))
    (hq : ∀ (q : Nat) v' w', TwoS m w' v' (xs ++ [x]) u ys → Below m w w' → wpFrom Try.prog ops Q (i + 1 + 1) ((a.put d1 (.slice (some ⟨q, 0, none⟩) 1 1)).put d2 v') w') : wpFrom Try.prog ops Q i a w := by
  obtain ⟨i0, hi0, hz0, hz1, hz2⟩ := info_parts infoStrP
  have hb : Below w.heap.size w (w.alloc (.cells ([sT x] : List Value).toArray 9)) := (Below.refl _ _).alloc (Nat.le_refl _) _
  refine lin_value i (.slice (some ⟨w.heap.size, 0, none⟩) 1 1) d1 (w.alloc (.cells ([sT x] : List Value).toArray 9)) hi hd (exec_of _ _ hr1 (run_build_str1 x w)) ?_
  obtain ⟨v', w', e1, e2, e3, e5⟩ := RowG.append (P := strP) (x := x) strG Try.underlying42 hi0 hz0 hz1 hz2 (by decide) (by decide) (by decide) (RowG.low strG h.a hb) (Blk.new w 9 [sT x]) rfl (Nat.le_trans (Nat.mul_le_mul (Nat.succ_le_succ hn) (by decide : 16 ≤ 1000)) (by decide)) (by decide) (Nat.le_trans hm hb.size)
  refine lin_value (i + 1) v' d2 w' (hk _) hd2 (exec_of _ _ (hr2 _) e1) (hq _ v' w' ⟨e2, (RowG.low strG h.b hb).off e3 e5 h.ne, e2.some' (by simp), h.nb, fun e => ?_⟩ ?_)
  · rcases e5 with e5 | e5
    · exact h.ne (e5.symm.trans e)
    · have := (h.b.own _ (e.symm.trans e5)).2
      have := hb.size
      omega
  · exact (hb.mono hm).grown e3 (Nat.le_trans hm hb.size) (fun k hk => (h.a.own k hk).1)
theorem take_snoc' {P L : List (List UInt8)} {k : Nat} {x : List UInt8} (h : L[k]? = some x) : P ++ L.take k ++ [x] = P ++ L.take (k + 1) := by
 rw [List.take_add_one, h, List.append_assoc]
 rfl
theorem take_all' {P L : List (List UInt8)} {k : Nat} (h : L.length = k) : P ++ L.take k = P ++ L := by rw [List.take_of_length_le (by omega)]
theorem take_len' {P L : List (List UInt8)} {k : Nat} (h : P.length ≤ 64) (hk : k ≤ 128) : (P ++ L.take k).length ≤ 1000000 := by
 rw [List.length_append, List.length_take]
 omega
theorem same_yes {a b : List (List UInt8)} {u v : Value} {w : World} (h1 : StrsAt w u a) (h2 : StrsAt w v b) (sa : a.length ≤ 140737488351232) (e : a = b) : Calls Try.prog 11 #[u, v] w fun e w' => e = .returned (.bool true) ∧ Below w.heap.size w w' := by
 have := sametexts_walk a b u v w h1 h2 sa
 rw [decide_eq_true e] at this
 exact this
/-- What Source answers. -/
def srcA (s : List UInt8) : List Dl × Nat × Nat := match readA sourceP s with
 | .ok ds => (ds, 0, 0)
 | .error (p, c) => ([], p, c)
theorem srcA_ok {s : List UInt8} {ds : List Dl} (h : readA sourceP s = .ok ds) : srcA s = (ds, 0, 0) := by unfold srcA; rw [h]
theorem srcA_no {s : List UInt8} {p c : Nat} (h : readA sourceP s = .error (p, c)) : srcA s = ([], p, c) := by unfold srcA; rw [h]
theorem Source_any (s : List UInt8) (w : World) : Calls Try.prog 7 #[sT s] w fun e w' => ∃ v, e = .returned (.tuple #[v, .int .i64 ((srcA s).2.1 : Int), .int .i64 ((srcA s).2.2 : Int)]) ∧ SlG (DlAt (lookK s)) 18 [] w' v (srcA s).1 ∧ Below w.heap.size w w' := by
 refine (Source_walk s w).mono fun e w' h => ?_
 unfold RdPost at h
 unfold srcA
 cases hr : readA sourceP s with
 | error pc =>
  obtain ⟨p, c⟩ := pc
  rw [hr] at h
  exact ⟨_, h.2, SlG.nil _ _ _ _, h.1⟩
 | ok ds =>
  rw [hr] at h
  obtain ⟨hb, v, he, hv⟩ := h
  exact ⟨v, he, SlG.sub (dlG _) hv (fun k hk => by cases hk), hb⟩
set_option maxHeartbeats 16000000 in
theorem rows_mainY (a b : List UInt8) (w : World) : Calls Try.prog 4 #[sT a, sT b] w fun e w' => e = .returned (.bool true) ∧ Below w.heap.size w w' := by
 obtain ⟨q, hq⟩ : ∃ q, Hid (w.heap.size = q) := ⟨_, rfl⟩
 rw [hq.out]
 obtain ⟨N, hNl⟩ : ∃ N, Hid (a.length = N) := ⟨_, rfl⟩
 obtain ⟨O, hOl⟩ : ∃ O, Hid (b.length = O) := ⟨_, rfl⟩
 go_enter Try.func4, Try.ntmps4
 go_upto_region 0 with (fail)
 refine lbeg (opsOf Try.f4 0) ?_
 refine lnow 0 (.bool false) (some 4) ?_
 refine ldn 1 ?_
 generalize hact : Act.put _ (some 4) _ = act
 simp only [Act.put, sA, sC, sZ] at hact
 subst hact
 go_upto_region 1 with (fail)
 refine lbeg (opsOf Try.f4 1) ?_
 refine lcal 0 5 #[] (some 19) _ (alive12_walk w) ?_
 rintro e w1 ⟨rfl, hb1⟩
 refine ⟨_, rfl, ?_⟩
 rw [hq.out] at hb1
 have SQ : Hid (q ≤ w1.heap.size) := by have := hb1.size; rw [hq.out] at this; exact this
 have BE := Lib.hid hb1
 clear hb1
 refine lnow 1 (.bool false) (some 20) ?_
 refine ldn 2 ?_
 generalize hact : Act.put _ (some 20) _ = act
 simp only [Act.put, sA, sC, sZ] at hact
 subst hact
 by_cases h1 : (N : Int) > 2000
 ·skip
  go_upto_region 3 with (fail)
  refine lbeg (opsOf Try.f4 3) ?_
  refine lnow 0 (sT a) (some 21) ?_
  refine lnow 1 (.int .i64 (a.length : Int)) (some 22) ?_
  rw [hNl.out]
  refine lnow 2 (.bool (decide ((N : Int) > 2000))) (some 23) ?_
  rw [decide_eq_true (h1)]
  refine lnow 3 (.bool true) (some 24) ?_
  refine lpas 4 (some 25) ?_
  refine lpas 5 (some 26) ?_
  refine lpas 6 (some 27) ?_
  refine lnow 7 (.bool true) (some 28) ?_
  refine ldn 8 ?_
  generalize hact : Act.put _ (some 28) _ = act
  simp only [Act.put, sA, sC, sZ] at hact
  subst hact
  go_wp2
  go_ret
  exact ⟨rfl, BE.out⟩
 by_cases h2 : (O : Int) > 2000
 ·skip
  go_upto_region 3 with (fail)
  refine lbeg (opsOf Try.f4 3) ?_
  refine lnow 0 (sT a) (some 21) ?_
  refine lnow 1 (.int .i64 (a.length : Int)) (some 22) ?_
  rw [hNl.out]
  refine lnow 2 (.bool (decide ((N : Int) > 2000))) (some 23) ?_
  rw [decide_eq_false (h1)]
  refine lnow 3 (.bool false) (some 24) ?_
  refine lnow 4 (sT b) (some 25) ?_
  refine lnow 5 (.int .i64 (b.length : Int)) (some 26) ?_
  rw [hOl.out]
  refine lnow 6 (.bool (decide ((O : Int) > 2000))) (some 27) ?_
  rw [decide_eq_true (h2)]
  refine lnow 7 (.bool true) (some 28) ?_
  refine ldn 8 ?_
  generalize hact : Act.put _ (some 28) _ = act
  simp only [Act.put, sA, sC, sZ] at hact
  subst hact
  go_wp2
  go_ret
  exact ⟨rfl, BE.out⟩
 go_upto_region 3 with (fail)
 refine lbeg (opsOf Try.f4 3) ?_
 refine lnow 0 (sT a) (some 21) ?_
 refine lnow 1 (.int .i64 (a.length : Int)) (some 22) ?_
 rw [hNl.out]
 refine lnow 2 (.bool (decide ((N : Int) > 2000))) (some 23) ?_
 rw [decide_eq_false (h1)]
 refine lnow 3 (.bool false) (some 24) ?_
 refine lnow 4 (sT b) (some 25) ?_
 refine lnow 5 (.int .i64 (b.length : Int)) (some 26) ?_
 rw [hOl.out]
 refine lnow 6 (.bool (decide ((O : Int) > 2000))) (some 27) ?_
 rw [decide_eq_false (h2)]
 refine lnow 7 (.bool false) (some 28) ?_
 refine ldn 8 ?_
 generalize hact : Act.put _ (some 28) _ = act
 simp only [Act.put, sA, sC, sZ] at hact
 subst hact
 have N2 : Hid (N ≤ 2000 ∧ O ≤ 2000) := ⟨by omega, by omega⟩
 clear h1 h2
 have n2 := N2.out
 have RW := Lib.hid (rows_plain a b (by have := hNl.out; omega) (by have := hOl.out; omega))
 obtain ⟨⟨xs, p1, e1⟩, hR1⟩ : ∃ R, Hid (srcA a = R) := ⟨_, rfl⟩
 obtain ⟨⟨ys, p2, e2⟩, hR2⟩ : ∃ R, Hid (srcA b = R) := ⟨_, rfl⟩
 obtain ⟨⟨zs, p3, e3⟩, hR3⟩ : ∃ R, Hid (srcA (a ++ 10 :: b) = R) := ⟨_, rfl⟩
 obtain ⟨X, hX⟩ : ∃ X, Hid (xs.length = X) := ⟨_, rfl⟩
 obtain ⟨Y, hY⟩ : ∃ Y, Hid (ys.length = Y) := ⟨_, rfl⟩
 obtain ⟨Z, hZ⟩ : ∃ Z, Hid (zs.length = Z) := ⟨_, rfl⟩
 go_upto_region 5 with (fail)
 refine lbeg (opsOf Try.f4 5) ?_
 refine lnow 0 (sT a) (some 30) ?_
 have C := Source_any (a) w1
 rw [hR1.out] at C
 dsimp only at C
 refine lcal 1 7 #[sT (a)] (some 31) _ (C) ?_
 rintro e0 w2 ⟨v1, rfl, ho1, hb2⟩
 refine ⟨_, rfl, ?_⟩
 replace BE : Hid (Below q w w2) := BE.out.trans (hb2.mono SQ.out)
 replace SQ : Hid (q ≤ w2.heap.size) := Nat.le_trans SQ.out hb2.size
 have Sx := Lib.hid ho1
 obtain ⟨xa, xc, hv⟩ := ho1.slice
 subst hv
 rw [hX.out] at Sx ⊢
 clear ho1 hb2 C
 refine lnow 2 (.tuple #[.slice xa X xc, .int .i64 (p1 : Int), .int .i64 (e1 : Int)]) (some 29) ?_
 refine lnow 3 (.slice xa X xc) (some 32) ?_
 refine lnow 4 (.int .i64 (p1 : Int)) (some 33) ?_
 refine lnow 5 (.int .i64 (e1 : Int)) (some 34) ?_
 refine lnow 6 (.slice xa X xc) (some 5) ?_
 refine lnow 7 (.int .i64 (p1 : Int)) (some 6) ?_
 refine lnow 8 (.int .i64 (e1 : Int)) (some 7) ?_
 refine ldn 9 ?_
 generalize hact : Act.put _ (some 7) _ = act
 simp only [Act.put, sA, sC, sZ] at hact
 subst hact
 go_upto_region 6 with (fail)
 refine lbeg (opsOf Try.f4 6) ?_
 refine lnow 0 (sT b) (some 36) ?_
 have C := Source_any (b) w2
 rw [hR2.out] at C
 dsimp only at C
 refine lcal 1 7 #[sT (b)] (some 37) _ (C) ?_
 rintro e0 w3 ⟨v1, rfl, ho1, hb2⟩
 refine ⟨_, rfl, ?_⟩
 replace BE : Hid (Below q w w3) := BE.out.trans (hb2.mono SQ.out)
 replace SQ : Hid (q ≤ w3.heap.size) := Nat.le_trans SQ.out hb2.size
 replace Sx := Lib.hid (SlG.below (dlG _) Sx.out hb2)
 have Sy := Lib.hid ho1
 obtain ⟨ya, yc, hv⟩ := ho1.slice
 subst hv
 rw [hY.out] at Sy ⊢
 clear ho1 hb2 C
 refine lnow 2 (.tuple #[.slice ya Y yc, .int .i64 (p2 : Int), .int .i64 (e2 : Int)]) (some 35) ?_
 refine lnow 3 (.slice ya Y yc) (some 38) ?_
 refine lnow 4 (.int .i64 (p2 : Int)) (some 39) ?_
 refine lnow 5 (.int .i64 (e2 : Int)) (some 40) ?_
 refine lnow 6 (.slice ya Y yc) (some 8) ?_
 refine lnow 7 (.int .i64 (p2 : Int)) (some 9) ?_
 refine lnow 8 (.int .i64 (e2 : Int)) (some 10) ?_
 refine ldn 9 ?_
 generalize hact : Act.put _ (some 10) _ = act
 simp only [Act.put, sA, sC, sZ] at hact
 subst hact
 go_upto_region 7 with (fail)
 refine lbeg (opsOf Try.f4 7) ?_
 refine lnow 0 (sT a) (some 42) ?_
 refine lnowP 1 (sT (a ++ [10])) (some 43) (exec_sCat (.tmp 42) (.const (.string ⟨#[10]⟩)) 9 (by kernel_rfl) a [10] (by kernel_rfl) (by kernel_rfl) (by rw [hNl.out]; omega) (by decide)) ?_
 refine lnow 2 (sT b) (some 44) ?_
 refine lnowP 3 (sT ((a ++ [10]) ++ b)) (some 45) (exec_sCat (.tmp 43) (.tmp 44) 9 (by kernel_rfl) (a ++ [10]) b (by kernel_rfl) (by kernel_rfl) (by rw [List.length_append, hNl.out]; simp; omega) (by rw [hOl.out]; omega)) ?_
 rw [show (a ++ [10]) ++ b = a ++ 10 :: b by simp]
 have C := Source_any (a ++ 10 :: b) w3
 rw [hR3.out] at C
 dsimp only at C
 refine lcal 4 7 #[sT (a ++ 10 :: b)] (some 46) _ (C) ?_
 rintro e0 w4 ⟨v1, rfl, ho1, hb2⟩
 refine ⟨_, rfl, ?_⟩
 replace BE : Hid (Below q w w4) := BE.out.trans (hb2.mono SQ.out)
 replace SQ : Hid (q ≤ w4.heap.size) := Nat.le_trans SQ.out hb2.size
 replace Sx := Lib.hid (SlG.below (dlG _) Sx.out hb2)
 replace Sy := Lib.hid (SlG.below (dlG _) Sy.out hb2)
 have Sz := Lib.hid ho1
 obtain ⟨za, zc, hv⟩ := ho1.slice
 subst hv
 rw [hZ.out] at Sz ⊢
 clear ho1 hb2 C
 refine lnow 5 (.tuple #[.slice za Z zc, .int .i64 (p3 : Int), .int .i64 (e3 : Int)]) (some 41) ?_
 refine lnow 6 (.slice za Z zc) (some 47) ?_
 refine lnow 7 (.int .i64 (p3 : Int)) (some 48) ?_
 refine lnow 8 (.int .i64 (e3 : Int)) (some 49) ?_
 refine lnow 9 (.slice za Z zc) (some 11) ?_
 refine lnow 10 (.int .i64 (p3 : Int)) (some 12) ?_
 refine lnow 11 (.int .i64 (e3 : Int)) (some 13) ?_
 refine ldn 12 ?_
 generalize hact : Act.put _ (some 13) _ = act
 simp only [Act.put, sA, sC, sZ] at hact
 subst hact
 have RP := RW.out
 clear RW
 cases hsa : readA sourceP a with
 | error pc =>
  obtain ⟨p, c⟩ := pc
  rw [hsa] at RP
  have hc : c ≠ 0 := RP
  clear RP
  have E := hR1.out.symm.trans (srcA_no hsa)
  simp only [Prod.mk.injEq] at E
  obtain ⟨E1, E2, E3⟩ := E
  have E4 := E1.symm
  have E5 := E2.symm
  have E6 := E3.symm
  clear E1 E2 E3
  subst E4
  subst E5
  subst E6
  obtain rfl : X = 0 := hX.out.symm
  clear hsa hR1 hR2 hR3 Sx Sy Sz hX hY hZ
  go_upto_region 8 with (fail)
  refine lbeg (opsOf Try.f4 8) ?_
  refine lnow 0 (.int .i64 (c : Int)) (some 50) ?_
  refine lnow 1 (.bool (!decide ((c : Int) = 0))) (some 51) ?_
  rw [decide_eq_false (by omega)]
  rw [show (!false) = true from rfl]
  refine ldn 2 ?_
  generalize hact : Act.put _ (some 51) _ = act
  simp only [Act.put, sA, sC, sZ] at hact
  subst hact
  go_upto_region 9 with (fail)
  refine lbeg (opsOf Try.f4 9) ?_
  refine lnow 0 (.slice xa 0 xc) (some 52) ?_
  refine lnow 1 (.int .i64 (0 : Int)) (some 53) ?_
  refine lnow 2 (.bool (decide ((0 : Int) = 0))) (some 54) ?_
  rw [decide_eq_true (rfl)]
  refine lnow 3 (.bool true) (some 4) ?_
  refine ldn 4 ?_
  generalize hact : Act.put _ (some 4) _ = act
  simp only [Act.put, sA, sC, sZ] at hact
  subst hact
  go_wp2
  go_ret
  exact ⟨rfl, BE.out⟩
 | ok ds =>
  rw [hsa] at RP
  dsimp only at RP
  cases hsb : readA sourceP b with
  | error pc =>
   obtain ⟨p, c⟩ := pc
   rw [hsb] at RP
   obtain ⟨hc, hp, p', c', hsc, hcc⟩ := RP
   have E := hR1.out.symm.trans (srcA_ok hsa)
   simp only [Prod.mk.injEq] at E
   obtain ⟨E1, E2, E3⟩ := E
   have E4 := E1.symm
   have E5 := E2.symm
   have E6 := E3.symm
   clear E1 E2 E3
   subst E4
   subst E5
   subst E6
   have E := hR2.out.symm.trans (srcA_no hsb)
   simp only [Prod.mk.injEq] at E
   obtain ⟨E1, E2, E3⟩ := E
   have E4 := E1.symm
   have E5 := E2.symm
   have E6 := E3.symm
   clear E1 E2 E3
   subst E4
   subst E5
   subst E6
   have E := hR3.out.symm.trans (srcA_no hsc)
   simp only [Prod.mk.injEq] at E
   obtain ⟨E1, E2, E3⟩ := E
   have E4 := E1.symm
   have E5 := E2.symm
   have E6 := E3.symm
   clear E1 E2 E3
   subst E4
   subst E5
   subst E6
   obtain rfl : Z = 0 := hZ.out.symm
   rw [hNl.out] at hcc
   clear hsa hsb hsc hR1 hR2 hR3 Sx Sy Sz hX hY hZ
   go_upto_region 8 with (fail)
   refine lbeg (opsOf Try.f4 8) ?_
   refine lnow 0 (.int .i64 0) (some 50) ?_
   refine lnow 1 (.bool false) (some 51) ?_
   refine ldn 2 ?_
   generalize hact : Act.put _ (some 51) _ = act
   simp only [Act.put, sA, sC, sZ] at hact
   subst hact
   go_upto_region 10 with (fail)
   refine lbeg (opsOf Try.f4 10) ?_
   refine lnow 0 (.int .i64 (c : Int)) (some 55) ?_
   refine lnow 1 (.bool (!decide ((c : Int) = 0))) (some 56) ?_
   rw [decide_eq_false (by omega)]
   rw [show (!false) = true from rfl]
   refine ldn 2 ?_
   generalize hact : Act.put _ (some 56) _ = act
   simp only [Act.put, sA, sC, sZ] at hact
   subst hact
   by_cases h14 : (c' : Int) = 14
   ·skip
    go_upto_region 11 with (fail)
    refine lbeg (opsOf Try.f4 11) ?_
    refine lnow 0 (.slice za 0 zc) (some 57) ?_
    refine lnow 1 (.int .i64 (0 : Int)) (some 58) ?_
    refine lnow 2 (.bool (decide ((0 : Int) = 0))) (some 59) ?_
    rw [decide_eq_true (rfl)]
    refine lnow 3 (.bool true) (some 60) ?_
    refine lnow 4 (.int .i64 (c' : Int)) (some 61) ?_
    refine lnow 5 (.bool (decide ((c' : Int) = 14))) (some 62) ?_
    rw [decide_eq_true (h14)]
    refine lnow 6 (.bool true) (some 63) ?_
    refine lpas 7 (some 64) ?_
    refine lpas 8 (some 65) ?_
    refine lpas 9 (some 66) ?_
    refine lpas 10 (some 67) ?_
    refine lpas 11 (some 68) ?_
    refine lpas 12 (some 69) ?_
    refine lpas 13 (some 70) ?_
    refine lpas 14 (some 71) ?_
    refine lpas 15 (some 72) ?_
    refine lpas 16 (some 73) ?_
    refine lpas 17 (some 74) ?_
    refine lpas 18 (some 75) ?_
    refine lnow 19 (.bool true) (some 76) ?_
    refine lnow 20 (.bool true) (some 77) ?_
    refine lnow 21 (.bool true) (some 4) ?_
    refine ldn 22 ?_
    generalize hact : Act.put _ (some 4) _ = act
    simp only [Act.put, sA, sC, sZ] at hact
    subst hact
    go_wp2
    go_ret
    exact ⟨rfl, BE.out⟩
   obtain ⟨rfl, rfl⟩ : c' = c ∧ p' = p + (N + 1) := hcc.resolve_left (by omega)
   clear hcc
   go_upto_region 11 with (fail)
   refine lbeg (opsOf Try.f4 11) ?_
   refine lnow 0 (.slice za 0 zc) (some 57) ?_
   refine lnow 1 (.int .i64 (0 : Int)) (some 58) ?_
   refine lnow 2 (.bool (decide ((0 : Int) = 0))) (some 59) ?_
   rw [decide_eq_true (rfl)]
   refine lnow 3 (.bool true) (some 60) ?_
   refine lnow 4 (.int .i64 (c' : Int)) (some 61) ?_
   refine lnow 5 (.bool (decide ((c' : Int) = 14))) (some 62) ?_
   rw [decide_eq_false (h14)]
   refine lnow 6 (.bool false) (some 63) ?_
   refine lnow 7 (.int .i64 (c' : Int)) (some 64) ?_
   refine lnow 8 (.int .i64 (c' : Int)) (some 65) ?_
   refine lnow 9 (.bool (decide ((c' : Int) = (c' : Int)))) (some 66) ?_
   rw [decide_eq_true (rfl)]
   refine lnow 10 (.bool true) (some 67) ?_
   refine lnow 11 (.int .i64 ((p + (N + 1) : Nat) : Int)) (some 68) ?_
   refine lnow 12 (.int .i64 (p : Int)) (some 69) ?_
   refine lnow 13 (sT a) (some 70) ?_
   refine lnow 14 (.int .i64 (a.length : Int)) (some 71) ?_
   rw [hNl.out]
   refine lnow 15 (.int .i64 (IntKind.i64.wrap ((p : Int) + (N : Int)))) (some 72) ?_
   rw [show IntKind.i64.wrap ((p : Int) + (N : Int)) = ((p + N : Nat) : Int) from (IntWalk.i64_in _ (by omega)).trans (by omega)]
   refine lnow 16 (.int .i64 (IntKind.i64.wrap (((p + N : Nat) : Int) + 1))) (some 73) ?_
   rw [show IntKind.i64.wrap (((p + N : Nat) : Int) + 1) = ((p + (N + 1) : Nat) : Int) from (IntWalk.i64_in _ (by omega)).trans (by omega)]
   refine lnow 17 (.bool (decide (((p + (N + 1) : Nat) : Int) = ((p + (N + 1) : Nat) : Int)))) (some 74) ?_
   rw [decide_eq_true (rfl)]
   refine lnow 18 (.bool true) (some 75) ?_
   refine lnow 19 (.bool true) (some 76) ?_
   refine lnow 20 (.bool true) (some 77) ?_
   refine lnow 21 (.bool true) (some 4) ?_
   refine ldn 22 ?_
   generalize hact : Act.put _ (some 4) _ = act
   simp only [Act.put, sA, sC, sZ] at hact
   subst hact
   go_wp2
   go_ret
   exact ⟨rfl, BE.out⟩
  | ok es =>
   rw [hsb] at RP
   obtain ⟨hl1, hl2, hbig, hsml⟩ := RP
   have E := hR1.out.symm.trans (srcA_ok hsa)
   simp only [Prod.mk.injEq] at E
   obtain ⟨E1, E2, E3⟩ := E
   have E4 := E1.symm
   have E5 := E2.symm
   have E6 := E3.symm
   clear E1 E2 E3
   subst E4
   subst E5
   subst E6
   have E := hR2.out.symm.trans (srcA_ok hsb)
   simp only [Prod.mk.injEq] at E
   obtain ⟨E1, E2, E3⟩ := E
   have E4 := E1.symm
   have E5 := E2.symm
   have E6 := E3.symm
   clear E1 E2 E3
   subst E4
   subst E5
   subst E6
   clear hsa hsb hR1 hR2
   rw [hX.out] at hl1 hbig hsml
   rw [hY.out] at hl2 hbig hsml
   go_upto_region 8 with (fail)
   refine lbeg (opsOf Try.f4 8) ?_
   refine lnow 0 (.int .i64 0) (some 50) ?_
   refine lnow 1 (.bool false) (some 51) ?_
   refine ldn 2 ?_
   generalize hact : Act.put _ (some 51) _ = act
   simp only [Act.put, sA, sC, sZ] at hact
   subst hact
   go_upto_region 10 with (fail)
   refine lbeg (opsOf Try.f4 10) ?_
   refine lnow 0 (.int .i64 0) (some 55) ?_
   refine lnow 1 (.bool false) (some 56) ?_
   refine ldn 2 ?_
   generalize hact : Act.put _ (some 56) _ = act
   simp only [Act.put, sA, sC, sZ] at hact
   subst hact
   by_cases h64 : ((X : Int) + (Y : Int)) > 64
   ·skip
    go_upto_region 12 with (fail)
    refine lbeg (opsOf Try.f4 12) ?_
    refine lnow 0 (.slice xa X xc) (some 78) ?_
    refine lnow 1 (.int .i64 (X : Int)) (some 79) ?_
    refine lnow 2 (.slice ya Y yc) (some 80) ?_
    refine lnow 3 (.int .i64 (Y : Int)) (some 81) ?_
    refine lnow 4 (.int .i64 (IntKind.i64.wrap ((X : Int) + (Y : Int)))) (some 82) ?_
    rw [show IntKind.i64.wrap ((X : Int) + (Y : Int)) = (X : Int) + (Y : Int) from IntWalk.i64_in _ (by omega)]
    refine lnow 5 (.bool (decide (((X : Int) + (Y : Int)) > 64))) (some 83) ?_
    rw [decide_eq_true (h64)]
    refine ldn 6 ?_
    generalize hact : Act.put _ (some 83) _ = act
    simp only [Act.put, sA, sC, sZ] at hact
    subst hact
    obtain ⟨p', hsc⟩ := hbig (by omega)
    have E := hR3.out.symm.trans (srcA_no hsc)
    simp only [Prod.mk.injEq] at E
    obtain ⟨E1, E2, E3⟩ := E
    have E4 := E1.symm
    have E5 := E2.symm
    have E6 := E3.symm
    clear E1 E2 E3
    subst E4
    subst E5
    subst E6
    obtain rfl : Z = 0 := hZ.out.symm
    go_upto_region 13 with (fail)
    refine lbeg (opsOf Try.f4 13) ?_
    refine lnow 0 (.int .i64 14) (some 84) ?_
    refine lnow 1 (.bool true) (some 85) ?_
    refine lnow 2 (.bool true) (some 86) ?_
    refine lnow 3 (.slice za 0 zc) (some 87) ?_
    refine lnow 4 (.int .i64 (0 : Int)) (some 88) ?_
    refine lnow 5 (.bool (decide ((0 : Int) = 0))) (some 89) ?_
    rw [decide_eq_true (rfl)]
    refine lnow 6 (.bool true) (some 90) ?_
    refine lnow 7 (.bool true) (some 4) ?_
    refine ldn 8 ?_
    generalize hact : Act.put _ (some 4) _ = act
    simp only [Act.put, sA, sC, sZ] at hact
    subst hact
    go_wp2
    go_ret
    exact ⟨rfl, BE.out⟩
   go_upto_region 12 with (fail)
   refine lbeg (opsOf Try.f4 12) ?_
   refine lnow 0 (.slice xa X xc) (some 78) ?_
   refine lnow 1 (.int .i64 (X : Int)) (some 79) ?_
   refine lnow 2 (.slice ya Y yc) (some 80) ?_
   refine lnow 3 (.int .i64 (Y : Int)) (some 81) ?_
   refine lnow 4 (.int .i64 (IntKind.i64.wrap ((X : Int) + (Y : Int)))) (some 82) ?_
   rw [show IntKind.i64.wrap ((X : Int) + (Y : Int)) = (X : Int) + (Y : Int) from IntWalk.i64_in _ (by omega)]
   refine lnow 5 (.bool (decide (((X : Int) + (Y : Int)) > 64))) (some 83) ?_
   rw [decide_eq_false (h64)]
   refine ldn 6 ?_
   generalize hact : Act.put _ (some 83) _ = act
   simp only [Act.put, sA, sC, sZ] at hact
   subst hact
   obtain ⟨fs, hsc, hnm⟩ := hsml (by omega)
   have E := hR3.out.symm.trans (srcA_ok hsc)
   simp only [Prod.mk.injEq] at E
   obtain ⟨E1, E2, E3⟩ := E
   have E4 := E1.symm
   have E5 := E2.symm
   have E6 := E3.symm
   clear E1 E2 E3
   subst E4
   subst E5
   subst E6
   have zl : Z = X + Y := by have h9 := congrArg List.length hnm; rw [List.length_append, List.length_map, List.length_map, List.length_map, hX.out, hY.out, hZ.out] at h9; exact h9
   have NQ := Lib.hid hnm
   have XB : Hid (X ≤ 64 ∧ Y ≤ 64 ∧ Z = X + Y) := ⟨hl1, hl2, zl⟩
   clear hbig hsml hsc hR3 hnm h64 hl1 hl2 zl
   have xb := XB.out
   go_upto_region 14 with (fail)
   refine lbeg (opsOf Try.f4 14) ?_
   refine lnow 0 (.int .i64 0) (some 91) ?_
   refine lnow 1 (.bool false) (some 92) ?_
   refine lnow 2 (.bool false) (some 93) ?_
   refine lnow 3 (.slice za Z zc) (some 94) ?_
   refine lnow 4 (.int .i64 (Z : Int)) (some 95) ?_
   refine lnow 5 (.slice xa X xc) (some 96) ?_
   refine lnow 6 (.int .i64 (X : Int)) (some 97) ?_
   refine lnow 7 (.slice ya Y yc) (some 98) ?_
   refine lnow 8 (.int .i64 (Y : Int)) (some 99) ?_
   refine lnow 9 (.int .i64 (IntKind.i64.wrap ((X : Int) + (Y : Int)))) (some 100) ?_
   rw [show IntKind.i64.wrap ((X : Int) + (Y : Int)) = (X : Int) + (Y : Int) from IntWalk.i64_in _ (by omega)]
   refine lnow 10 (.bool (!decide ((Z : Int) = ((X : Int) + (Y : Int))))) (some 101) ?_
   rw [decide_eq_true (by omega)]
   rw [show (!true) = false from rfl]
   refine lnow 11 (.bool false) (some 102) ?_
   refine ldn 12 ?_
   generalize hact : Act.put _ (some 102) _ = act
   simp only [Act.put, sA, sC, sZ] at hact
   subst hact
   go_upto_region 16 with (fail)
   refine lbeg (opsOf Try.f4 16) ?_
   obtain ⟨z1, hz1⟩ : ∃ y, Hid (w4.heap.size = y) := ⟨_, rfl⟩
   refine lin_row 0 9 [] z1 0 (some 103) (by kernel_rfl) (by kernel_rfl) hz1 (exec_of _ _ (by kernel_rfl) (run_build_str0 _)) ?_
   intro w5 bb eb sb
   refine lnow 1 (.slice (some ⟨z1, 0, none⟩) 0 0) (some 14) ?_
   refine ldn 2 ?_
   generalize hact : Act.put _ (some 14) _ = act
   simp only [Act.put, sA, sC, sZ] at hact
   subst hact
   have B1 := Lib.hid bb
   have E1 := Lib.hid eb
   have S1 := Lib.hid sb
   clear bb eb sb
   go_upto_region 17 with (fail)
   refine lbeg (opsOf Try.f4 17) ?_
   obtain ⟨z2, hz2⟩ : ∃ y, Hid (w5.heap.size = y) := ⟨_, rfl⟩
   refine lin_row 0 9 [] z2 0 (some 104) (by kernel_rfl) (by kernel_rfl) hz2 (exec_of _ _ (by kernel_rfl) (run_build_str0 _)) ?_
   intro w6 bb eb sb
   refine lnow 1 (.slice (some ⟨z2, 0, none⟩) 0 0) (some 15) ?_
   refine ldn 2 ?_
   generalize hact : Act.put _ (some 15) _ = act
   simp only [Act.put, sA, sC, sZ] at hact
   subst hact
   have HZ : Hid (z2 = z1 + 1) := hz2.out.symm.trans S1.out
   have TW : Hid (TwoS z1 w6 (.slice (some ⟨z1, 0, none⟩) 0 0) [] (.slice (some ⟨z2, 0, none⟩) 0 0) []) := TwoS.start (B1.out.below eb (by have := HZ.out; omega)) bb (Nat.le_refl _) (by have := HZ.out; omega) (by have := HZ.out; omega)
   have BR : Hid (Below z1 w4 w6) := E1.out.trans (eb.mono (by have := HZ.out; omega))
   have ZS : Hid (z1 ≤ w6.heap.size) := by have h8 := sb.out; have := HZ.out; rw [Hid]; omega
   clear bb eb sb B1 E1 S1
   have QZ : Hid (q ≤ z1) := by rw [Hid, ← hz1.out]; exact SQ.out
   go_upto_region 18 with (fail)
   refine lbeg (opsOf Try.f4 18) ?_
   refine lnow 0 (.int .i64 0) (some 16) ?_
   refine ldn 1 ?_
   generalize hact : Act.put _ (some 16) _ = act
   simp only [Act.put, sA, sC, sZ] at hact
   subst hact
   have TS1 : Hid (TwoS z1 w6 (.slice (some ⟨z1, 0, none⟩) 0 0) (([] : List (List UInt8)) ++ (ds.map (·.name)).take 0) (.slice (some ⟨z2, 0, none⟩) 0 0) []) := by rw [Hid, List.take_zero, List.append_nil]; exact TW.out
   clear xb
   go_wp2
   go_loopw [14, 16] (fun sv kv wr => ∃ (k : Nat) (rv : Value), rv = sv ∧ k ≤ X ∧ kv = .int .i64 (k : Int) ∧ Hid (TwoS z1 wr rv (([] : List (List UInt8)) ++ (ds.map (·.name)).take k) (.slice (some ⟨z2, 0, none⟩) 0 0) []) ∧ Hid (Below z1 w4 wr) ∧ Hid (z1 ≤ wr.heap.size)) (fun _ kv _ => X - (intOf kv).toNat)
   case atStart => exact ⟨0, _, rfl, Nat.zero_le _, rfl, TS1, BR, ZS⟩
   case round =>
    clear TS1
    obtain ⟨k, rv1, hrv, hk, rfl, T1, R1, Y1⟩ := hrel
    subst hrv
    have W1 : Hid (wr = wr) := rfl
    have xb := XB.out
    by_cases hlt : (k : Int) < (X : Int)
    ·skip
     go_upto_region 19 with (fail)
     refine lbeg (opsOf Try.f4 19) ?_
     refine lnow 0 (.int .i64 (k : Int)) (some 105) ?_
     refine lnow 1 (.slice xa X xc) (some 106) ?_
     refine lnow 2 (.int .i64 (X : Int)) (some 107) ?_
     refine lnow 3 (.bool (decide ((k : Int) < (X : Int)))) (some 108) ?_
     rw [decide_eq_true (hlt)]
     refine ldn 4 ?_
     generalize hact : Act.put _ (some 108) _ = act
     simp only [Act.put, sA, sC, sZ] at hact
     subst hact
     obtain ⟨d, hd⟩ : ∃ d, Hid (ds[k]? = some d) := ⟨_, List.getElem?_eq_getElem (by rw [hX.out]; omega)⟩
     obtain ⟨g, u, c1, cs, hv1, -, hr1, hP⟩ := sl_cells (i := k) (SlG.below (dlG _) Sx.out (by rw [hz1.out]; exact R1.out)) hd.out
     rw [hX.out] at hv1
     obtain ⟨rfl, -, rfl⟩ := Value.slice.inj hv1
     have HN : Hid (wr.cell? ⟨g, u + 18 * k + 4, none⟩ = some (sT d.name)) := hr1 4 _ hP.cells.2.2.2.1
     clear hr1 hv1 hP
     go_upto_region 21 with (fail)
     refine lbeg (opsOf Try.f4 21) ?_
     refine lnow 0 (rv1) (some 111) ?_
     refine lnow 1 (.slice (some ⟨g, u, none⟩) X xc) (some 112) ?_
     refine lnow 2 (.int .i64 (k : Int)) (some 113) ?_
     refine lix 3 (.pointer (some ⟨g, u + 18 * k, none⟩)) (some 114) 27 112 113 (run_at_dl g u X xc k (by omega) _) ?_
     refine lnow 4 (.pointer (some ⟨g, u + 18 * k + 4, none⟩)) (some 115) ?_
     refine lcl 5 (sT (d.name)) (some 116) 9 115 (g) (u + 18 * k + 4) (HN.out) Try.underlying9 ?_
     refine lin_two 6 (some 117) (some 118) d.name rv1 (.slice (some ⟨z2, 0, none⟩) 0 0) (([] : List (List UInt8)) ++ (ds.map (·.name)).take k) [] z1 T1.out (take_len' (by simp [hX.out, hY.out] <;> omega) (by omega)) Y1.out (by kernel_rfl) (by kernel_rfl) (by kernel_rfl) (fun _ => by kernel_rfl) (by kernel_rfl) (fun _ => by kernel_rfl) ?_
     intro q9 rv9 w9 tw9 be9
     refine lnow 8 (rv9) (some 14) ?_
     refine ldn 9 ?_
     generalize hact : Act.put _ (some 14) _ = act
     simp only [Act.put, sA, sC, sZ] at hact
     subst hact
     rw [take_snoc' (by rw [List.getElem?_map, hd.out]; rfl)] at tw9
     have T9 := Lib.hid tw9
     have R9 : Hid (Below z1 w4 w9) := R1.out.trans be9
     have Y9 : Hid (z1 ≤ w9.heap.size) := Nat.le_trans Y1.out be9.size
     clear tw9 be9 HN hd T1 R1 Y1
     go_upto_region 20 with (fail)
     refine lbeg (opsOf Try.f4 20) ?_
     refine lnow 0 (.int .i64 (k : Int)) (some 109) ?_
     refine lnow 1 (.int .i64 (IntKind.i64.wrap ((k : Int) + 1))) (some 110) ?_
     rw [show IntKind.i64.wrap ((k : Int) + 1) = (k : Int) + 1 from IntWalk.i64_in _ (by omega)]
     refine lnow 2 (.int .i64 ((k : Int) + 1)) (some 16) ?_
     refine ldn 3 ?_
     generalize hact : Act.put _ (some 16) _ = act
     simp only [Act.put, sA, sC, sZ] at hact
     subst hact
     clear xb
     go_wp2
     go_roundw
     case rel => exact ⟨k + 1, rv9, rfl, by omega, by go_num, T9, R9, Y9⟩
     case measure => simp [intOf]; omega
    go_upto_region 19 with (fail)
    refine lbeg (opsOf Try.f4 19) ?_
    refine lnow 0 (.int .i64 (k : Int)) (some 105) ?_
    refine lnow 1 (.slice xa X xc) (some 106) ?_
    refine lnow 2 (.int .i64 (X : Int)) (some 107) ?_
    refine lnow 3 (.bool (decide ((k : Int) < (X : Int)))) (some 108) ?_
    rw [decide_eq_false (hlt)]
    refine ldn 4 ?_
    generalize hact : Act.put _ (some 108) _ = act
    simp only [Act.put, sA, sC, sZ] at hact
    subst hact
    have hkL : k = X := by omega
    replace T1 : Hid (TwoS z1 wr rv1 (([] : List (List UInt8)) ++ ds.map (·.name)) (.slice (some ⟨z2, 0, none⟩) 0 0) []) := by have h9 := T1.out; rw [take_all' (by rw [List.length_map, hX.out]; exact hkL.symm)] at h9; exact h9
    clear hkL hlt hk xb
    generalize wr = v1 at T1 R1 Y1 ⊢
    go_upto_region 22 with (fail)
    refine lbeg (opsOf Try.f4 22) ?_
    refine lnow 0 (.int .i64 0) (some 17) ?_
    refine ldn 1 ?_
    generalize hact : Act.put _ (some 17) _ = act
    simp only [Act.put, sA, sC, sZ] at hact
    subst hact
    have TS2 : Hid (TwoS z1 v1 (rv1) ((([] : List (List UInt8)) ++ ds.map (·.name)) ++ (es.map (·.name)).take 0) (.slice (some ⟨z2, 0, none⟩) 0 0) []) := by rw [Hid, List.take_zero, List.append_nil]; exact T1.out
    go_wp2
    go_loopw [14, 17] (fun sv kv wr => ∃ (k : Nat) (rv : Value), rv = sv ∧ k ≤ Y ∧ kv = .int .i64 (k : Int) ∧ Hid (TwoS z1 wr rv ((([] : List (List UInt8)) ++ ds.map (·.name)) ++ (es.map (·.name)).take k) (.slice (some ⟨z2, 0, none⟩) 0 0) []) ∧ Hid (Below z1 w4 wr) ∧ Hid (z1 ≤ wr.heap.size)) (fun _ kv _ => Y - (intOf kv).toNat)
    case atStart => exact ⟨0, _, rfl, Nat.zero_le _, rfl, TS2, R1, Y1⟩
    case round =>
     clear TS2
     obtain ⟨k, rv2, hrv, hk, rfl, T2, R2, Y2⟩ := hrel
     subst hrv
     have W2 : Hid (wr = wr) := rfl
     have xb := XB.out
     by_cases hlt : (k : Int) < (Y : Int)
     ·skip
      go_upto_region 23 with (fail)
      refine lbeg (opsOf Try.f4 23) ?_
      refine lnow 0 (.int .i64 (k : Int)) (some 119) ?_
      refine lnow 1 (.slice ya Y yc) (some 120) ?_
      refine lnow 2 (.int .i64 (Y : Int)) (some 121) ?_
      refine lnow 3 (.bool (decide ((k : Int) < (Y : Int)))) (some 122) ?_
      rw [decide_eq_true (hlt)]
      refine ldn 4 ?_
      generalize hact : Act.put _ (some 122) _ = act
      simp only [Act.put, sA, sC, sZ] at hact
      subst hact
      obtain ⟨d, hd⟩ : ∃ d, Hid (es[k]? = some d) := ⟨_, List.getElem?_eq_getElem (by rw [hY.out]; omega)⟩
      obtain ⟨g, u, c1, cs, hv1, -, hr1, hP⟩ := sl_cells (i := k) (SlG.below (dlG _) Sy.out (by rw [hz1.out]; exact R2.out)) hd.out
      rw [hY.out] at hv1
      obtain ⟨rfl, -, rfl⟩ := Value.slice.inj hv1
      have HN : Hid (wr.cell? ⟨g, u + 18 * k + 4, none⟩ = some (sT d.name)) := hr1 4 _ hP.cells.2.2.2.1
      clear hr1 hv1 hP
      go_upto_region 25 with (fail)
      refine lbeg (opsOf Try.f4 25) ?_
      refine lnow 0 (rv2) (some 125) ?_
      refine lnow 1 (.slice (some ⟨g, u, none⟩) Y yc) (some 126) ?_
      refine lnow 2 (.int .i64 (k : Int)) (some 127) ?_
      refine lix 3 (.pointer (some ⟨g, u + 18 * k, none⟩)) (some 128) 27 126 127 (run_at_dl g u Y yc k (by omega) _) ?_
      refine lnow 4 (.pointer (some ⟨g, u + 18 * k + 4, none⟩)) (some 129) ?_
      refine lcl 5 (sT (d.name)) (some 130) 9 129 (g) (u + 18 * k + 4) (HN.out) Try.underlying9 ?_
      refine lin_two 6 (some 131) (some 132) d.name rv2 (.slice (some ⟨z2, 0, none⟩) 0 0) ((([] : List (List UInt8)) ++ ds.map (·.name)) ++ (es.map (·.name)).take k) [] z1 T2.out (take_len' (by simp [hX.out, hY.out] <;> omega) (by omega)) Y2.out (by kernel_rfl) (by kernel_rfl) (by kernel_rfl) (fun _ => by kernel_rfl) (by kernel_rfl) (fun _ => by kernel_rfl) ?_
      intro q9 rv9 w9 tw9 be9
      refine lnow 8 (rv9) (some 14) ?_
      refine ldn 9 ?_
      generalize hact : Act.put _ (some 14) _ = act
      simp only [Act.put, sA, sC, sZ] at hact
      subst hact
      rw [take_snoc' (by rw [List.getElem?_map, hd.out]; rfl)] at tw9
      have T9 := Lib.hid tw9
      have R9 : Hid (Below z1 w4 w9) := R2.out.trans be9
      have Y9 : Hid (z1 ≤ w9.heap.size) := Nat.le_trans Y2.out be9.size
      clear tw9 be9 HN hd T2 R2 Y2
      go_upto_region 24 with (fail)
      refine lbeg (opsOf Try.f4 24) ?_
      refine lnow 0 (.int .i64 (k : Int)) (some 123) ?_
      refine lnow 1 (.int .i64 (IntKind.i64.wrap ((k : Int) + 1))) (some 124) ?_
      rw [show IntKind.i64.wrap ((k : Int) + 1) = (k : Int) + 1 from IntWalk.i64_in _ (by omega)]
      refine lnow 2 (.int .i64 ((k : Int) + 1)) (some 17) ?_
      refine ldn 3 ?_
      generalize hact : Act.put _ (some 17) _ = act
      simp only [Act.put, sA, sC, sZ] at hact
      subst hact
      clear xb
      go_wp2
      go_roundw
      case rel => exact ⟨k + 1, rv9, rfl, by omega, by go_num, T9, R9, Y9⟩
      case measure => simp [intOf]; omega
     go_upto_region 23 with (fail)
     refine lbeg (opsOf Try.f4 23) ?_
     refine lnow 0 (.int .i64 (k : Int)) (some 119) ?_
     refine lnow 1 (.slice ya Y yc) (some 120) ?_
     refine lnow 2 (.int .i64 (Y : Int)) (some 121) ?_
     refine lnow 3 (.bool (decide ((k : Int) < (Y : Int)))) (some 122) ?_
     rw [decide_eq_false (hlt)]
     refine ldn 4 ?_
     generalize hact : Act.put _ (some 122) _ = act
     simp only [Act.put, sA, sC, sZ] at hact
     subst hact
     have hkL : k = Y := by omega
     replace T2 : Hid (TwoS z1 wr rv2 ((([] : List (List UInt8)) ++ ds.map (·.name)) ++ es.map (·.name)) (.slice (some ⟨z2, 0, none⟩) 0 0) []) := by have h9 := T2.out; rw [take_all' (by rw [List.length_map, hY.out]; exact hkL.symm)] at h9; exact h9
     clear hkL hlt hk xb
     generalize wr = v2 at T2 R2 Y2 ⊢
     go_upto_region 26 with (fail)
     refine lbeg (opsOf Try.f4 26) ?_
     refine lnow 0 (.int .i64 0) (some 18) ?_
     refine ldn 1 ?_
     generalize hact : Act.put _ (some 18) _ = act
     simp only [Act.put, sA, sC, sZ] at hact
     subst hact
     have TS3 : Hid (TwoS z1 v2 (.slice (some ⟨z2, 0, none⟩) 0 0) (([] : List (List UInt8)) ++ (fs.map (·.name)).take 0) (rv2) ((([] : List (List UInt8)) ++ ds.map (·.name)) ++ es.map (·.name))) := by rw [Hid, List.take_zero, List.append_nil]; exact T2.out.symm
     go_wp2
     go_loopw [15, 18] (fun sv kv wr => ∃ (k : Nat) (rv : Value), rv = sv ∧ k ≤ Z ∧ kv = .int .i64 (k : Int) ∧ Hid (TwoS z1 wr rv (([] : List (List UInt8)) ++ (fs.map (·.name)).take k) (rv2) ((([] : List (List UInt8)) ++ ds.map (·.name)) ++ es.map (·.name))) ∧ Hid (Below z1 w4 wr) ∧ Hid (z1 ≤ wr.heap.size)) (fun _ kv _ => Z - (intOf kv).toNat)
     case atStart => exact ⟨0, _, rfl, Nat.zero_le _, rfl, TS3, R2, Y2⟩
     case round =>
      clear TS3
      obtain ⟨k, rv3, hrv, hk, rfl, T3, R3, Y3⟩ := hrel
      subst hrv
      have W3 : Hid (wr = wr) := rfl
      have xb := XB.out
      by_cases hlt : (k : Int) < (Z : Int)
      ·skip
       go_upto_region 27 with (fail)
       refine lbeg (opsOf Try.f4 27) ?_
       refine lnow 0 (.int .i64 (k : Int)) (some 133) ?_
       refine lnow 1 (.slice za Z zc) (some 134) ?_
       refine lnow 2 (.int .i64 (Z : Int)) (some 135) ?_
       refine lnow 3 (.bool (decide ((k : Int) < (Z : Int)))) (some 136) ?_
       rw [decide_eq_true (hlt)]
       refine ldn 4 ?_
       generalize hact : Act.put _ (some 136) _ = act
       simp only [Act.put, sA, sC, sZ] at hact
       subst hact
       obtain ⟨d, hd⟩ : ∃ d, Hid (fs[k]? = some d) := ⟨_, List.getElem?_eq_getElem (by rw [hZ.out]; omega)⟩
       obtain ⟨g, u, c1, cs, hv1, -, hr1, hP⟩ := sl_cells (i := k) (SlG.below (dlG _) Sz.out (by rw [hz1.out]; exact R3.out)) hd.out
       rw [hZ.out] at hv1
       obtain ⟨rfl, -, rfl⟩ := Value.slice.inj hv1
       have HN : Hid (wr.cell? ⟨g, u + 18 * k + 4, none⟩ = some (sT d.name)) := hr1 4 _ hP.cells.2.2.2.1
       clear hr1 hv1 hP
       go_upto_region 29 with (fail)
       refine lbeg (opsOf Try.f4 29) ?_
       refine lnow 0 (rv3) (some 139) ?_
       refine lnow 1 (.slice (some ⟨g, u, none⟩) Z zc) (some 140) ?_
       refine lnow 2 (.int .i64 (k : Int)) (some 141) ?_
       refine lix 3 (.pointer (some ⟨g, u + 18 * k, none⟩)) (some 142) 27 140 141 (run_at_dl g u Z zc k (by omega) _) ?_
       refine lnow 4 (.pointer (some ⟨g, u + 18 * k + 4, none⟩)) (some 143) ?_
       refine lcl 5 (sT (d.name)) (some 144) 9 143 (g) (u + 18 * k + 4) (HN.out) Try.underlying9 ?_
       refine lin_two 6 (some 145) (some 146) d.name rv3 (rv2) (([] : List (List UInt8)) ++ (fs.map (·.name)).take k) ((([] : List (List UInt8)) ++ ds.map (·.name)) ++ es.map (·.name)) z1 T3.out (take_len' (by simp [hX.out, hY.out] <;> omega) (by omega)) Y3.out (by kernel_rfl) (by kernel_rfl) (by kernel_rfl) (fun _ => by kernel_rfl) (by kernel_rfl) (fun _ => by kernel_rfl) ?_
       intro q9 rv9 w9 tw9 be9
       refine lnow 8 (rv9) (some 15) ?_
       refine ldn 9 ?_
       generalize hact : Act.put _ (some 15) _ = act
       simp only [Act.put, sA, sC, sZ] at hact
       subst hact
       rw [take_snoc' (by rw [List.getElem?_map, hd.out]; rfl)] at tw9
       have T9 := Lib.hid tw9
       have R9 : Hid (Below z1 w4 w9) := R3.out.trans be9
       have Y9 : Hid (z1 ≤ w9.heap.size) := Nat.le_trans Y3.out be9.size
       clear tw9 be9 HN hd T3 R3 Y3
       go_upto_region 28 with (fail)
       refine lbeg (opsOf Try.f4 28) ?_
       refine lnow 0 (.int .i64 (k : Int)) (some 137) ?_
       refine lnow 1 (.int .i64 (IntKind.i64.wrap ((k : Int) + 1))) (some 138) ?_
       rw [show IntKind.i64.wrap ((k : Int) + 1) = (k : Int) + 1 from IntWalk.i64_in _ (by omega)]
       refine lnow 2 (.int .i64 ((k : Int) + 1)) (some 18) ?_
       refine ldn 3 ?_
       generalize hact : Act.put _ (some 18) _ = act
       simp only [Act.put, sA, sC, sZ] at hact
       subst hact
       clear xb
       go_wp2
       go_roundw
       case rel => exact ⟨k + 1, rv9, rfl, by omega, by go_num, T9, R9, Y9⟩
       case measure => simp [intOf]; omega
      go_upto_region 27 with (fail)
      refine lbeg (opsOf Try.f4 27) ?_
      refine lnow 0 (.int .i64 (k : Int)) (some 133) ?_
      refine lnow 1 (.slice za Z zc) (some 134) ?_
      refine lnow 2 (.int .i64 (Z : Int)) (some 135) ?_
      refine lnow 3 (.bool (decide ((k : Int) < (Z : Int)))) (some 136) ?_
      rw [decide_eq_false (hlt)]
      refine ldn 4 ?_
      generalize hact : Act.put _ (some 136) _ = act
      simp only [Act.put, sA, sC, sZ] at hact
      subst hact
      have hkL : k = Z := by omega
      replace T3 : Hid (TwoS z1 wr rv3 (([] : List (List UInt8)) ++ fs.map (·.name)) (rv2) ((([] : List (List UInt8)) ++ ds.map (·.name)) ++ es.map (·.name))) := by have h9 := T3.out; rw [take_all' (by rw [List.length_map, hZ.out]; exact hkL.symm)] at h9; exact h9
      clear hkL hlt hk xb
      generalize wr = v3 at T3 R3 Y3 ⊢
      have C := same_yes (T3.out.b.strs T3.out.nb) (T3.out.a.strs T3.out.na) (by have := XB.out; simp [hX.out, hY.out]; omega) (by rw [List.nil_append, List.nil_append]; exact NQ.out.symm)
      go_upto_region 30 with (fail)
      refine lbeg (opsOf Try.f4 30) ?_
      refine lnow 0 (rv2) (some 147) ?_
      refine lnow 1 (rv3) (some 148) ?_
      refine lcal 2 11 #[rv2, rv3] (some 149) _ (C) ?_
      rintro e w9 ⟨rfl, hb⟩
      refine ⟨_, rfl, ?_⟩
      refine lnow 3 (.bool true) (some 4) ?_
      refine ldn 4 ?_
      generalize hact : Act.put _ (some 4) _ = act
      simp only [Act.put, sA, sC, sZ] at hact
      subst hact
      have FIN : Hid (Below q w w9) := BE.out.trans ((R3.out.mono QZ.out).trans (hb.mono (Nat.le_trans QZ.out Y3.out)))
      go_wp2
      go_ret
      exact ⟨rfl, FIN.out⟩
end Go.Proofs.Ytdacmogedchnaaa
