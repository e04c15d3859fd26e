/- Package level: Right, Num, Param, Width, Value, Up. -/
import Derived.Test.YtdacmogedchnaaaQGenT
import Derived.Test.YtdacmogedchnaaaQTrmM
import Derived.IntWalk
namespace Go.Proofs.Ytdacmogedchnaaa
open Go Go.RowKit
set_option maxRecDepth 100000
theorem bool_eq {a b : Bool} (h : a = b) : Ending.returned (.bool a) = .returned (.bool b) := by rw [h]
theorem Lv.zlen {l : Lv} (h : l.p.length = 4) : (ints .i64 l.zs).length = 5 := by rw [ints_length]; simp [Lv.zs, h]
theorem lvSize {l : Lv} (h : l.p.length = 4) : (Try.prog.info? 94).map (·.size) = some (ints .i64 l.zs).length := by rw [Lv.zlen h]; kernel_rfl
theorem p4Size {p : List Int} (h : p.length = 4) : (Try.prog.info? 92).map (·.size) = some (ints .i64 p).length := by rw [ints_length, h]; kernel_rfl
theorem Blk.plus {w : World} {b : Nat} {t : TypeId} {l : Lv} (h : Blk w b t (ints .i64 l.zs)) : w.rangeAt b 1 (ints .i64 l.p) := fun j v hv => by
 refine h.cell (j := 1 + j) ?_
 rw [Nat.add_comm]
 exact hv
theorem Blk.base {w : World} {b : Nat} {t : TypeId} {l : Lv} (h : Blk w b t (ints .i64 l.zs)) : w.cell? ⟨b, 0, none⟩ = some (.int .i64 l.b) := h.cell rfl
/-- 'a[i]' of an array of integers by value. -/
theorem exec_index {P : Program} {a : Act} {w : World} {op : Oper} (t e : TypeId) (x ix : Operand) (ho : op.op = .index t x ix) (n : Nat) (k : IntKind) (ht : P.underlying t = some (.array n e)) (he : P.underlying e = some (.int k)) (hs : (P.info? e).map (·.size) = some 1)
    (l : List Int) (hl : l.length = n) (hx : a.eval x = .agg (ints k l).toArray) (i : Nat) (hi : a.eval ix = .int .i64 (i : Int)) (h : i < n) : (execOp a.eval op).run P w = .ok (.value (.int k (l.getD i 0))) w := by
  obtain ⟨inf, hi1, hi2⟩ := Option.map_eq_some_iff.1 hs
  have hp := run_part_ints w he l i (by omega)
  have hr : (Instr.index t (.agg (ints k l).toArray) (.int .i64 (i : Int))).run P w = .ok (.int k (l.getD i 0)) w := by
    unfold Instr.index
    simp only [Sem.run_bind, run_underlying ht, asIntOf, Sem.run_pure, Result.andThen_ok]
    have hn : (0 : Int) ≤ (i : Int) ∧ (i : Int) < (n : Int) := by omega
    simp only [hn, and_self, if_true, Sem.run_bind, Int.toNat_natCast]
    simpa [sizeOf, typeInfo, hi1, hi2] using hp
  unfold execOp
  simp only [ho, hx, hi, Sem.run_bind, hr, Result.andThen_ok]
  rfl
set_option maxHeartbeats 1000000 in
theorem inb_walk (n : Int) (w : World) : Calls Try.prog 81 #[.int .i64 n] w fun e w' => e = .returned (.bool (decide (0 ≤ n) && decide (n ≤ 100))) ∧ w = w' := by
 by_cases h0 : 0 ≤ n
 ·by_cases h1 : n ≤ 100
  ·go_enter Try.func81, Try.ntmps81
   go_wp2
   go_ret
   exact ⟨by simp [h0, h1], rfl⟩
  ·go_enter Try.func81, Try.ntmps81
   go_wp2
   go_ret
   exact ⟨by simp; omega, rfl⟩
 ·go_enter Try.func81, Try.ntmps81
  go_wp2
  go_ret
  exact ⟨by simp; omega, rfl⟩
theorem inb_yes (n : Int) (w : World) (h0 : 0 ≤ n) (h1 : n ≤ 100) : Calls Try.prog 81 #[.int .i64 n] w fun e w' => e = .returned (.bool true) ∧ w = w' :=
 (inb_walk n w).mono fun _ _ ⟨he, hw⟩ => ⟨by rw [he]; simp [h0, h1], hw⟩
theorem inb_no (n : Int) (w : World) (h : n < 0 ∨ 100 < n) : Calls Try.prog 81 #[.int .i64 n] w fun e w' => e = .returned (.bool false) ∧ w = w' :=
 (inb_walk n w).mono fun _ _ ⟨he, hw⟩ => ⟨by rw [he]; simp; omega, hw⟩
set_option maxHeartbeats 1000000 in
theorem right_walk (l : Lv) (hl : l.p.length = 4) (w : World) : Calls Try.prog 79 #[.agg (ints .i64 l.zs).toArray] w fun e w' => e = .returned (.bool (rightL l)) ∧ Below w.heap.size w w' := by
 obtain ⟨q, hq⟩ : ∃ q, Hid (w.heap.size = q) := ⟨_, rfl⟩
 have HL := Lib.hid hl
 clear hl
 go_enter Try.func79, Try.ntmps79
 go_upto_region 0 with (fail)
 refine lbeg (opsOf Try.f79 0) ?_
 refine lbox 0 94 (.tmp 0) (ints .i64 l.zs) q (some 1) hq ?_
 intro w1 b1 be1 hs1
 refine lnow 1 (.bool false) (some 2) ?_
 refine ldn 2 ?_
 have B1 := Lib.hid b1
 have BE : Hid (Below w.heap.size w w1) := by rw [Hid, hq.out]; exact be1
 clear b1 be1 hs1
 generalize hact : Act.put _ (some 2) _ = act
 simp only [Act.put, sA, sC, sZ] at hact
 subst hact
 go_upto_region 1 with (fail)
 refine lbeg (opsOf Try.f79 1) ?_
 refine lnow 0 (.pointer (some ⟨q, 0, none⟩)) (some 5) ?_
 refine lcl 1 (.int .i64 l.b) (some 6) 3 5 q 0 B1.out.base Try.underlying3 ?_
 refine lcal 2 81 #[.int .i64 l.b] (some 7) _ (inb_walk _ _) ?_
 rintro e w' ⟨rfl, rfl⟩
 obtain ⟨ib, hib⟩ : ∃ x, Hid ((decide (0 ≤ l.b) && decide (l.b ≤ 100)) = x) := ⟨_, rfl⟩
 rw [hib.out]
 refine ⟨_, rfl, ?_⟩
 refine lnow 3 (.bool (!ib)) (some 8) ?_
 refine ldn 4 ?_
 generalize hact : Act.put _ (some 8) _ = act
 simp only [Act.put, sA, sC, sZ] at hact
 subst hact
 cases ib with
 | false =>
  have NO : Hid (rightL l = false) := by rw [Hid, rightL, hib.out, Bool.false_and]
  go_wp2
  go_ret
  exact ⟨bool_eq NO.out.symm, BE.out⟩
 | true =>
  have IB : Hid (0 ≤ l.b ∧ l.b ≤ 100) := by unfold Hid; have := hib.out; simpa using this
  clear hib
  go_upto_region 3 with (fail)
  refine lbeg (opsOf Try.f79 3) ?_
  refine lnow 0 (.pointer (some ⟨q, 1, none⟩)) (some 9) ?_
  refine lrl 1 (ints .i64 l.p) (some 10) 92 9 q 1 B1.out.plus Try.underlying92 (p4Size HL.out) ?_
  refine lnow 2 (.int .i64 0) (some 11) ?_
  refine ldn 3 ?_
  generalize hact : Act.put _ (some 11) _ = act
  simp only [Act.put, sA, sC, sZ] at hact
  subst hact
  go_wp2
  go_loop [11] (fun iv => ∃ k : Nat, k ≤ 4 ∧ iv = .int .i64 (k : Int) ∧ Hid (∀ i, i < k → -1 ≤ l.p.getD i 0 ∧ l.p.getD i 0 ≤ l.b)) (fun iv => 4 - (intOf iv).toNat)
  case atStart => exact ⟨0, Nat.zero_le _, rfl, fun i hi => by omega⟩
  case round =>
   obtain ⟨k, hk, rfl, hR⟩ := hrel
   by_cases hlt : k < 4
   ·have r1 : (k : Int) < 4 := by omega
    go_upto_region 5 with (fail)
    refine lbeg (opsOf Try.f79 5) ?_
    refine lnowP 0 (.int .i64 (l.p.getD k 0)) (some 13) (exec_index 92 3 (.tmp 10) (.tmp 11) (by kernel_rfl) 4 .i64 Try.underlying92 Try.underlying3 (by kernel_rfl) l.p HL.out (by kernel_rfl) k (by kernel_rfl) hlt) ?_
    refine lnow 1 (.int .i64 (l.p.getD k 0)) (some 4) ?_
    refine ldn 2 ?_
    generalize hact : Act.put _ (some 4) _ = act
    simp only [Act.put, sA, sC, sZ] at hact
    subst hact
    obtain ⟨x, hx⟩ : ∃ x, Hid (l.p.getD k 0 = x) := ⟨_, rfl⟩
    rw [hx.out]
    have c0 := B1.out.base
    obtain ⟨bb, hbb⟩ : ∃ x, Hid (l.b = x) := ⟨_, rfl⟩
    rw [hbb.out] at c0
    have NO : Hid (¬ (-1 ≤ x ∧ x ≤ bb) → rightL l = false) := fun h => by
     rw [Bool.eq_false_iff]
     intro hr
     have := right_at hr (i := k) (by rw [HL.out]; exact hlt)
     rw [hx.out, hbb.out] at this
     exact h this
    by_cases h2 : x < -1
    ·go_wp2
     go_ret
     exact ⟨bool_eq (NO.out (by omega)).symm, BE.out⟩
    ·by_cases h3 : bb < x
     ·go_wp2
      go_ret
      exact ⟨bool_eq (NO.out (by omega)).symm, BE.out⟩
     ·have hR2 : Hid (∀ i, i < k + 1 → -1 ≤ l.p.getD i 0 ∧ l.p.getD i 0 ≤ l.b) := fun i hi => by
       by_cases e : i = k
       ·subst e
        rw [hx.out, hbb.out]
        omega
       ·exact hR.out i (by omega)
      go_wp2
      go_round
      case rel => exact ⟨k + 1, by omega, by go_num, hR2⟩
      case measure => simp [intOf]; omega
   ·have r1 : ¬ (k : Int) < 4 := by omega
    have YES : Hid (rightL l = true) := right_all HL.out IB.out.1 IB.out.2 (fun i hi => hR.out i (by omega))
    go_wp2
    go_ret
    exact ⟨bool_eq YES.out.symm, BE.out⟩
def z4 : List Int := [0, 0, 0, 0]
def z5 : List Int := [0, 0, 0, 0, 0]
theorem zeroA4 : (Try.prog.info? 92).map (·.zero) = some (some (.agg (ints .i64 z4).toArray)) := by kernel_rfl
theorem zeroLv : (Try.prog.info? 94).map (·.zero) = some (some (.agg (ints .i64 z5).toArray)) := by kernel_rfl
theorem sizeInt : (Try.prog.info? 3).map (·.size) = some 1 := by kernel_rfl
theorem run_at_arr4 (g o p : Nat) (hp : p < 4) (w : World) : (Instr.indexAt 92 (.pointer (some ⟨g, o, none⟩)) (.int .i64 (p : Int))).run Try.prog w = .ok (.pointer (some ⟨g, o + p, none⟩)) w := by
 have hz : (sizeOf (Try.prog.elem 92)).run Try.prog w = .ok 1 w := by kernel_rfl
 have hA : Try.prog.arrayLen 92 = 4 := by kernel_rfl
 have ht : Try.prog.underlying 92 = some (.array (Try.prog.arrayLen 92) (Try.prog.elem 92)) := by kernel_rfl
 rw [run_indexAt_array w 92 _ _ _ ht, if_pos (by rw [hA]; omega), hz, Result.andThen_ok, Addr.add_mid, Int.toNat_natCast, Nat.mul_one]
theorem lin_cel {P : Program} {ops : Array Oper} {Q : Exit → Act → World → Prop} {a : Act} {w : World} (i : Nat) (ty : TypeId) (x y : Operand) (b o : Nat) (t : TypeId) (cs : List Value) (v : Value) (hi : (ops[i]?.isSome && Region.wanted (opAt ops i) (yielded ops a.tmps)) = true) (hd : (opAt ops i).dst = none)
    (ho : (opAt ops i).op = .store ty x y) (hx : a.eval x = .pointer (some ⟨b, o, none⟩)) (hy : a.eval y = v) (hb : Blk w b t cs) (hl : o < cs.length) (hz : (P.info? ty).map (·.size) = some 1) (hv1 : v.cells = #[v]) (hv : v.oneCell' = true)
    (h : ∀ w', Blk w' b t (cs.set o v) → Upd b w w' → Hid (w'.heap.size = w.heap.size) → wpFrom P ops Q (i + 1) (a.put none undef) w') : wpFrom P ops Q i a w :=
  lin_store i (w.setCell ⟨b, o, none⟩ v) hi hd (exec_store_cell ty x y ho b o v hx hy t cs hb hl hz hv1 hv) (h _ (hb.set o v) ((Upd.refl b w).setCell o v) (by unfold Hid; simp [World.setCell]))
def nopK (k : Nat) : List Int := List.replicate k (-1) ++ List.replicate (4 - k) 0
theorem nopK_set {k : Nat} (h : k < 4) : (ints .i64 (nopK k)).set k (.int .i64 (-1)) = ints .i64 (nopK (k + 1)) := by
 match k, h with
 | 0, _ => rfl
 | 1, _ => rfl
 | 2, _ => rfl
 | 3, _ => rfl
theorem nopK_len {k : Nat} (h : k ≤ 4) : (nopK k).length = 4 := by simp [nopK]; omega
set_option maxHeartbeats 1000000 in
theorem nop_walk (w : World) : Calls Try.prog 80 #[] w fun e w' => e = .returned (.agg (ints .i64 [-1, -1, -1, -1]).toArray) ∧ Below w.heap.size w w' := by
 obtain ⟨q, hq⟩ : ∃ q, Hid (w.heap.size = q) := ⟨_, rfl⟩
 rw [hq.out]
 go_enter Try.func80, Try.ntmps80
 go_upto_region 0 with (fail)
 refine lbeg (opsOf Try.f80 0) ?_
 refine lin_alloc 0 92 (ints .i64 z4) (q) (some 0) (by kernel_rfl) (by kernel_rfl) (by kernel_rfl) zeroA4 hq ?_
 intro w1 b1 be1 hs1
 refine ldn 1 ?_
 have B1 := Lib.hid b1
 have BE1 := Lib.hid be1
 clear b1 be1
 generalize hact : Act.put _ (some 0) _ = act
 simp only [Act.put, List.setIfInBounds_toArray, List.set_cons_zero] at hact
 subst hact
 go_upto_region 1 with (fail)
 refine lbeg (opsOf Try.f80 1) ?_
 refine lin_alloc 0 92 (ints .i64 z4) (q + 1) (some 1) (by kernel_rfl) (by kernel_rfl) (by kernel_rfl) zeroA4 hs1 ?_
 intro w2 b2 be2 hs2
 refine ldn 1 ?_
 have B2 : Hid (Blk w2 (q + 1) 92 (ints .i64 (nopK 0))) := b2
 have BE2 : Hid (Below q w w2) := BE1.out.trans (be2.mono (Nat.le_succ _))
 have A2 : Hid (Blk w2 q 92 (ints .i64 z4)) := B1.out.below be2 (Nat.lt_succ_self _)
 clear b2 be2 hs1 hs2 B1 BE1
 generalize hact : Act.put _ (some 1) _ = act
 simp only [Act.put, sA, sC, sZ] at hact
 subst hact
 go_wp2
 go_loopw [3] (fun iv wr => ∃ k : Nat, k ≤ 4 ∧ iv = .int .i64 (k : Int) ∧ Hid (Blk wr (q + 1) 92 (ints .i64 (nopK k))) ∧ Hid (Blk wr q 92 (ints .i64 z4)) ∧ Hid (Below q w wr)) (fun iv _ => 4 - (intOf iv).toNat)
 case atStart => exact ⟨0, Nat.zero_le _, rfl, B2, A2, BE2⟩
 case round =>
  obtain ⟨k, hk, rfl, BK, AK, BEK⟩ := hrel
  clear B2 A2 BE2
  by_cases hlt : k < 4
  ·have r1 : (k : Int) < 4 := by omega
   have BQ : Hid (q ≤ wr.heap.size) := Nat.le_of_lt AK.out.lt
   go_upto_region 4 with (fail)
   refine lbeg (opsOf Try.f80 4) ?_
   refine lnow 0 (.int .i64 (k : Int)) (some 5) ?_
   refine lnow 1 (.int .i64 (k : Int)) (some 2) ?_
   refine ldn 2 ?_
   generalize hact : Act.put _ (some 2) _ = act
   simp only [Act.put, sA, sC, sZ] at hact
   subst hact
   go_upto_region 5 with (fail)
   refine lbeg (opsOf Try.f80 5) ?_
   refine lnow 0 (.int .i64 (k : Int)) (some 6) ?_
   refine lix 1 (.pointer (some ⟨q + 1, 0 + k, none⟩)) (some 7) 92 1 6 (run_at_arr4 (q + 1) 0 k hlt _) ?_
   rw [Nat.zero_add]
   refine lin_cel 2 3 (.tmp 7) (.const (.int .i64 (-1))) (q + 1) (k) 92 (ints .i64 (nopK k)) (.int .i64 (-1)) (by kernel_rfl) (by kernel_rfl) (by kernel_rfl) (by kernel_rfl) (by kernel_rfl) BK.out (by rw [ints_length, nopK_len hk]; exact hlt) sizeInt rfl rfl ?_
   intro w3 b3 u3 hs3
   rw [nopK_set hlt] at b3
   refine ldn 3 ?_
   have B3 := Lib.hid b3
   have A3 : Hid (Blk w3 q 92 (ints .i64 z4)) := u3.blk AK.out (by omega)
   have BE3 : Hid (Below q w w3) := u3.below BEK.out (by omega) BQ.out
   clear b3 u3 hs3 BK AK BEK BQ
   generalize hact : Act.put _ none undef = act
   simp only [Act.put, sA, sC, sZ] at hact
   subst hact
   go_wp2
   go_roundw
   case rel => exact ⟨k + 1, by omega, by go_num, B3, A3, BE3⟩
   case measure => simp [intOf]; omega
  ·have r1 : ¬ (k : Int) < 4 := by omega
   obtain rfl : k = 4 := by omega
   go_upto_region 7 with (fail)
   refine lbeg (opsOf Try.f80 7) ?_
   refine lin_load 0 92 (.tmp 1) (q + 1) _ (ints .i64 (nopK 4)) (some 9) (by kernel_rfl) (by kernel_rfl) (by kernel_rfl) (by kernel_rfl) BK.out _ Try.underlying92 rfl (p4Size (nopK_len (Nat.le_refl _))) ?_
   refine lput 1 92 (.tmp 0) (.tmp 9) (q) _ (ints .i64 z4) (ints .i64 (nopK 4)) AK.out (rfl) (p4Size (nopK_len (Nat.le_refl _))) (ints_oneCell _ _) ?_
   intro w4 b4 u4
   refine ldn 2 ?_
   have B4 := Lib.hid b4
   have BE4 : Hid (Below q w w4) := u4.below BEK.out (Nat.le_refl _) (Nat.le_of_lt AK.out.lt)
   clear b4 u4 BK AK BEK
   generalize hact : Act.put _ none undef = act
   simp only [Act.put, sA, sC, sZ] at hact
   subst hact
   go_wp2
   refine bodyPost_ret (v := .agg (ints .i64 (nopK 4)).toArray) ?_ rfl ⟨rfl, BE4.out⟩
   exact results_cell_row (g := q) (t := 92) (cs := (ints .i64 (nopK 4)).toArray) (fr := (0, 0)) Try.results80 _ _ _ rfl B4.out Try.underlying92 rfl (by rw [List.size_toArray]; exact p4Size (nopK_len (Nat.le_refl _)))
theorem run_build_lv4 (b p0 p1 p2 p3 : Int) (w : World) : (Instr.build 94 #[(0, .int .i64 b), (1, .agg (ints .i64 [p0, p1, p2, p3]).toArray)]).run Try.prog w = .ok (.agg (ints .i64 [b, p0, p1, p2, p3]).toArray) w := by kernel_rfl
theorem run_build_lv {b : Int} {p : List Int} (h : p.length = 4) (w : World) : (Instr.build 94 #[(0, .int .i64 b), (1, .agg (ints .i64 p).toArray)]).run Try.prog w = .ok (.agg (ints .i64 (b :: p)).toArray) w :=
 match p, h with
 | [p0, p1, p2, p3], _ => run_build_lv4 b p0 p1 p2 p3 w
set_option maxHeartbeats 1000000 in
theorem num_walk (n : Int) (w : World) : Calls Try.prog 76 #[.int .i64 n] w fun e w' => e = .returned (.agg (ints .i64 (numL n).zs).toArray) ∧ Below w.heap.size w w' := by
 obtain ⟨q, hq⟩ : ∃ q, Hid (w.heap.size = q) := ⟨_, rfl⟩
 rw [hq.out]
 go_enter Try.func76, Try.ntmps76
 go_upto_region 0 with (fail)
 refine lbeg (opsOf Try.f76 0) ?_
 refine lin_alloc 0 94 (ints .i64 z5) (q) (some 2) (by kernel_rfl) (by kernel_rfl) (by kernel_rfl) zeroLv hq ?_
 intro w1 b1 be1 hs1
 refine ldn 1 ?_
 have B1 := Lib.hid b1
 have BE1 := Lib.hid be1
 have S1 : Hid (q ≤ w1.heap.size) := by rw [Hid, hs1.out]; exact Nat.le_succ _
 clear b1 be1 hs1
 generalize hact : Act.put _ (some 2) _ = act
 simp only [Act.put, sA, sC, sZ] at hact
 subst hact
 go_upto_region 1 with (fail)
 refine lbeg (opsOf Try.f76 1) ?_
 refine lnow 0 (.int .i64 n) (some 3) ?_
 refine lcal 1 80 #[] (some 4) _ (nop_walk _) ?_
 rintro e w2 ⟨rfl, hb2⟩
 refine ⟨_, rfl, ?_⟩
 refine lnowP 2 (.agg (ints .i64 (numL n).zs).toArray) (some 5) (exec_of (Instr.build 94 #[(0, .int .i64 n), (1, .agg (ints .i64 [-1, -1, -1, -1]).toArray)]) _ (by kernel_rfl) (run_build_lv rfl _)) ?_
 refine lput 3 94 (.tmp 2) (.tmp 5) (q) _ (ints .i64 z5) (ints .i64 (numL n).zs) (B1.out.below hb2 B1.out.lt) (rfl) (lvSize (l := numL n) rfl) (ints_oneCell _ _) ?_
 intro w3 b3 u3
 refine ldn 4 ?_
 have B3 := Lib.hid b3
 have BE3 : Hid (Below q w w3) := u3.below (BE1.out.trans (hb2.mono S1.out)) (Nat.le_refl _) (Nat.le_trans S1.out hb2.size)
 clear b3 u3 hb2
 generalize hact : Act.put _ none undef = act
 simp only [Act.put, sA, sC, sZ] at hact
 subst hact
 go_wp2
 refine bodyPost_ret (v := .agg (ints .i64 ((numL n).zs)).toArray) ?_ rfl ⟨rfl, BE3.out⟩
 exact results_cell_row (g := q) (t := 94) (cs := (ints .i64 ((numL n).zs)).toArray) (fr := (0, 0)) Try.results76 _ _ _ rfl B3.out Try.underlying94 rfl (by rw [List.size_toArray]; exact lvSize (l := numL n) rfl)
/-- A slice of levels: what it reads as. -/
def LvsIn (w : World) (v : Value) (ls : List Lv) : Prop :=
 ∃ a cap, v = .slice a ls.length cap ∧ ls.length ≤ cap ∧ ls.length ≤ 140737488355328 ∧ (∀ l ∈ ls, l.p.length = 4) ∧ (0 < ls.length → ∃ pb po, a = some ⟨pb, po, none⟩ ∧ pb < w.heap.size ∧ ∀ (i : Nat) (l : Lv), ls[i]? = some l → w.rangeAt pb (po + 5 * i) (ints .i64 l.zs))
theorem elemLvs : Try.prog.underlying 30 = some (.slice (Try.prog.elem 30)) := by kernel_rfl
theorem run_at_lv (B off n cap m : Nat) (hm : m < n) (w : World) : (Instr.indexAt 30 (.slice (some ⟨B, off, none⟩) n cap) (.int .i64 (m : Int))).run Try.prog w = .ok (.pointer (some ⟨B, off + 5 * m, none⟩)) w := by
 rw [run_indexAt_slice w 30 _ _ _ _ _ elemLvs]
 have hz : (sizeOf (Try.prog.elem 30)).run Try.prog w = .ok 5 w := by kernel_rfl
 rw [if_pos (by omega), hz, Result.andThen_ok, Addr.add_mid, Int.toNat_natCast, Nat.mul_comm]
theorem exec_max {P : Program} {a : Act} {w : World} {op : Oper} (ts : Array TypeId) (t : TypeId) (x y : Int) (h : execOp a.eval op = (Builtin.max_ ts t #[.int .i64 x, .int .i64 y] >>= fun x => pure (.value x))) : (execOp a.eval op).run P w = .ok (.value (.int .i64 (max x y))) w := by
 refine exec_of _ _ h ?_
 rw [run_max_int2]
 congr 2
 split <;> omega
theorem maxRow_snoc : ∀ (ls : List Lv) (l g : Lv), maxRow (ls ++ [l]) g = max2 (maxRow ls g) l
 | [], _, _ => rfl
 | x :: ls, l, g => maxRow_snoc ls l (max2 g x)
theorem maxRow_len : ∀ (ls : List Lv) (g : Lv), g.p.length = 4 → (∀ l ∈ ls, l.p.length = 4) → (maxRow ls g).p.length = 4
 | [], _, h, _ => h
 | x :: ls, g, h, hl => maxRow_len ls _ (max2_len h (hl x (by simp))) (fun l h => hl l (by simp [h]))
def maxPre (g l : List Int) (k : Nat) : List Int := (List.zipWith max g l).take k ++ g.drop k
theorem maxPre_set {x v : Int} {g l : List Int} (hg : g.length = 4) (hl : l.length = 4) {k : Nat} (hk : k < 4) (hv : max (g.getD k 0) (l.getD k 0) = v) : (ints .i64 (x :: maxPre g l k)).set (1 + k) (.int .i64 v) = ints .i64 (x :: maxPre g l (k + 1)) := by
 subst hv
 match g, hg, l, hl, k, hk with
 | [_, _, _, _], _, [_, _, _, _], _, 0, _ => rfl
 | [_, _, _, _], _, [_, _, _, _], _, 1, _ => rfl
 | [_, _, _, _], _, [_, _, _, _], _, 2, _ => rfl
 | [_, _, _, _], _, [_, _, _, _], _, 3, _ => rfl
theorem maxPre_cell {x : Int} {g l : List Int} (hg : g.length = 4) (hl : l.length = 4) {k : Nat} (hk : k < 4) : (ints .i64 (x :: maxPre g l k))[1 + k]? = some (.int .i64 (g.getD k 0)) := by
 match g, hg, l, hl, k, hk with
 | [_, _, _, _], _, [_, _, _, _], _, 0, _ => rfl
 | [_, _, _, _], _, [_, _, _, _], _, 1, _ => rfl
 | [_, _, _, _], _, [_, _, _, _], _, 2, _ => rfl
 | [_, _, _, _], _, [_, _, _, _], _, 3, _ => rfl
theorem maxPre_all {g l : List Int} (hg : g.length = 4) (hl : l.length = 4) : maxPre g l 4 = List.zipWith max g l := by
 rw [maxPre, List.take_of_length_le (by simp [hg, hl]), List.drop_of_length_le (by omega), List.append_nil]
theorem maxPre_len {g l : List Int} (hg : g.length = 4) (hl : l.length = 4) {k : Nat} (hk : k ≤ 4) : (maxPre g l k).length = 4 := by simp [maxPre, hg, hl]; omega
set_option maxHeartbeats 2000000 in
theorem max_walk (v : Value) (ls : List Lv) (w : World) (hv : LvsIn w v ls) : Calls Try.prog 78 #[v] w fun e w' => e = .returned (.agg (ints .i64 (maxL ls).zs).toArray) ∧ Below w.heap.size w w' := by
 obtain ⟨q, hq⟩ : ∃ q, Hid (w.heap.size = q) := ⟨_, rfl⟩
 have HV := Lib.hid hv
 obtain ⟨va, vc, rfl, -, hN, hl4, hvp⟩ := id hv
 obtain ⟨n, hn⟩ : ∃ n, Hid (ls.length = n) := ⟨_, rfl⟩
 rw [hn.out] at HV hN hvp ⊢
 rw [hq.out]
 have L4 := Lib.hid hl4
 have VP := Lib.hid hvp
 clear hv hl4 hvp
 go_enter Try.func78, Try.ntmps78
 go_upto_region 0 with (fail)
 refine lbeg (opsOf Try.f78 0) ?_
 refine lin_alloc 0 94 (ints .i64 z5) (q) (some 2) (by kernel_rfl) (by kernel_rfl) (by kernel_rfl) zeroLv hq ?_
 intro w1 b1 be1 hs1
 refine ldn 1 ?_
 have B1 := Lib.hid b1
 have BE1 := Lib.hid be1
 have S1 : Hid (q ≤ w1.heap.size) := by rw [Hid, hs1.out]; exact Nat.le_succ _
 clear b1 be1 hs1
 generalize hact : Act.put _ (some 2) _ = act
 simp only [Act.put, sA, sC, sZ] at hact
 subst hact
 go_upto_region 1 with (fail)
 refine lbeg (opsOf Try.f78 1) ?_
 refine lcal 0 76 #[.int .i64 0] (some 8) _ (num_walk 0 _) ?_
 rintro e w2 ⟨rfl, hb2⟩
 have B2 := Lib.hid (B1.out.below hb2 B1.out.lt)
 have BE2 : Hid (Below q w w2) := BE1.out.trans (hb2.mono S1.out)
 obtain ⟨g, hg⟩ : ∃ g, Hid (w2.heap.size = g) := ⟨_, rfl⟩
 have GQ : Hid (q < g) := by rw [Hid, ← hg.out]; exact B2.out.lt
 clear hb2 B1 BE1 S1
 refine ⟨_, rfl, ?_⟩
 refine lin_alloc 1 94 (ints .i64 z5) (g) (some 3) (by kernel_rfl) (by kernel_rfl) (by kernel_rfl) zeroLv hg ?_
 intro w3 b3 be3 hs3
 refine lput 2 94 (.tmp 3) (.tmp 8) (g) _ (ints .i64 z5) (ints .i64 (numL 0).zs) b3 (rfl) (lvSize (l := numL 0) rfl) (ints_oneCell _ _) ?_
 intro w4 b4 u4
 refine ldn 3 ?_
 have G4 : Hid (Blk w4 g 94 (ints .i64 (maxRow (ls.take 0) (numL 0)).zs)) := b4
 have Z4 : Hid (Blk w4 q 94 (ints .i64 z5)) := u4.blk (B2.out.below be3 GQ.out) (by have := GQ.out; omega)
 have BE4 : Hid (Below q w w4) := u4.below (BE2.out.trans (be3.mono (Nat.le_of_lt GQ.out))) (Nat.le_of_lt GQ.out) (by rw [hs3.out]; have := GQ.out; omega)
 clear b3 be3 hs3 b4 u4 B2 BE2
 generalize hact : Act.put _ none undef = act
 simp only [Act.put, sA, sC, sZ] at hact
 subst hact
 go_wp2
 go_loopw [11] (fun iv wr => ∃ i : Nat, i ≤ n ∧ iv = .int .i64 (i : Int) ∧ Hid ((ls.take i).all rightL = true) ∧ Hid (Blk wr g 94 (ints .i64 (maxRow (ls.take i) (numL 0)).zs)) ∧ Hid (Blk wr q 94 (ints .i64 z5)) ∧ Hid (Below q w wr)) (fun iv _ => n - (intOf iv).toNat)
 case atStart => exact ⟨0, Nat.zero_le _, rfl, rfl, G4, Z4, BE4⟩
 case round =>
  obtain ⟨i, hi, rfl, RT, GB, ZB, BEB⟩ := hrel
  clear G4 Z4 BE4
  by_cases hil : i < n
  ·have r1 : (i : Int) < (n : Int) := by omega
   obtain ⟨l, hl⟩ : ∃ l, ls[i]? = some l := ⟨_, List.getElem?_eq_getElem (by rw [hn.out]; exact hil)⟩
   have HL : Hid (l.p.length = 4) := L4.out l (List.mem_of_getElem? hl)
   have TK : Hid (ls.take (i + 1) = ls.take i ++ [l]) := by rw [Hid, List.take_add_one, hl]; rfl
   obtain ⟨pb, po, eva, hpb, hrg⟩ := VP.out (by omega)
   subst eva
   have RG : Hid (∀ W, Below q w W → W.rangeAt pb (po + 5 * i) (ints .i64 l.zs)) := fun W hW j u hu => by rw [hW.cell (p := ⟨pb, _, none⟩) (by rw [← hq.out]; exact hpb)]; exact hrg i l hl j u hu
   have GR : Hid ((maxRow (ls.take i) (numL 0)).p.length = 4) := maxRow_len _ _ rfl (fun x hx => L4.out x (List.mem_of_mem_take hx))
   have SN : Hid (maxRow (ls.take (i + 1)) (numL 0) = max2 (maxRow (ls.take i) (numL 0)) l) := by rw [Hid, TK.out, maxRow_snoc]
   have AR : Hid ((ls.take (i + 1)).all rightL = ((ls.take i).all rightL && rightL l)) := by rw [Hid, TK.out, List.all_append]; simp
   obtain ⟨G, hG⟩ : ∃ G, Hid (maxRow (ls.take i) (numL 0) = G) := ⟨_, rfl⟩
   rw [hG.out] at GB GR SN
   obtain ⟨t5, ht5⟩ : ∃ g, Hid (wr.heap.size = g) := ⟨_, rfl⟩
   have T5 : Hid (q < t5 ∧ g < t5) := by rw [Hid, ← ht5.out]; exact ⟨ZB.out.lt, GB.out.lt⟩
   clear hl hrg TK hpb
   go_upto_region 4 with (fail)
   refine lbeg (opsOf Try.f78 4) ?_
   refine lix 0 (.pointer (some ⟨pb, po + 5 * i, none⟩)) (some 13) 30 9 11 (run_at_lv pb po n vc i hil _) ?_
   refine lrl 1 (ints .i64 l.zs) (some 14) 94 13 pb (po + 5 * i) (RG.out _ BEB.out) Try.underlying94 (lvSize HL.out) ?_
   refine lin_alloc 2 94 (ints .i64 z5) (t5) (some 5) (by kernel_rfl) (by kernel_rfl) (by kernel_rfl) zeroLv ht5 ?_
   intro w5 b5 be5 hs5
   refine lput 3 94 (.tmp 5) (.tmp 14) (t5) _ (ints .i64 z5) (ints .i64 l.zs) b5 ((by rw [Lv.zlen HL.out]; rfl)) (lvSize HL.out) (ints_oneCell _ _) ?_
   intro w6 b6 u6
   refine ldn 4 ?_
   have L6 := Lib.hid b6
   have G6 : Hid (Blk w6 g 94 (ints .i64 G.zs)) := u6.blk (GB.out.below be5 T5.out.2) (by have := T5.out; omega)
   have Z6 : Hid (Blk w6 q 94 (ints .i64 z5)) := u6.blk (ZB.out.below be5 T5.out.1) (by have := T5.out; omega)
   have BE6 : Hid (Below q w w6) := u6.below (BEB.out.trans (be5.mono (Nat.le_of_lt T5.out.1))) (Nat.le_of_lt T5.out.1) (by rw [hs5.out]; have := T5.out; omega)
   clear b5 be5 hs5 b6 u6 GB ZB BEB ht5
   generalize hact : Act.put _ none undef = act
   simp only [Act.put, sA, sC, sZ] at hact
   subst hact
   go_upto_region 5 with (fail)
   refine lbeg (opsOf Try.f78 5) ?_
   refine lin_load 0 94 (.tmp 5) (t5) _ (ints .i64 l.zs) (some 15) (by kernel_rfl) (by kernel_rfl) (by kernel_rfl) (by kernel_rfl) L6.out _ Try.underlying94 rfl (lvSize HL.out) ?_
   refine lcal 1 79 #[.agg (ints .i64 l.zs).toArray] (some 16) _ (right_walk l HL.out _) ?_
   rintro e w7 ⟨rfl, hb7⟩
   obtain ⟨rb, hrb⟩ : ∃ x, Hid (rightL l = x) := ⟨_, rfl⟩
   rw [hrb.out]
   refine ⟨_, rfl, ?_⟩
   refine lnow 2 (.bool (!rb)) (some 17) ?_
   refine ldn 3 ?_
   have L7 := Lib.hid (L6.out.below hb7 L6.out.lt)
   have G7 := Lib.hid (G6.out.below hb7 G6.out.lt)
   have Z7 := Lib.hid (Z6.out.below hb7 Z6.out.lt)
   have BE7 : Hid (Below q w w7) := BE6.out.trans (hb7.mono (Nat.le_of_lt Z6.out.lt))
   clear hb7 L6 G6 Z6 BE6
   generalize hact : Act.put _ (some 17) _ = act
   simp only [Act.put, sA, sC, sZ] at hact
   subst hact
   cases rb with
   | false =>
    have NO : Hid (maxL ls = numL (-1)) := maxL_wrong (by
     rw [Bool.eq_false_iff]
     intro hc
     have := List.all_eq_true.1 hc
     have h2 : (ls.take (i + 1)).all rightL = true := List.all_eq_true.2 (fun x hx => this x (List.mem_of_mem_take hx))
     rw [AR.out, hrb.out, Bool.and_false] at h2
     cases h2)
    go_upto_region 6 with (fail)
    refine lbeg (opsOf Try.f78 6) ?_
    refine lcal 0 76 #[.int .i64 (-1)] (some 18) _ (num_walk (-1) _) ?_
    rintro e w8 ⟨rfl, hb8⟩
    refine ⟨_, rfl, ?_⟩
    refine lput 1 94 (.tmp 2) (.tmp 18) (q) _ (ints .i64 z5) (ints .i64 (numL (-1)).zs) (Z7.out.below hb8 Z7.out.lt) (rfl) (lvSize (l := numL (-1)) rfl) (ints_oneCell _ _) ?_
    intro w9 b9 u9
    refine ldn 2 ?_
    have B9 := Lib.hid b9
    have BE9 : Hid (Below q w w9) := u9.below (BE7.out.trans (hb8.mono (Nat.le_of_lt Z7.out.lt))) (Nat.le_refl _) (Nat.le_of_lt (Nat.lt_of_lt_of_le Z7.out.lt hb8.size))
    clear b9 u9 hb8
    generalize hact : Act.put _ none undef = act
    simp only [Act.put, sA, sC, sZ] at hact
    subst hact
    go_wp2
    refine bodyPost_ret (v := .agg (ints .i64 ((numL (-1)).zs)).toArray) ?_ rfl ⟨by rw [NO.out], BE9.out⟩
    exact results_cell_row (g := q) (t := 94) (cs := (ints .i64 ((numL (-1)).zs)).toArray) (fr := (0, 0)) Try.results78 _ _ _ rfl B9.out Try.underlying94 rfl (by rw [List.size_toArray]; exact lvSize (l := numL (-1)) rfl)
   | true =>
    go_upto_region 7 with (fail)
    refine lbeg (opsOf Try.f78 7) ?_
    refine lnow 0 (.pointer (some ⟨g, 0, none⟩)) (some 19) ?_
    refine lcl 1 (.int .i64 G.b) (some 20) 3 19 g 0 G7.out.base Try.underlying3 ?_
    refine lnow 2 (.pointer (some ⟨t5, 0, none⟩)) (some 21) ?_
    refine lcl 3 (.int .i64 l.b) (some 22) 3 21 t5 0 L7.out.base Try.underlying3 ?_
    refine lnowP 4 (.int .i64 (max G.b l.b)) (some 23) (exec_max #[3, 3] 3 G.b l.b (by kernel_rfl)) ?_
    refine lnow 5 (.pointer (some ⟨g, 0, none⟩)) (some 24) ?_
    refine lin_cel 6 3 (.tmp 24) (.tmp 23) (g) (0) 94 (ints .i64 G.zs) (.int .i64 (max G.b l.b)) (by kernel_rfl) (by kernel_rfl) (by kernel_rfl) (by kernel_rfl) (by kernel_rfl) G7.out (by rw [Lv.zlen GR.out]; omega) sizeInt rfl rfl ?_
    intro w8 b8 u8 hs8
    refine ldn 7 ?_
    have G8 : Hid (Blk w8 g 94 (ints .i64 (max G.b l.b :: maxPre G.p l.p 0))) := b8
    have L8 : Hid (Blk w8 t5 94 (ints .i64 l.zs)) := u8.blk L7.out (by have := T5.out; omega)
    have Z8 : Hid (Blk w8 q 94 (ints .i64 z5)) := u8.blk Z7.out (by have := GQ.out; omega)
    have BE8 : Hid (Below q w w8) := u8.below BE7.out (Nat.le_of_lt GQ.out) (Nat.le_of_lt Z7.out.lt)
    clear b8 u8 hs8 L7 G7 Z7 BE7
    generalize hact : Act.put _ none undef = act
    simp only [Act.put, sA, sC, sZ] at hact
    subst hact
    go_upto_region 8 with (fail)
    refine lbeg (opsOf Try.f78 8) ?_
    refine lnow 0 (.pointer (some ⟨t5, 1, none⟩)) (some 25) ?_
    refine lrl 1 (ints .i64 l.p) (some 26) 92 25 t5 1 L8.out.plus Try.underlying92 (p4Size HL.out) ?_
    refine lnow 2 (.int .i64 0) (some 27) ?_
    refine ldn 3 ?_
    clear L8
    generalize hact : Act.put _ (some 27) _ = act
    simp only [Act.put, sA, sC, sZ] at hact
    subst hact
    go_wp2
    go_loopw [27] (fun iv wr => ∃ k : Nat, k ≤ 4 ∧ iv = .int .i64 (k : Int) ∧ Hid (Blk wr g 94 (ints .i64 (max G.b l.b :: maxPre G.p l.p k))) ∧ Hid (Blk wr q 94 (ints .i64 z5)) ∧ Hid (Below q w wr)) (fun iv _ => 4 - (intOf iv).toNat)
    case atStart => exact ⟨0, Nat.zero_le _, rfl, G8, Z8, BE8⟩
    case round =>
     obtain ⟨k, hk, rfl, BK, ZK, BEK⟩ := hrel
     clear G8 Z8 BE8
     by_cases hlt : k < 4
     ·have r2 : (k : Int) < 4 := by omega
      go_upto_region 10 with (fail)
      refine lbeg (opsOf Try.f78 10) ?_
      refine lnow 0 (.int .i64 (k : Int)) (some 29) ?_
      refine lnowP 1 (.int .i64 (l.p.getD k 0)) (some 30) (exec_index 92 3 (.tmp 26) (.tmp 27) (by kernel_rfl) 4 .i64 Try.underlying92 Try.underlying3 (by kernel_rfl) l.p HL.out (by kernel_rfl) k (by kernel_rfl) hlt) ?_
      refine lnow 2 (.int .i64 (k : Int)) (some 6) ?_
      refine lnow 3 (.int .i64 (l.p.getD k 0)) (some 7) ?_
      refine ldn 4 ?_
      generalize hact : Act.put _ (some 7) _ = act
      simp only [Act.put, sA, sC, sZ] at hact
      subst hact
      go_upto_region 11 with (fail)
      refine lbeg (opsOf Try.f78 11) ?_
      refine lnow 0 (.int .i64 (k : Int)) (some 31) ?_
      refine lnow 1 (.int .i64 (k : Int)) (some 32) ?_
      refine lnow 2 (.pointer (some ⟨g, 1, none⟩)) (some 33) ?_
      refine lix 3 (.pointer (some ⟨g, 1 + k, none⟩)) (some 34) 92 33 32 (run_at_arr4 g 1 k hlt _) ?_
      refine lcl 4 (.int .i64 (G.p.getD k 0)) (some 35) 3 34 g (1 + k) (BK.out.cell (maxPre_cell GR.out HL.out hlt)) Try.underlying3 ?_
      refine lnow 5 (.int .i64 (l.p.getD k 0)) (some 36) ?_
      refine lnowP 6 (.int .i64 (max (G.p.getD k 0) (l.p.getD k 0))) (some 37) (exec_max #[3, 3] 3 (G.p.getD k 0) (l.p.getD k 0) (by kernel_rfl)) ?_
      refine lnow 7 (.pointer (some ⟨g, 1, none⟩)) (some 38) ?_
      refine lix 8 (.pointer (some ⟨g, 1 + k, none⟩)) (some 39) 92 38 31 (run_at_arr4 g 1 k hlt _) ?_
      refine lin_cel 9 3 (.tmp 39) (.tmp 37) (g) (1 + k) 94 (ints .i64 (max G.b l.b :: maxPre G.p l.p k)) (.int .i64 (max (G.p.getD k 0) (l.p.getD k 0))) (by kernel_rfl) (by kernel_rfl) (by kernel_rfl) (by kernel_rfl) (by kernel_rfl) BK.out (by rw [ints_length, List.length_cons, maxPre_len GR.out HL.out hk]; omega) sizeInt rfl rfl ?_
      intro w9 b9 u9 hs9
      rw [maxPre_set GR.out HL.out hlt rfl] at b9
      refine ldn 10 ?_
      have B9 := Lib.hid b9
      have Z9 : Hid (Blk w9 q 94 (ints .i64 z5)) := u9.blk ZK.out (by have := GQ.out; omega)
      have BE9 : Hid (Below q w w9) := u9.below BEK.out (Nat.le_of_lt GQ.out) (Nat.le_of_lt ZK.out.lt)
      clear b9 u9 hs9 BK ZK BEK
      generalize hact : Act.put _ none undef = act
      simp only [Act.put, sA, sC, sZ] at hact
      subst hact
      go_wp2
      go_roundw
      case rel => exact ⟨k + 1, by omega, by go_num, B9, Z9, BE9⟩
      case measure => simp [intOf]; omega
     ·have r2 : ¬ (k : Int) < 4 := by omega
      obtain rfl : k = 4 := by omega
      have BL : Hid (Blk wr g 94 (ints .i64 (maxRow (ls.take (i + 1)) (numL 0)).zs)) := by
       rw [Hid, SN.out]
       have := BK.out
       rw [maxPre_all GR.out HL.out] at this
       exact this
      have RT2 : Hid ((ls.take (i + 1)).all rightL = true) := by rw [Hid, AR.out, RT.out, hrb.out]; rfl
      clear BK
      go_wp2
      go_roundw
      case rel => exact ⟨i + 1, by omega, by go_num, RT2, BL, ZK, BEK⟩
      case measure => simp [intOf]; omega
  ·have r1 : ¬ (i : Int) < (n : Int) := by omega
   have EQ : Hid (maxRow (ls.take i) (numL 0) = maxL ls) := by
    have h1 : ls.take i = ls := List.take_of_length_le (by have := hn.out; omega)
    have h2 := RT.out
    rw [h1] at h2
    rw [Hid, h1, maxL, if_pos h2]
   have ML : Hid ((maxL ls).p.length = 4) := by rw [Hid, ← EQ.out]; exact maxRow_len _ _ rfl (fun x hx => L4.out x (List.mem_of_mem_take hx))
   rw [EQ.out] at GB
   go_upto_region 14 with (fail)
   refine lbeg (opsOf Try.f78 14) ?_
   refine lin_load 0 94 (.tmp 3) (g) _ (ints .i64 (maxL ls).zs) (some 42) (by kernel_rfl) (by kernel_rfl) (by kernel_rfl) (by kernel_rfl) GB.out _ Try.underlying94 rfl (lvSize ML.out) ?_
   refine lput 1 94 (.tmp 2) (.tmp 42) (q) _ (ints .i64 z5) (ints .i64 (maxL ls).zs) ZB.out ((by rw [Lv.zlen ML.out]; rfl)) (lvSize ML.out) (ints_oneCell _ _) ?_
   intro w9 b9 u9
   refine ldn 2 ?_
   have B9 := Lib.hid b9
   have BE9 : Hid (Below q w w9) := u9.below BEB.out (Nat.le_refl _) (Nat.le_of_lt ZB.out.lt)
   clear b9 u9
   generalize hact : Act.put _ none undef = act
   simp only [Act.put, sA, sC, sZ] at hact
   subst hact
   go_wp2
   refine bodyPost_ret (v := .agg (ints .i64 ((maxL ls).zs)).toArray) ?_ rfl ⟨rfl, BE9.out⟩
   exact results_cell_row (g := q) (t := 94) (cs := (ints .i64 ((maxL ls).zs)).toArray) (fr := (0, 0)) Try.results78 _ _ _ rfl B9.out Try.underlying94 rfl (by rw [List.size_toArray]; exact lvSize ML.out)
end Go.Proofs.Ytdacmogedchnaaa
