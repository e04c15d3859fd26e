/- Package level: Right, Num, Param, Width, Value, Up. -/
import Derived.Test.YtlheikhjgdhmmaaGenF
import Derived.Test.YtlheikhjgdhmmaaGenS
import Derived.Test.YtlheikhjgdhmmaaLevM
import Derived.IntWalk
namespace Go.Proofs.Ytlheikhjgdhmmaa
open Go Go.RowKit
set_option maxRecDepth 100000

theorem bool_eq {a b : Bool} (h : a = b) : Ending.returned (.bool a) = .returned (.bool b) := by rw [h]
/-- A level as the program has it: its five numbers. -/
def Lv.cells (l : Lv) : List Value := ints .i64 l.zs
def Lv.val (l : Lv) : Value := .agg (ints .i64 l.zs).toArray
theorem Lv.zlen {l : Lv} (h : l.p.length = 4) : (ints .i64 l.zs).length = 5 := by rw [ints_length]; simp [Lv.zs, h]
theorem lvSize {l : Lv} (h : l.p.length = 4) : (Try.prog.info? 48).map (·.size) = some (ints .i64 l.zs).length := by rw [Lv.zlen h]; kernel_rfl
theorem p4Size {p : List Int} (h : p.length = 4) : (Try.prog.info? 46).map (·.size) = some (ints .i64 p).length := by rw [ints_length, h]; kernel_rfl
theorem Blk.plus {w : World} {b : Nat} {t : TypeId} {l : Lv} (h : Blk w b t (ints .i64 l.zs)) : w.rangeAt b 1 (ints .i64 l.p) := fun j v hv => by
  refine h.cell (j := 1 + j) ?_
  rw [Nat.add_comm]
  exact hv
theorem Blk.base {w : World} {b : Nat} {t : TypeId} {l : Lv} (h : Blk w b t (ints .i64 l.zs)) : w.cell? ⟨b, 0, none⟩ = some (.int .i64 l.b) := h.cell rfl
/-- 'a[i]' of an array of integers by value. -/
theorem exec_index {P : Program} {a : Act} {w : World} {op : Oper} (t e : TypeId) (x ix : Operand) (ho : op.op = .index t x ix) (n : Nat) (k : IntKind) (ht : P.underlying t = some (.array n e)) (he : P.underlying e = some (.int k)) (hs : (P.info? e).map (·.size) = some 1)
    (l : List Int) (hl : l.length = n) (hx : a.eval x = .agg (ints k l).toArray) (i : Nat) (hi : a.eval ix = .int .i64 (i : Int)) (h : i < n) : (execOp a.eval op).run P w = .ok (.value (.int k (l.getD i 0))) w := by
  obtain ⟨inf, hi1, hi2⟩ := Option.map_eq_some_iff.1 hs
  have hp := run_part_ints w he l i (by omega)
  have hr : (Instr.index t (.agg (ints k l).toArray) (.int .i64 (i : Int))).run P w = .ok (.int k (l.getD i 0)) w := by
    unfold Instr.index
    simp only [Sem.run_bind, run_underlying ht, asIntOf, Sem.run_pure, Result.andThen_ok]
    have hn : (0 : Int) ≤ (i : Int) ∧ (i : Int) < (n : Int) := by omega
    simp only [hn, and_self, if_true, Sem.run_bind, Int.toNat_natCast]
    simpa [sizeOf, typeInfo, hi1, hi2] using hp
  unfold execOp
  simp only [ho, hx, hi, Sem.run_bind, hr, Result.andThen_ok]
  rfl
set_option maxHeartbeats 1000000 in
theorem inb_walk (n : Int) (w : World) : Calls Try.prog 61 #[.int .i64 n] w fun e w' => e = .returned (.bool (decide (0 ≤ n) && decide (n ≤ 100))) ∧ w = w' := by
  by_cases h0 : 0 ≤ n
  · by_cases h1 : n ≤ 100
    · go_enter Try.func61, Try.ntmps61
      go_wp2
      go_ret
      exact ⟨by simp [h0, h1], rfl⟩
    · go_enter Try.func61, Try.ntmps61
      go_wp2
      go_ret
      exact ⟨by simp; omega, rfl⟩
  · go_enter Try.func61, Try.ntmps61
    go_wp2
    go_ret
    exact ⟨by simp; omega, rfl⟩
theorem inb_yes (n : Int) (w : World) (h0 : 0 ≤ n) (h1 : n ≤ 100) : Calls Try.prog 61 #[.int .i64 n] w fun e w' => e = .returned (.bool true) ∧ w = w' :=
  (inb_walk n w).mono fun _ _ ⟨he, hw⟩ => ⟨by rw [he]; simp [h0, h1], hw⟩
theorem inb_no (n : Int) (w : World) (h : n < 0 ∨ 100 < n) : Calls Try.prog 61 #[.int .i64 n] w fun e w' => e = .returned (.bool false) ∧ w = w' :=
  (inb_walk n w).mono fun _ _ ⟨he, hw⟩ => ⟨by rw [he]; simp; omega, hw⟩
set_option maxHeartbeats 1000000 in
theorem right_walk (l : Lv) (hl : l.p.length = 4) (w : World) : Calls Try.prog 56 #[.agg (ints .i64 l.zs).toArray] w fun e w' => e = .returned (.bool (rightL l)) ∧ Below w.heap.size w w' := by
  obtain ⟨q, hq⟩ : ∃ q, Hid (w.heap.size = q) := ⟨_, rfl⟩
  have HL := Lib.hid hl
  clear hl
  go_enter Try.func56, Try.ntmps56
  go_upto_region 0 with (fail)
  refine lin_begin (opsOf Try.f56 0) (by kernel_rfl) ?_
  refine lin_box 0 48 (.tmp 0) (ints .i64 l.zs) q (some 1) (by kernel_rfl) (by kernel_rfl) (by kernel_rfl) (by kernel_rfl) hq ?_
  intro w1 b1 be1 hs1
  refine lin_now 1 (.bool false) (some 2) (by kernel_rfl) (by kernel_rfl) (by kernel_rfl) ?_
  refine lin_done 2 (by kernel_rfl) ?_
  have B1 := Lib.hid b1
  have BE : Hid (Below w.heap.size w w1) := by rw [Hid, hq.out]; exact be1
  clear b1 be1 hs1
  generalize hact : Act.put _ (some 2) _ = act
  simp only [Act.put, List.setIfInBounds_toArray, List.set_cons_succ, List.set_cons_zero] at hact
  subst hact
  go_upto_region 1 with (fail)
  refine lin_begin (opsOf Try.f56 1) (by kernel_rfl) ?_
  refine lin_now 0 (.pointer (some ⟨q, 0, none⟩)) (some 5) (by kernel_rfl) (by kernel_rfl) (by kernel_rfl) ?_
  refine lin_now 1 (.int .i64 l.b) (some 6) (by kernel_rfl) (by kernel_rfl) (exec_load_cell 3 (.tmp 5) (by kernel_rfl) q 0 (by kernel_rfl) _ B1.out.base _ Try.underlying3 rfl) ?_
  refine lin_call 2 61 #[.int .i64 l.b] (some 7) _ (by kernel_rfl) (by kernel_rfl) (by kernel_rfl) (inb_walk _ _) ?_
  rintro e w' ⟨rfl, rfl⟩
  obtain ⟨ib, hib⟩ : ∃ x, Hid ((decide (0 ≤ l.b) && decide (l.b ≤ 100)) = x) := ⟨_, rfl⟩
  rw [hib.out]
  refine ⟨_, rfl, ?_⟩
  refine lin_now 3 (.bool (!ib)) (some 8) (by kernel_rfl) (by kernel_rfl) (by kernel_rfl) ?_
  refine lin_done 4 (by kernel_rfl) ?_
  generalize hact : Act.put _ (some 8) _ = act
  simp only [Act.put, List.setIfInBounds_toArray, List.set_cons_succ, List.set_cons_zero] at hact
  subst hact
  cases ib with
  | false =>
    have NO : Hid (rightL l = false) := by rw [Hid, rightL, hib.out, Bool.false_and]
    go_wp2
    go_ret
    exact ⟨bool_eq NO.out.symm, BE.out⟩
  | true =>
    have IB : Hid (0 ≤ l.b ∧ l.b ≤ 100) := by unfold Hid; have := hib.out; simpa using this
    clear hib
    go_upto_region 3 with (fail)
    refine lin_begin (opsOf Try.f56 3) (by kernel_rfl) ?_
    refine lin_now 0 (.pointer (some ⟨q, 1, none⟩)) (some 9) (by kernel_rfl) (by kernel_rfl) (by kernel_rfl) ?_
    refine lin_now 1 (.agg (ints .i64 l.p).toArray) (some 10) (by kernel_rfl) (by kernel_rfl) (exec_load_mid 46 (.tmp 9) (by kernel_rfl) q 1 (by kernel_rfl) (ints .i64 l.p) _ B1.out.plus Try.underlying46 rfl (p4Size HL.out)) ?_
    refine lin_now 2 (.int .i64 0) (some 11) (by kernel_rfl) (by kernel_rfl) (by kernel_rfl) ?_
    refine lin_done 3 (by kernel_rfl) ?_
    generalize hact : Act.put _ (some 11) _ = act
    simp only [Act.put, List.setIfInBounds_toArray, List.set_cons_succ, List.set_cons_zero] at hact
    subst hact
    go_wp2
    go_loop [11] (fun iv => ∃ k : Nat, k ≤ 4 ∧ iv = .int .i64 (k : Int) ∧ Hid (∀ i, i < k → -1 ≤ l.p.getD i 0 ∧ l.p.getD i 0 ≤ l.b)) (fun iv => 4 - (intOf iv).toNat)
    case atStart => exact ⟨0, Nat.zero_le _, rfl, fun i hi => by omega⟩
    case round =>
      obtain ⟨k, hk, rfl, hR⟩ := hrel
      by_cases hlt : k < 4
      · have r1 : (k : Int) < 4 := by omega
        go_upto_region 5 with (fail)
        refine lin_begin (opsOf Try.f56 5) (by kernel_rfl) ?_
        refine lin_now 0 (.int .i64 (l.p.getD k 0)) (some 13) (by kernel_rfl) (by kernel_rfl) (exec_index 46 3 (.tmp 10) (.tmp 11) (by kernel_rfl) 4 .i64 Try.underlying46 Try.underlying3 (by kernel_rfl) l.p HL.out (by kernel_rfl) k (by kernel_rfl) hlt) ?_
        refine lin_now 1 (.int .i64 (l.p.getD k 0)) (some 4) (by kernel_rfl) (by kernel_rfl) (by kernel_rfl) ?_
        refine lin_done 2 (by kernel_rfl) ?_
        generalize hact : Act.put _ (some 4) _ = act
        simp only [Act.put, List.setIfInBounds_toArray, List.set_cons_succ, List.set_cons_zero] at hact
        subst hact
        obtain ⟨x, hx⟩ : ∃ x, Hid (l.p.getD k 0 = x) := ⟨_, rfl⟩
        rw [hx.out]
        have c0 := B1.out.base
        obtain ⟨bb, hbb⟩ : ∃ x, Hid (l.b = x) := ⟨_, rfl⟩
        rw [hbb.out] at c0
        have NO : Hid (¬ (-1 ≤ x ∧ x ≤ bb) → rightL l = false) := fun h => by
          rw [Bool.eq_false_iff]
          intro hr
          have := right_at hr (i := k) (by rw [HL.out]; exact hlt)
          rw [hx.out, hbb.out] at this
          exact h this
        by_cases h2 : x < -1
        · go_wp2
          go_ret
          exact ⟨bool_eq (NO.out (by omega)).symm, BE.out⟩
        · by_cases h3 : bb < x
          · go_wp2
            go_ret
            exact ⟨bool_eq (NO.out (by omega)).symm, BE.out⟩
          · have hR2 : Hid (∀ i, i < k + 1 → -1 ≤ l.p.getD i 0 ∧ l.p.getD i 0 ≤ l.b) := fun i hi => by
              by_cases e : i = k
              · subst e
                rw [hx.out, hbb.out]
                omega
              · exact hR.out i (by omega)
            go_wp2
            go_round
            case rel => exact ⟨k + 1, by omega, by go_num, hR2⟩
            case measure => simp [intOf]; omega
      · have r1 : ¬ (k : Int) < 4 := by omega
        have YES : Hid (rightL l = true) := right_all HL.out IB.out.1 IB.out.2 (fun i hi => hR.out i (by omega))
        go_wp2
        go_ret
        exact ⟨bool_eq YES.out.symm, BE.out⟩
set_option maxHeartbeats 1000000 in
theorem width_walk (l : Lv) (hl : l.p.length = 4) (w : World) : Calls Try.prog 57 #[.agg (ints .i64 l.zs).toArray] w fun e w' => e = .returned (.int .i64 (widthL l : Int)) ∧ Below w.heap.size w w' := by
  obtain ⟨q, hq⟩ : ∃ q, Hid (w.heap.size = q) := ⟨_, rfl⟩
  have HL := Lib.hid hl
  clear hl
  go_enter Try.func57, Try.ntmps57
  go_upto_region 0 with (fail)
  refine lin_begin (opsOf Try.f57 0) (by kernel_rfl) ?_
  refine lin_box 0 48 (.tmp 0) (ints .i64 l.zs) q (some 1) (by kernel_rfl) (by kernel_rfl) (by kernel_rfl) (by kernel_rfl) hq ?_
  intro w1 b1 be1 hs1
  refine lin_now 1 (.int .i64 0) (some 2) (by kernel_rfl) (by kernel_rfl) (by kernel_rfl) ?_
  refine lin_done 2 (by kernel_rfl) ?_
  have B1 := Lib.hid b1
  have BE : Hid (Below w.heap.size w w1) := by rw [Hid, hq.out]; exact be1
  clear b1 be1 hs1
  generalize hact : Act.put _ (some 2) _ = act
  simp only [Act.put, List.setIfInBounds_toArray, List.set_cons_succ, List.set_cons_zero] at hact
  subst hact
  go_upto_region 2 with (fail)
  refine lin_begin (opsOf Try.f57 2) (by kernel_rfl) ?_
  refine lin_now 0 (.pointer (some ⟨q, 1, none⟩)) (some 6) (by kernel_rfl) (by kernel_rfl) (by kernel_rfl) ?_
  refine lin_now 1 (.agg (ints .i64 l.p).toArray) (some 7) (by kernel_rfl) (by kernel_rfl) (exec_load_mid 46 (.tmp 6) (by kernel_rfl) q 1 (by kernel_rfl) (ints .i64 l.p) _ B1.out.plus Try.underlying46 rfl (p4Size HL.out)) ?_
  refine lin_now 2 (.int .i64 0) (some 8) (by kernel_rfl) (by kernel_rfl) (by kernel_rfl) ?_
  refine lin_done 3 (by kernel_rfl) ?_
  generalize hact : Act.put _ (some 8) _ = act
  simp only [Act.put, List.setIfInBounds_toArray, List.set_cons_succ, List.set_cons_zero] at hact
  subst hact
  go_wp2
  go_loop [3, 8] (fun wv iv => ∃ k : Nat, k ≤ 4 ∧ iv = .int .i64 (k : Int) ∧ wv = .int .i64 (widthUp l k : Int)) (fun _ iv => 4 - (intOf iv).toNat)
  case atStart => exact ⟨0, Nat.zero_le _, rfl, rfl⟩
  case round =>
    obtain ⟨k, hk, rfl, rfl⟩ := hrel
    by_cases hlt : k < 4
    · have r1 : (k : Int) < 4 := by omega
      go_upto_region 4 with (fail)
      refine lin_begin (opsOf Try.f57 4) (by kernel_rfl) ?_
      refine lin_now 0 (.int .i64 (k : Int)) (some 10) (by kernel_rfl) (by kernel_rfl) (by kernel_rfl) ?_
      refine lin_now 1 (.int .i64 (l.p.getD k 0)) (some 11) (by kernel_rfl) (by kernel_rfl) (exec_index 46 3 (.tmp 7) (.tmp 8) (by kernel_rfl) 4 .i64 Try.underlying46 Try.underlying3 (by kernel_rfl) l.p HL.out (by kernel_rfl) k (by kernel_rfl) hlt) ?_
      refine lin_now 2 (.int .i64 (k : Int)) (some 4) (by kernel_rfl) (by kernel_rfl) (by kernel_rfl) ?_
      refine lin_now 3 (.int .i64 (l.p.getD k 0)) (some 5) (by kernel_rfl) (by kernel_rfl) (by kernel_rfl) ?_
      refine lin_done 4 (by kernel_rfl) ?_
      generalize hact : Act.put _ (some 5) _ = act
      simp only [Act.put, List.setIfInBounds_toArray, List.set_cons_succ, List.set_cons_zero] at hact
      subst hact
      obtain ⟨x, hx⟩ : ∃ x, Hid (l.p.getD k 0 = x) := ⟨_, rfl⟩
      rw [hx.out]
      obtain ⟨u, hu⟩ : ∃ x, Hid (widthUp l k = x) := ⟨_, rfl⟩
      rw [hu.out]
      by_cases h2 : x = -1
      · have e2 : Hid (widthUp l (k + 1) = u) := by rw [Hid, widthUp, hx.out, if_pos h2, hu.out]
        subst h2
        go_wp2
        go_round
        case rel => exact ⟨k + 1, by omega, by go_num, by rw [e2.out]⟩
        case measure => simp [intOf]; omega
      · have e2 : Hid (widthUp l (k + 1) = k + 1) := by rw [Hid, widthUp, hx.out, if_neg h2]
        go_wp2
        go_round
        case rel => exact ⟨k + 1, by omega, by go_num, by rw [e2.out]; go_num⟩
        case measure => simp [intOf]; omega
    · have r1 : ¬ (k : Int) < 4 := by omega
      obtain rfl : k = 4 := by omega
      go_wp2
      go_ret
      exact ⟨rfl, BE.out⟩
def z4 : List Int := [0, 0, 0, 0]
def z5 : List Int := [0, 0, 0, 0, 0]
theorem zeroA4 : (Try.prog.info? 46).map (·.zero) = some (some (.agg (ints .i64 z4).toArray)) := by kernel_rfl
theorem zeroLv : (Try.prog.info? 48).map (·.zero) = some (some (.agg (ints .i64 z5).toArray)) := by kernel_rfl
theorem sizeInt : (Try.prog.info? 3).map (·.size) = some 1 := by kernel_rfl
theorem run_at_arr4 (g o p : Nat) (hp : p < 4) (w : World) : (Instr.indexAt 46 (.pointer (some ⟨g, o, none⟩)) (.int .i64 (p : Int))).run Try.prog w = .ok (.pointer (some ⟨g, o + p, none⟩)) w := by
  have hz : (sizeOf (Try.prog.elem 46)).run Try.prog w = .ok 1 w := by kernel_rfl
  have hA : Try.prog.arrayLen 46 = 4 := by kernel_rfl
  have ht : Try.prog.underlying 46 = some (.array (Try.prog.arrayLen 46) (Try.prog.elem 46)) := by kernel_rfl
  rw [run_indexAt_array w 46 _ _ _ ht, if_pos (by rw [hA]; omega), hz, Result.andThen_ok, Addr.add_mid, Int.toNat_natCast, Nat.mul_one]
theorem lin_cel {P : Program} {ops : Array Oper} {Q : Exit → Act → World → Prop} {a : Act} {w : World} (i : Nat) (ty : TypeId) (x y : Operand) (b o : Nat) (t : TypeId) (cs : List Value) (v : Value) (hi : (ops[i]?.isSome && Region.wanted (opAt ops i) (yielded ops a.tmps)) = true) (hd : (opAt ops i).dst = none)
    (ho : (opAt ops i).op = .store ty x y) (hx : a.eval x = .pointer (some ⟨b, o, none⟩)) (hy : a.eval y = v) (hb : Blk w b t cs) (hl : o < cs.length) (hz : (P.info? ty).map (·.size) = some 1) (hv1 : v.cells = #[v]) (hv : v.oneCell' = true)
    (h : ∀ w', Blk w' b t (cs.set o v) → Upd b w w' → Hid (w'.heap.size = w.heap.size) → wpFrom P ops Q (i + 1) (a.put none undef) w') : wpFrom P ops Q i a w :=
  lin_store i (w.setCell ⟨b, o, none⟩ v) hi hd (exec_store_cell ty x y ho b o v hx hy t cs hb hl hz hv1 hv) (h _ (hb.set o v) ((Upd.refl b w).setCell o v) (by unfold Hid; simp [World.setCell]))
def nopK (k : Nat) : List Int := List.replicate k (-1) ++ List.replicate (4 - k) 0
theorem nopK_set {k : Nat} (h : k < 4) : (ints .i64 (nopK k)).set k (.int .i64 (-1)) = ints .i64 (nopK (k + 1)) := by
  match k, h with
  | 0, _ => rfl
  | 1, _ => rfl
  | 2, _ => rfl
  | 3, _ => rfl
theorem nopK_len {k : Nat} (h : k ≤ 4) : (nopK k).length = 4 := by simp [nopK]; omega
theorem run_build_lv4 (b p0 p1 p2 p3 : Int) (w : World) : (Instr.build 48 #[(0, .int .i64 b), (1, .agg (ints .i64 [p0, p1, p2, p3]).toArray)]).run Try.prog w = .ok (.agg (ints .i64 [b, p0, p1, p2, p3]).toArray) w := by kernel_rfl
theorem run_build_lv {b : Int} {p : List Int} (h : p.length = 4) (w : World) : (Instr.build 48 #[(0, .int .i64 b), (1, .agg (ints .i64 p).toArray)]).run Try.prog w = .ok (.agg (ints .i64 (b :: p)).toArray) w :=
  match p, h with
  | [p0, p1, p2, p3], _ => run_build_lv4 b p0 p1 p2 p3 w
/-- A slice of ints: what it reads as. -/
def NumsIn (w : World) (v : Value) (zs : List Int) : Prop :=
  ∃ a cap, v = .slice a zs.length cap ∧ zs.length ≤ cap ∧ (0 < zs.length → ∃ pb po, a = some ⟨pb, po, none⟩ ∧ pb < w.heap.size ∧ w.rangeAt pb po (ints .i64 zs))
theorem NumsIn.below {B : Nat} {w w' : World} {v : Value} {zs : List Int} (h : NumsIn w v zs) (hb : Below B w w') (hB : w.heap.size ≤ B) : NumsIn w' v zs := by
  obtain ⟨a, cap, h1, h2, h3⟩ := h
  refine ⟨a, cap, h1, h2, fun hp => ?_⟩
  obtain ⟨pb, po, h4, h5, h6⟩ := h3 hp
  exact ⟨pb, po, h4, Nat.lt_of_lt_of_le h5 hb.size, fun j u hu => by rw [hb.cell (p := ⟨pb, po + j, none⟩) (Nat.lt_of_lt_of_le h5 hB)]; exact h6 j u hu⟩
theorem val_step (u x y : Int) : (if u < (if 1048576 < if y < 0 then 0 else y then 1048576 else if y < 0 then 0 else y) + x then (if 1048576 < if y < 0 then 0 else y then 1048576 else if y < 0 then 0 else y) + x else u) = max u (clampL y + x) := by
  unfold clampL
  omega
def givenL (vals : List Int) : List Int := [vals.getD 0 0, vals.getD 1 0, vals.getD 2 0, vals.getD 3 0]
theorem given_splice (vals : List Int) : splice (ints .i64 z4) 0 (ints .i64 (vals.take 4)) = ints .i64 (givenL vals) :=
  match vals with
  | [] => rfl
  | [_] => rfl
  | [_, _] => rfl
  | [_, _, _] => rfl
  | _ :: _ :: _ :: _ :: _ => rfl
theorem given_at (vals : List Int) {i : Nat} (h : i < 4) : (givenL vals)[i]? = some (vals.getD i 0) := by
  match i, h with
  | 0, _ => rfl
  | 1, _ => rfl
  | 2, _ => rfl
  | 3, _ => rfl
def upPre (n : Int) (p : List Int) (k : Nat) : List Int := (p.map (upP n)).take k ++ p.drop k
theorem upPre_set {n x v : Int} {p : List Int} (hp : p.length = 4) {k : Nat} (hk : k < 4) (hv : upP n (p.getD k 0) = v) : (ints .i64 (x :: upPre n p k)).set (1 + k) (.int .i64 v) = ints .i64 (x :: upPre n p (k + 1)) := by
  subst hv
  match p, hp, k, hk with
  | [_, _, _, _], _, 0, _ => rfl
  | [_, _, _, _], _, 1, _ => rfl
  | [_, _, _, _], _, 2, _ => rfl
  | [_, _, _, _], _, 3, _ => rfl
theorem upPre_same {n : Int} {p : List Int} (hp : p.length = 4) {k : Nat} (hk : k < 4) (hv : p.getD k 0 = -1) : upPre n p (k + 1) = upPre n p k := by
  match p, hp, k, hk, hv with
  | [_, _, _, _], _, 0, _, h => simp at h; subst h; rfl
  | [_, _, _, _], _, 1, _, h => simp at h; subst h; rfl
  | [_, _, _, _], _, 2, _, h => simp at h; subst h; rfl
  | [_, _, _, _], _, 3, _, h => simp at h; subst h; rfl
theorem upPre_all {n : Int} {p : List Int} (hp : p.length = 4) : upPre n p 4 = p.map (upP n) := by
  rw [upPre, List.take_of_length_le (by simp [hp]), List.drop_of_length_le (by omega), List.append_nil]
theorem upPre_len {n : Int} {p : List Int} (hp : p.length = 4) {k : Nat} (hk : k ≤ 4) : (upPre n p k).length = 4 := by simp [upPre, hp]; omega
theorem run_build_zero (w : World) : (Instr.build 48 #[]).run Try.prog w = .ok (.agg (ints .i64 z5).toArray) w := by kernel_rfl
def upV (l : Lv) (n : Int) : Value := .tuple #[.agg (ints .i64 (if upOk l n then (upRaw l n).zs else z5)).toArray, .bool (upOk l n)]
theorem upV_no {l : Lv} {n : Int} (h : upOk l n = false) : upV l n = .tuple #[.agg (ints .i64 z5).toArray, .bool false] := by rw [upV, h]; rfl
theorem upV_yes {l : Lv} {n : Int} (h : upOk l n = true) : upV l n = .tuple #[.agg (ints .i64 (upRaw l n).zs).toArray, .bool true] := by rw [upV, h]; rfl
/-- A slice of levels: what it reads as. -/
def LvsIn (w : World) (v : Value) (ls : List Lv) : Prop :=
  ∃ a cap, v = .slice a ls.length cap ∧ ls.length ≤ cap ∧ ls.length ≤ 140737488355328 ∧ (∀ l ∈ ls, l.p.length = 4) ∧ (0 < ls.length → ∃ pb po, a = some ⟨pb, po, none⟩ ∧ pb < w.heap.size ∧ ∀ (i : Nat) (l : Lv), ls[i]? = some l → w.rangeAt pb (po + 5 * i) (ints .i64 l.zs))
theorem LvsIn.below {B : Nat} {w w' : World} {v : Value} {ls : List Lv} (h : LvsIn w v ls) (hb : Below B w w') (hB : w.heap.size ≤ B) : LvsIn w' v ls := by
  obtain ⟨a, cap, h1, h2, h0, hl, h3⟩ := h
  refine ⟨a, cap, h1, h2, h0, hl, fun hp => ?_⟩
  obtain ⟨pb, po, h4, h5, h6⟩ := h3 hp
  exact ⟨pb, po, h4, Nat.lt_of_lt_of_le h5 hb.size, fun i l hi j u hu => by rw [hb.cell (p := ⟨pb, _, none⟩) (Nat.lt_of_lt_of_le h5 hB)]; exact h6 i l hi j u hu⟩
theorem elemLvs : Try.prog.underlying 24 = some (.slice (Try.prog.elem 24)) := by kernel_rfl
theorem run_at_lv (B off n cap m : Nat) (hm : m < n) (w : World) : (Instr.indexAt 24 (.slice (some ⟨B, off, none⟩) n cap) (.int .i64 (m : Int))).run Try.prog w = .ok (.pointer (some ⟨B, off + 5 * m, none⟩)) w := by
  rw [run_indexAt_slice w 24 _ _ _ _ _ elemLvs]
  have hz : (sizeOf (Try.prog.elem 24)).run Try.prog w = .ok 5 w := by kernel_rfl
  rw [if_pos (by omega), hz, Result.andThen_ok, Addr.add_mid, Int.toNat_natCast, Nat.mul_comm]
theorem exec_max {P : Program} {a : Act} {w : World} {op : Oper} (ts : Array TypeId) (t : TypeId) (x y : Int) (h : execOp a.eval op = (Builtin.max_ ts t #[.int .i64 x, .int .i64 y] >>= fun x => pure (.value x))) : (execOp a.eval op).run P w = .ok (.value (.int .i64 (max x y))) w := by
  refine exec_of _ _ h ?_
  rw [run_max_int2]
  congr 2
  split <;> omega
theorem maxRow_snoc : ∀ (ls : List Lv) (l g : Lv), maxRow (ls ++ [l]) g = max2 (maxRow ls g) l
  | [], _, _ => rfl
  | x :: ls, l, g => maxRow_snoc ls l (max2 g x)
theorem maxRow_len : ∀ (ls : List Lv) (g : Lv), g.p.length = 4 → (∀ l ∈ ls, l.p.length = 4) → (maxRow ls g).p.length = 4
  | [], _, h, _ => h
  | x :: ls, g, h, hl => maxRow_len ls _ (max2_len h (hl x (by simp))) (fun l h => hl l (by simp [h]))
def maxPre (g l : List Int) (k : Nat) : List Int := (List.zipWith max g l).take k ++ g.drop k
theorem maxPre_set {x v : Int} {g l : List Int} (hg : g.length = 4) (hl : l.length = 4) {k : Nat} (hk : k < 4) (hv : max (g.getD k 0) (l.getD k 0) = v) : (ints .i64 (x :: maxPre g l k)).set (1 + k) (.int .i64 v) = ints .i64 (x :: maxPre g l (k + 1)) := by
  subst hv
  match g, hg, l, hl, k, hk with
  | [_, _, _, _], _, [_, _, _, _], _, 0, _ => rfl
  | [_, _, _, _], _, [_, _, _, _], _, 1, _ => rfl
  | [_, _, _, _], _, [_, _, _, _], _, 2, _ => rfl
  | [_, _, _, _], _, [_, _, _, _], _, 3, _ => rfl
theorem maxPre_cell {x : Int} {g l : List Int} (hg : g.length = 4) (hl : l.length = 4) {k : Nat} (hk : k < 4) : (ints .i64 (x :: maxPre g l k))[1 + k]? = some (.int .i64 (g.getD k 0)) := by
  match g, hg, l, hl, k, hk with
  | [_, _, _, _], _, [_, _, _, _], _, 0, _ => rfl
  | [_, _, _, _], _, [_, _, _, _], _, 1, _ => rfl
  | [_, _, _, _], _, [_, _, _, _], _, 2, _ => rfl
  | [_, _, _, _], _, [_, _, _, _], _, 3, _ => rfl
theorem maxPre_all {g l : List Int} (hg : g.length = 4) (hl : l.length = 4) : maxPre g l 4 = List.zipWith max g l := by
  rw [maxPre, List.take_of_length_le (by simp [hg, hl]), List.drop_of_length_le (by omega), List.append_nil]
theorem maxPre_len {g l : List Int} (hg : g.length = 4) (hl : l.length = 4) {k : Nat} (hk : k ≤ 4) : (maxPre g l k).length = 4 := by simp [maxPre, hg, hl]; omega
end Go.Proofs.Ytlheikhjgdhmmaa
