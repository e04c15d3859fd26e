/- LevelInsts and LevelTexts answer true. -/
import Derived.Test.YtngpmilojfbpmaaDoorLevO
namespace Go.Proofs.YtngpmilojfbpmaaDoor
open Go Go.RowKit
set_option maxRecDepth 100000

theorem infoInt7 : (Tryd.prog.info? 3).map (fun i => (i.zero, i.size, i.bytes)) = some (some (.int .i64 0), 1, 8) := by kernel_rfl
theorem run_build_int0 (w : World) : (Instr.buildSlice 47 0 #[]).run Tryd.prog w = .ok (.slice (some ⟨w.heap.size, 0, none⟩) 0 0) (w.alloc (.cells #[] 3)) := by kernel_rfl
/-- A row of ints of the call's own. -/
def OwnI (w : World) (C : Nat) (v : Value) (zs : List Int) : Prop := w.ownsRow C 3 1 v zs.length (ints .i64 zs)
theorem OwnI.below {w w' : World} {C : Nat} {v : Value} {zs : List Int} (h : OwnI w C v zs) (hb : Below w.heap.size w w') : OwnI w' C v zs := own_step (F := []) (F' := []) h (Step.of_below hb (Nat.le_refl _)) (fun g _ => by simp)
theorem OwnI.nums {w : World} {C : Nat} {v : Value} {zs : List Int} (h : OwnI w C v zs) : NumsIn w v zs ∧ NilOk v := by
  obtain ⟨h1, h2⟩ := h
  rcases h2 with ⟨rfl, hn0⟩ | ⟨g, cap, cur, rfl, _, hg, hc, _, hs, ht⟩
  · exact ⟨⟨none, 0, by rw [hn0], by omega, fun hp => by omega⟩, ⟨rfl, rfl⟩⟩
  · refine ⟨⟨_, cap, rfl, hc, fun hp => ⟨g, 0, rfl, (Array.getElem?_eq_some_iff.1 hg).1, fun j u hu => ?_⟩⟩, trivial⟩
    have hB : Blk w g 3 cur.toList := by unfold Blk; simpa using hg
    rw [Nat.zero_add]
    refine hB.cell ?_
    rw [← ht, List.getElem?_take] at hu
    split at hu
    · exact hu
    · cases hu
theorem OwnI.slice {w : World} {C : Nat} {v : Value} {zs : List Int} (h : OwnI w C v zs) : ∃ a c, v = .slice a zs.length c := by
  rcases h.2 with ⟨h1, h2⟩ | ⟨g, cap, cur, h1, _⟩
  · exact ⟨none, 0, by rw [h1, h2]⟩
  · exact ⟨_, _, h1⟩
theorem LvS.grow {q : Nat} {w0 : World} {L : List (Nat × Lv)} {v : Value} {vals : List Int} {w w' : World} (h : LvS q w0 L v vals w) {C : Nat} (hb : Below C w w') (hq : q ≤ C) (hL : ∀ x ∈ L, x.1 < C) (hv : NumsIn w0 v vals) (hw : w0.heap.size = q) : LvS q w0 L v vals w' := by
  have B : Below q w0 w' := h.b.trans (hb.mono hq)
  exact ⟨fun x hx => (h.l x hx).below hb (hL x hx), hv.below B (by omega), B, Nat.le_trans h.s hb.size⟩
theorem valueL_in (l : Lv) (hl : l.p.length = 4) (vals : List Int) : 0 ≤ valueL l vals ∧ valueL l vals ≤ 1048676 := by
  unfold valueL
  split
  · next h =>
    have hb := right_b h
    have h1 := valUp_ge l vals 4
    have h2 := valUp_le l vals 1048676 (by omega) 4 (fun i hi _ => by
      have := right_at h (i := i) (by omega)
      have := clamp_1 (vals.getD i 0)
      omega)
    omega
  · omega
theorem eql_zero {a : Act} {w : World} {op : Oper} (x y : Operand) (yt : TypeId) (ho : op.op = .binOp .eql 46 x y yt) (ex : a.eval x = .agg (ints .i64 z5).toArray) (ey : a.eval y = .agg (ints .i64 z5).toArray) : (execOp a.eval op).run Tryd.prog w = .ok (.value (.bool true)) w := exec_eqlv_yes (l := zeroL) x y yt ho rfl ex ey
set_option maxHeartbeats 8000000 in
theorem insts_main (l : Lv) (hl : l.p.length = 4) (bv : Value) (bs : List Lv) (v : Value) (vals : List Int) (w : World) (hbv : LvsIn w bv bs) (hv : NumsIn w v vals) (hnl : NilOk v) (hint : ∀ x ∈ vals, -9223372036854775808 ≤ x ∧ x ≤ 9223372036854775807) (hT : TabW w) : Calls Tryd.prog 6 #[.agg (ints .i64 l.zs).toArray, bv, v] w fun e w' => e = .returned (.bool true) ∧ Below w.heap.size w w' := by
  obtain ⟨q, hq⟩ : ∃ q, Hid (w.heap.size = q) := ⟨_, rfl⟩
  have HA := Lib.hid hl
  have HT := Lib.hid hT
  have HI := Lib.hid hint
  obtain ⟨va, vc, rfl, -⟩ := id hv
  have HV := Lib.hid hv
  have HN := Lib.hid hnl
  obtain ⟨n, hn⟩ : ∃ n, Hid (vals.length = n) := ⟨_, rfl⟩
  rw [hn.out] at HV HN ⊢
  obtain ⟨ba, bc, rfl, -, -, hb4, -⟩ := id hbv
  have HB4 := Lib.hid hb4
  obtain ⟨nb, hnb⟩ : ∃ n, Hid (bs.length = n) := ⟨_, rfl⟩
  rw [hnb.out] at hbv ⊢
  have HBV := Lib.hid hbv
  rw [hq.out]
  clear hl hT hint hv hnl hbv hb4
  go_enter Tryd.func6, Tryd.ntmps6
  go_upto_region 0 with (fail)
  refine lin_begin (opsOf Tryd.f6 0) (by kernel_rfl) ?_
  refine lin_box 0 46 (.tmp 0) (ints .i64 l.zs) (q) (some 3) (by kernel_rfl) (by kernel_rfl) (by kernel_rfl) (by kernel_rfl) hq ?_
  intro w1 b1 be1 hs1
  refine lin_now 1 (.bool false) (some 6) (by kernel_rfl) (by kernel_rfl) (by kernel_rfl) ?_
  refine lin_done 2 (by kernel_rfl) ?_
  have S1 : Hid (LvS q w [(q, l)] (.slice va n vc) vals w1) := ⟨fun x hx => by
    simp only [List.mem_cons, List.not_mem_nil, or_false] at hx
    subst hx
    exact b1, HV.out.below be1 (by rw [hq.out]; exact Nat.le_refl _), be1, by rw [hs1.out]; omega⟩
  have T1 : Hid (TabW w1) := HT.out.below (by rw [hq.out]; exact be1)
  clear b1 be1 hs1
  generalize hact : Act.put _ (some 6) _ = act
  simp only [Act.put, List.setIfInBounds_toArray, List.set_cons_succ, List.set_cons_zero] at hact
  subst hact
  go_wp2_with fail
  refine (alive7_walk _ T1.out).mono ?_
  rintro e w2 ⟨rfl, hb2⟩
  have S2 := Lib.hid (S1.out.next hb2)
  clear hb2 S1 T1
  by_cases hlen : 30 < nb
  · have r0 : (30 : Int) < (nb : Int) := by omega
    go_wp2
    go_ret
    exact ⟨rfl, S2.out.b⟩
  · have r0 : ¬ (30 : Int) < (nb : Int) := by omega
    by_cases hlen2 : 30 < n
    · have r1 : (30 : Int) < (n : Int) := by omega
      go_wp2
      go_ret
      exact ⟨rfl, S2.out.b⟩
    · have r1 : ¬ (30 : Int) < (n : Int) := by omega
      go_upto_region 5 with (fail)
      refine lin_begin (opsOf Tryd.f6 5) (by kernel_rfl) ?_
      refine lin_load 0 46 (.tmp 3) (q) _ (ints .i64 l.zs) (some 22) (by kernel_rfl) (by kernel_rfl) (by kernel_rfl) (by kernel_rfl) (S2.out.l (q, l) (by simp)) _ Tryd.underlying46 rfl (lvSize HA.out) ?_
      refine lin_now 1 (.slice ba nb bc) (some 23) (by kernel_rfl) (by kernel_rfl) (by kernel_rfl) ?_
      refine lin_call 2 21 #[.agg (ints .i64 (l).zs).toArray, .slice ba nb bc] (some 24) _ (by kernel_rfl) (by kernel_rfl) (by kernel_rfl) (inst_walk l HA.out _ bs _ (HBV.out.below S2.out.b (by rw [hq.out]; exact Nat.le_refl _))) ?_
      rintro e w3 ⟨rfl, hb3⟩
      have S3 := Lib.hid (S2.out.next hb3)
      clear hb3 S2
      refine ⟨_, rfl, ?_⟩
      obtain ⟨g, hg⟩ : ∃ g, Hid (w3.heap.size = g) := ⟨_, rfl⟩
      have QG : Hid (q < g) := by rw [Hid, ← hg.out]; exact (S3.out.l (q, l) (by simp)).lt
      cases hir : instL l bs with
      | none =>
        rw [instV_no hir]
        clear hir
        refine lin_now 3 (.tuple #[.agg (ints .i64 (z5)).toArray, .bool false]) (some 21) (by kernel_rfl) (by kernel_rfl) (by kernel_rfl) ?_
        refine lin_now 4 (.agg (ints .i64 (z5)).toArray) (some 25) (by kernel_rfl) (by kernel_rfl) (by kernel_rfl) ?_
        refine lin_now 5 (.bool false) (some 26) (by kernel_rfl) (by kernel_rfl) (by kernel_rfl) ?_
        refine lin_alloc 6 46 (ints .i64 z5) (g) (some 7) (by kernel_rfl) (by kernel_rfl) (by kernel_rfl) zeroLv hg ?_
        intro w4 b4 be4 hs4
        refine lin_put 7 46 (.tmp 7) (.tmp 25) (g) _ (ints .i64 z5) (ints .i64 (z5)) (by kernel_rfl) (by kernel_rfl) (by kernel_rfl) (by kernel_rfl) (by kernel_rfl) b4 (rfl) (lvSize (l := zeroL) rfl) (ints_oneCell _ _) ?_
        intro w5 b5 u5
        refine lin_now 8 (.bool false) (some 8) (by kernel_rfl) (by kernel_rfl) (by kernel_rfl) ?_
        refine lin_done 9 (by kernel_rfl) ?_
        have S5 : Hid (LvS q w [(q, l), (g, zeroL)] (.slice va n vc) vals w5) := by
          have Sx := S3.out.next (by rw [hg.out]; exact be4)
          have B : Below q w w5 := u5.below Sx.b (Nat.le_of_lt QG.out) Sx.s
          refine ⟨fun x hx => ?_, HV.out.below B (by rw [hq.out]; exact Nat.le_refl _), B, Nat.le_trans Sx.s u5.size⟩
          simp only [List.mem_cons, List.not_mem_nil, or_false] at hx
          rcases hx with rfl | rfl
          · exact u5.blk (Sx.l (q, l) (by simp)) (by have := QG.out; simp only; omega)
          · exact b5
        clear b4 be4 hs4 b5 u5 S3 hg
        generalize hact : Act.put _ (some 8) _ = act
        simp only [Act.put, List.setIfInBounds_toArray, List.set_cons_succ, List.set_cons_zero] at hact
        subst hact
        go_upto_region 7 with (fail)
        refine lin_begin (opsOf Tryd.f6 7) (by kernel_rfl) ?_
        refine lin_load 0 46 (.tmp 7) (g) _ (ints .i64 z5) (some 29) (by kernel_rfl) (by kernel_rfl) (by kernel_rfl) (by kernel_rfl) (S5.out.l (g, zeroL) (by simp)) _ Tryd.underlying46 rfl (lvSize (l := zeroL) rfl) ?_
        refine lin_now 1 (.agg (ints .i64 z5).toArray) (some 30) (by kernel_rfl) (by kernel_rfl) (exec_of (Instr.build 46 #[]) _ (by kernel_rfl) (run_build_zero _)) ?_
        refine lin_now 2 (.bool true) (some 31) (by kernel_rfl) (by kernel_rfl) (eql_zero (.tmp 29) (.tmp 30) 46 (by kernel_rfl) (by kernel_rfl) (by kernel_rfl)) ?_
        refine lin_now 3 (.bool true) (some 6) (by kernel_rfl) (by kernel_rfl) (by kernel_rfl) ?_
        refine lin_done 4 (by kernel_rfl) ?_
        generalize hact : Act.put _ (some 6) _ = act
        simp only [Act.put, List.setIfInBounds_toArray, List.set_cons_succ, List.set_cons_zero] at hact
        subst hact
        go_wp2
        go_ret
        exact ⟨rfl, S5.out.b⟩
      | some r =>
        rw [instV_yes hir]
        have HIR := Lib.hid hir
        clear hir
        have HR : Hid (r.p.length = 4) := by
          have h := HIR.out
          rw [instL] at h
          split at h
          · next hc =>
            simp only [Bool.and_eq_true, decide_eq_true_eq] at hc
            exact (instUp_right hc.1.1 HB4.out hc.2 _ r hc.1.2 h).1
          · cases h
        refine lin_now 3 (.tuple #[.agg (ints .i64 (r.zs)).toArray, .bool true]) (some 21) (by kernel_rfl) (by kernel_rfl) (by kernel_rfl) ?_
        refine lin_now 4 (.agg (ints .i64 (r.zs)).toArray) (some 25) (by kernel_rfl) (by kernel_rfl) (by kernel_rfl) ?_
        refine lin_now 5 (.bool true) (some 26) (by kernel_rfl) (by kernel_rfl) (by kernel_rfl) ?_
        refine lin_alloc 6 46 (ints .i64 z5) (g) (some 7) (by kernel_rfl) (by kernel_rfl) (by kernel_rfl) zeroLv hg ?_
        intro w4 b4 be4 hs4
        refine lin_put 7 46 (.tmp 7) (.tmp 25) (g) _ (ints .i64 z5) (ints .i64 (r.zs)) (by kernel_rfl) (by kernel_rfl) (by kernel_rfl) (by kernel_rfl) (by kernel_rfl) b4 ((by rw [Lv.zlen HR.out]; rfl)) (lvSize HR.out) (ints_oneCell _ _) ?_
        intro w5 b5 u5
        refine lin_now 8 (.bool true) (some 8) (by kernel_rfl) (by kernel_rfl) (by kernel_rfl) ?_
        refine lin_done 9 (by kernel_rfl) ?_
        have S5 : Hid (LvS q w [(q, l), (g, r)] (.slice va n vc) vals w5) := by
          have Sx := S3.out.next (by rw [hg.out]; exact be4)
          have B : Below q w w5 := u5.below Sx.b (Nat.le_of_lt QG.out) Sx.s
          refine ⟨fun x hx => ?_, HV.out.below B (by rw [hq.out]; exact Nat.le_refl _), B, Nat.le_trans Sx.s u5.size⟩
          simp only [List.mem_cons, List.not_mem_nil, or_false] at hx
          rcases hx with rfl | rfl
          · exact u5.blk (Sx.l (q, l) (by simp)) (by have := QG.out; simp only; omega)
          · exact b5
        clear b4 be4 hs4 b5 u5 S3 hg
        generalize hact : Act.put _ (some 8) _ = act
        simp only [Act.put, List.setIfInBounds_toArray, List.set_cons_succ, List.set_cons_zero] at hact
        subst hact
        obtain ⟨cc, hcc⟩ : ∃ g, Hid (w5.heap.size = g) := ⟨_, rfl⟩
        have GC : Hid (g < cc) := by rw [Hid, ← hcc.out]; exact (S5.out.l (g, r) (by simp)).lt
        have hmk := run_build_int0 w5
        have be6 : Below w5.heap.size w5 (w5.alloc (.cells #[] 3)) := (Below.refl _ _).alloc (Nat.le_refl _) _
        have O6 : Hid (OwnI (w5.alloc (.cells #[] 3)) cc (.slice (some ⟨w5.heap.size, 0, none⟩) 0 0) ((bs.take 0).map (valueL · vals))) := ⟨rfl, .inr ⟨w5.heap.size, 0, #[], rfl, (by rw [hcc.out]; exact Nat.le_refl _), heap_alloc_last w5 _, Nat.le_refl _, by unfold maxLen; omega, rfl, rfl⟩⟩
        have S6 := Lib.hid (S5.out.next be6)
        have C6 : Hid (cc ≤ (w5.alloc (.cells #[] 3)).heap.size) := by rw [Hid, ← hcc.out]; exact be6.size
        clear S5 be6
        generalize w5.alloc (.cells #[] 3) = w6 at hmk O6 S6 C6
        rw [hcc.out] at hmk O6
        go_upto_region 8 with (fail)
        refine lin_begin (opsOf Tryd.f6 8) (by kernel_rfl) ?_
        refine lin_value 0 (.slice (some ⟨cc, 0, none⟩) 0 0) (some 32) w6 (by kernel_rfl) (by kernel_rfl) (exec_of (Instr.buildSlice 47 0 #[]) _ (by kernel_rfl) hmk) ?_
        refine lin_now 1 (.slice (some ⟨cc, 0, none⟩) 0 0) (some 9) (by kernel_rfl) (by kernel_rfl) (by kernel_rfl) ?_
        refine lin_done 2 (by kernel_rfl) ?_
        clear hmk
        generalize hact : Act.put _ (some 9) _ = act
        simp only [Act.put, List.setIfInBounds_toArray, List.set_cons_succ, List.set_cons_zero] at hact
        subst hact
        go_wp2
        go_loopw [9, 10] (fun iv kv wr => ∃ (k : Nat) (ia : Option Addr) (ic : Nat), k ≤ nb ∧ kv = .int .i64 (k : Int) ∧ iv = .slice ia k ic ∧ Hid (OwnI wr cc (.slice ia k ic) ((bs.take k).map (valueL · vals))) ∧ Hid (∀ x ∈ (bs.take k).map (valueL · vals), x ≤ 1048576) ∧ Hid (LvS q w [(q, l), (g, r)] (.slice va n vc) vals wr) ∧ Hid (cc ≤ wr.heap.size)) (fun _ kv _ => nb - (intOf kv).toNat)
        case atStart => exact ⟨0, _, _, Nat.zero_le _, rfl, rfl, O6, (fun x hx => by simp at hx), S6, C6⟩
        case round =>
          obtain ⟨k, ia, ic, hk, rfl, rfl, OI, OL, SK, CK⟩ := hrel
          clear O6 S6 C6
          have KL : Hid (((bs.take k).map (valueL · vals)).length = k) := by rw [Hid, List.length_map, List.length_take, hnb.out]; omega
          by_cases hlt : k < nb
          · have r2 : (k : Int) < (nb : Int) := by omega
            obtain ⟨m, pb, po, hm, hmm, hm4, rfl, hpb, hrg⟩ := (HBV.out.below SK.out.b (by rw [hq.out]; exact Nat.le_refl _)).get hnb.out hlt
            have M4 := Lib.hid hm4
            have RG := Lib.hid hrg
            have TK : Hid ((bs.take (k + 1)).map (valueL · vals) = (bs.take k).map (valueL · vals) ++ [valueL m vals]) := by rw [Hid, List.take_add_one, hm, List.map_append]; rfl
            have VI := valueL_in m hm4 vals
            clear hm hm4 hrg hpb
            go_upto_region 12 with (fail)
            refine lin_begin (opsOf Tryd.f6 12) (by kernel_rfl) ?_
            refine lin_now 0 (.slice ia k ic) (some 39) (by kernel_rfl) (by kernel_rfl) (by kernel_rfl) ?_
            refine lin_now 1 (.slice (some ⟨pb, po, none⟩) nb bc) (some 40) (by kernel_rfl) (by kernel_rfl) (by kernel_rfl) ?_
            refine lin_now 2 (.int .i64 (k : Int)) (some 41) (by kernel_rfl) (by kernel_rfl) (by kernel_rfl) ?_
            refine lin_now 3 (.pointer (some ⟨pb, po + 5 * k, none⟩)) (some 42) (by kernel_rfl) (by kernel_rfl) (exec_indexAt 53 (.tmp 40) (.tmp 41) (by kernel_rfl) _ _ _ (by kernel_rfl) (by kernel_rfl) (run_at_lv pb po nb bc k hlt _)) ?_
            refine lin_now 4 (.agg (ints .i64 (m).zs).toArray) (some 43) (by kernel_rfl) (by kernel_rfl) (exec_load_mid 46 (.tmp 42) (by kernel_rfl) pb (po + 5 * k) (by kernel_rfl) (ints .i64 m.zs) _ RG.out Tryd.underlying46 rfl (lvSize M4.out)) ?_
            refine lin_now 5 (.slice va n vc) (some 44) (by kernel_rfl) (by kernel_rfl) (by kernel_rfl) ?_
            refine lin_call 6 18 #[.agg (ints .i64 (m).zs).toArray, .slice va n vc] (some 45) _ (by kernel_rfl) (by kernel_rfl) (by kernel_rfl) (value_walk m M4.out _ vals _ SK.out.n HN.out HI.out) ?_
            rintro e w7 ⟨rfl, hb7⟩
            have S7 := Lib.hid (SK.out.next hb7)
            have O7 := OI.out.below hb7
            have C7 : cc ≤ w7.heap.size := Nat.le_trans CK.out hb7.size
            clear hb7 SK OI CK RG
            obtain ⟨vm, hvm⟩ : ∃ x, Hid (valueL m vals = x) := ⟨_, rfl⟩
            rw [hvm.out] at TK VI ⊢
            obtain ⟨s, hs⟩ : ∃ s, Hid (w7.heap.size = s) := ⟨_, rfl⟩
            refine ⟨_, rfl, ?_⟩
            refine lin_row 7 3 (ints .i64 [vm]) s 1 (some 46) (by kernel_rfl) (by kernel_rfl) hs (exec_of (Instr.buildSlice 47 1 #[(0, .int .i64 vm)]) _ (by kernel_rfl) (run_build_int1 vm _)) ?_
            intro w8 b8 be8 hs8
            have be8' : Below w7.heap.size w7 w8 := by rw [hs.out]; exact be8
            obtain ⟨i0, hi0, hz0, hz1, hz2⟩ := info_parts infoInt7
            have ho := O7.below be8'
            have hon : w8.ownsRow cc 3 1 (.slice ia k ic) k (ints .i64 ((bs.take k).map (valueL · vals))) := by have := ho; unfold OwnI at this; rw [KL.out] at this; exact this
            obtain ⟨g9, cap, w9, hr9, ho9, hg9, hat9, hlt9⟩ := run_append_lies (P := Tryd.prog) w8 47 47 cc 3 i0 _ 1 8 Tryd.underlying47 hi0 hz0 hz1 hz2 rfl (by decide) (.slice ia k ic) k (ints .i64 ((bs.take k).map (valueL · vals))) hon ⟨s, 0, none⟩ 1 1 (ints .i64 [vm]) rfl (fun j u hj => by rw [Addr.add_mid]; exact b8.whole j u hj) (ints_one _ _) (by omega) (by unfold maxLen; omega) (by omega) (Nat.le_trans C7 be8'.size) _ rfl
            refine lin_value 8 (.slice (some ⟨g9, 0, none⟩) (k + 1) cap) (some 47) w9 (by kernel_rfl) (by kernel_rfl) (exec_of (Builtin.append_ #[47, 47] 47 #[.slice ia k ic, .slice (some ⟨s, 0, none⟩) 1 1]) _ (by kernel_rfl) hr9) ?_
            refine lin_now 9 (.slice (some ⟨g9, 0, none⟩) (k + 1) cap) (some 9) (by kernel_rfl) (by kernel_rfl) (by kernel_rfl) ?_
            refine lin_done 10 (by kernel_rfl) ?_
            have hb9 : Below cc w8 w9 := (Below.refl cc w8).grown hg9 (Nat.le_trans C7 be8'.size) (fun x hx => (hon.lt x hx).1)
            have S9 : Hid (LvS q w [(q, l), (g, r)] (.slice va n vc) vals w9) := LvS.grow (C := cc) (S7.out.next be8') hb9 (by have := QG.out; have := GC.out; omega) (fun x hx => by
              simp only [List.mem_cons, List.not_mem_nil, or_false] at hx
              rcases hx with rfl | rfl
              · have := QG.out; have := GC.out; simp only; omega
              · exact GC.out) HV.out hq.out
            have O9 : Hid (OwnI w9 cc (.slice (some ⟨g9, 0, none⟩) (k + 1) cap) ((bs.take (k + 1)).map (valueL · vals))) := by
              rw [Hid, TK.out]; unfold OwnI; rw [List.length_append, KL.out]; simpa [ints] using ho9
            have C9 : Hid (cc ≤ w9.heap.size) := Nat.le_trans (Nat.le_trans C7 be8'.size) hb9.size
            have CV : w9.cell? ⟨g9, 0 + k, none⟩ = some (.int .i64 vm) := by
              obtain ⟨a9, c9, e9, -, h9⟩ := O9.out.nums.1
              obtain ⟨pb9, po9, e10, -, h10⟩ := h9 (by rw [TK.out]; simp)
              obtain ⟨e11, -, -⟩ := Value.slice.inj e9
              rw [e10] at e11
              obtain ⟨rfl, rfl, -⟩ := Addr.mk.inj (Option.some.inj e11)
              refine h10 k _ ?_
              rw [TK.out, ints, List.map_append, List.getElem?_append_right (by rw [List.length_map, KL.out]; exact Nat.le_refl _), List.length_map, KL.out, Nat.sub_self]
              rfl
            clear hr9 ho9 hg9 hat9 hlt9 ho hon O7 S7 C7 b8 be8 be8' hs8 hs hi0 hz0 hz1 hz2 hb9
            generalize hact : Act.put _ (some 9) _ = act
            simp only [Act.put, List.setIfInBounds_toArray, List.set_cons_succ, List.set_cons_zero] at hact
            subst hact
            go_upto_region 13 with (fail)
            refine lin_begin (opsOf Tryd.f6 13) (by kernel_rfl) ?_
            refine lin_now 0 (.slice (some ⟨g9, 0, none⟩) (k + 1) cap) (some 48) (by kernel_rfl) (by kernel_rfl) (by kernel_rfl) ?_
            refine lin_now 1 (.int .i64 (k : Int)) (some 49) (by kernel_rfl) (by kernel_rfl) (by kernel_rfl) ?_
            refine lin_now 2 (.pointer (some ⟨g9, 0 + k, none⟩)) (some 50) (by kernel_rfl) (by kernel_rfl) (exec_indexAt 47 (.tmp 48) (.tmp 49) (by kernel_rfl) _ _ _ (by kernel_rfl) (by kernel_rfl) (run_at_ints g9 0 (k + 1) cap k (by omega) _)) ?_
            refine lin_now 3 (.int .i64 vm) (some 51) (by kernel_rfl) (by kernel_rfl) (exec_load_cell 3 (.tmp 50) (by kernel_rfl) g9 (0 + k) (by kernel_rfl) _ CV _ Tryd.underlying3 rfl) ?_
            refine lin_now 4 (.bool (decide (1048576 < vm))) (some 52) (by kernel_rfl) (by kernel_rfl) (by kernel_rfl) ?_
            refine lin_done 5 (by kernel_rfl) ?_
            clear CV
            generalize hact : Act.put _ (some 52) _ = act
            simp only [Act.put, List.setIfInBounds_toArray, List.set_cons_succ, List.set_cons_zero] at hact
            subst hact
            by_cases hbig : 1048576 < vm
            · rw [decide_eq_true hbig]
              go_wp2
              go_ret
              exact ⟨rfl, S9.out.b⟩
            · rw [decide_eq_false hbig]
              have OL9 : Hid (∀ x ∈ (bs.take (k + 1)).map (valueL · vals), x ≤ 1048576) := fun x hx => by
                rw [TK.out] at hx
                rcases List.mem_append.1 hx with h | h
                · exact OL.out x h
                · obtain rfl : x = vm := by simpa using h
                  omega
              go_wp2
              go_roundw
              case rel => exact ⟨k + 1, _, cap, by omega, by go_num, rfl, O9, OL9, S9, C9⟩
              case measure => simp [intOf]; omega
          · have r2 : ¬ (k : Int) < (nb : Int) := by omega
            have TB : Hid (bs.take k = bs) := List.take_of_length_le (by have := hnb.out; omega)
            rw [TB.out] at OI OL KL
            obtain ⟨hs1, hs2⟩ := inst_said HA.out HB4.out HIR.out OL.out
            have SR := Lib.hid hs1
            have SV := Lib.hid hs2
            clear hs1 hs2
            have ON := Lib.hid OI.out.nums
            obtain ⟨inn, hinn⟩ : ∃ x, Hid (bs.map (valueL · vals) = x) := ⟨_, rfl⟩
            rw [hinn.out] at ON SV OL
            have INB : Hid (∀ x ∈ inn, -9223372036854775808 ≤ x ∧ x ≤ 9223372036854775807) := fun x hx => by
              rw [← hinn.out] at hx
              obtain ⟨y, hy, rfl⟩ := List.mem_map.1 hx
              have := valueL_in y (HB4.out y hy) vals
              omega
            clear OI
            go_upto_region 15 with (fail)
            refine region_begin (opsOf Tryd.f6 15) (fun w' => LvS q w [(q, l), (g, r)] (.slice va n vc) vals w' ∧ NumsIn w' (.slice ia k ic) inn) (by kernel_rfl) (by kernel_rfl) 12 (by kernel_rfl) ?_
            intro Q' hQN hN
            have X : LvS q w [(q, l), (g, r)] (.slice va n vc) vals wr.drew ∧ NumsIn wr.drew (.slice ia k ic) inn := ⟨SK.out.next (Below.refl _ _).drew, ON.out.1.below (Below.refl _ _).drew (Nat.le_refl _)⟩
            generalize wr.drew = w10 at X ⊢
            refine reg_nowIf 0 (.agg (ints .i64 (r).zs).toArray) (some 53) hQN X (by kernel_rfl) (by kernel_rfl) (fun w' hw => exec_load_mid 46 (.tmp 7) (by kernel_rfl) (g) 0 (by kernel_rfl) (ints .i64 (r).zs) _ (hw.1.l (g, r) (by simp)).whole Tryd.underlying46 rfl (lvSize HR.out)) ?_
            refine reg_call 1 19 #[.agg (ints .i64 (r).zs).toArray] (some 54) _ (by kernel_rfl) (by kernel_rfl) (by kernel_rfl) (right_walk r HR.out _) ?_
            rintro e we1 ⟨rfl, he1⟩
            rw [SR.out]
            have Z1 : LvS q w [(q, l), (g, r)] (.slice va n vc) vals we1 ∧ NumsIn we1 (.slice ia k ic) inn := ⟨X.1.next he1, X.2.below he1 (Nat.le_refl _)⟩
            clear he1
            refine ⟨_, rfl, Z1, ?_⟩
            refine reg_now 2 (.bool true) (some 55) hQN Z1 (by kernel_rfl) (by kernel_rfl) (fun w => by kernel_rfl) ?_
            refine reg_nowIf 3 (.agg (ints .i64 (r).zs).toArray) (some 56) hQN Z1 (by kernel_rfl) (by kernel_rfl) (fun w' hw => exec_load_mid 46 (.tmp 7) (by kernel_rfl) (g) 0 (by kernel_rfl) (ints .i64 (r).zs) _ (hw.1.l (g, r) (by simp)).whole Tryd.underlying46 rfl (lvSize HR.out)) ?_
            refine reg_now 4 (.slice va n vc) (some 57) hQN Z1 (by kernel_rfl) (by kernel_rfl) (fun w => by kernel_rfl) ?_
            refine reg_nowIf 6 (.agg (ints .i64 (l).zs).toArray) (some 59) hQN Z1 (by kernel_rfl) (by kernel_rfl) (fun w' hw => exec_load_mid 46 (.tmp 3) (by kernel_rfl) (q) 0 (by kernel_rfl) (ints .i64 (l).zs) _ (hw.1.l (q, l) (by simp)).whole Tryd.underlying46 rfl (lvSize HA.out)) ?_
            refine reg_now 7 (.slice ia k ic) (some 60) hQN Z1 (by kernel_rfl) (by kernel_rfl) (fun w => by kernel_rfl) ?_
            refine reg_call 5 18 #[.agg (ints .i64 (r).zs).toArray, .slice va n vc] (some 58) _ (by kernel_rfl) (by kernel_rfl) (by kernel_rfl) (value_walk r HR.out _ vals _ Z1.1.n HN.out HI.out) ?_
            rintro e we2 ⟨rfl, he2⟩
            rw [SV.out]
            have Z2 : LvS q w [(q, l), (g, r)] (.slice va n vc) vals we2 ∧ NumsIn we2 (.slice ia k ic) inn := ⟨Z1.1.next he2, Z1.2.below he2 (Nat.le_refl _)⟩
            clear he2
            refine ⟨_, rfl, Z2, ?_⟩
            refine reg_call 8 18 #[.agg (ints .i64 (l).zs).toArray, .slice ia k ic] (some 61) _ (by kernel_rfl) (by kernel_rfl) (by kernel_rfl) (value_walk l HA.out _ inn _ Z2.2 ON.out.2 INB.out) ?_
            rintro e we3 ⟨rfl, he3⟩
            rw [show valueL l inn = valueL l inn from rfl]
            have Z3 : LvS q w [(q, l), (g, r)] (.slice va n vc) vals we3 ∧ NumsIn we3 (.slice ia k ic) inn := ⟨Z2.1.next he3, Z2.2.below he3 (Nat.le_refl _)⟩
            clear he3
            refine ⟨_, rfl, Z3, ?_⟩
            obtain ⟨xv, hxv⟩ : ∃ x, Hid (valueL l inn = x) := ⟨_, rfl⟩
            rw [hxv.out]
            refine reg_now 9 (.bool (xv == xv)) (some 62) hQN Z3 (by kernel_rfl) (by kernel_rfl) (fun w => by kernel_rfl) ?_
            rw [show (xv == xv) = true by simp]
            refine reg_now 10 (.bool true) (some 63) hQN Z3 (by kernel_rfl) (by kernel_rfl) (fun w => by kernel_rfl) ?_
            refine reg_now 11 (.bool true) (some 6) hQN Z3 (by kernel_rfl) (by kernel_rfl) (fun w => by kernel_rfl) ?_
            refine reg_done (by kernel_rfl) (hN _ _ ?_)
            have BF := Lib.hid Z3.1.b
            clear hQN hN
            generalize hact : Act.put _ (some 6) _ = act
            simp only [Act.put, List.setIfInBounds_toArray, List.set_cons_succ, List.set_cons_zero] at hact
            subst hact
            go_wp2
            go_ret
            exact ⟨rfl, BF.out⟩
end Go.Proofs.YtngpmilojfbpmaaDoor
