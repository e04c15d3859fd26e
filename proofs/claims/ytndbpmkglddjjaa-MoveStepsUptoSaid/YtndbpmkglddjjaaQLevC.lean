/- Package level: Leq, Inst. -/
import Derived.Test.YtndbpmkglddjjaaQGenT
import Derived.Test.YtndbpmkglddjjaaQLevB
namespace Go.Proofs.Ytndbpmkglddjjaa
open Go Go.RowKit
set_option maxRecDepth 100000
section
variable {P : Program} {ops : Array Oper} {Q : Exit → Act → World → Prop} {S : World → Prop} {fuel : Nat} {listed : Array Bool} {a : Act} {w : World}
/-- A slice is built. -/
theorem lin_row (i : Nat) (t : TypeId) (cs : List Value) (q n : Nat) (d : Option Tmp) (hi : (ops[i]?.isSome && Region.wanted (opAt ops i) (yielded ops a.tmps)) = true) (hd : (opAt ops i).dst = d) (hq : Hid (w.heap.size = q))
    (hrun : (execOp a.eval (opAt ops i)).run P w = .ok (.value (.slice (some ⟨w.heap.size, 0, none⟩) n n)) (w.alloc (.cells cs.toArray t)))
    (h : ∀ w', Blk w' q t cs → Below q w w' → Hid (w'.heap.size = q + 1) → wpFrom P ops Q (i + 1) (a.put d (.slice (some ⟨q, 0, none⟩) n n)) w') : wpFrom P ops Q i a w := by
  obtain rfl := hq.out
  exact lin_value i _ d _ hi hd hrun (h _ (Blk.new w t cs) ((Below.refl _ _).alloc (Nat.le_refl _) _) (by unfold Hid; simp))
theorem reg_row (i : Nat) (t : TypeId) (cs : List Value) (q n : Nat) (d : Option Tmp) (hi : (ops[i]?.isSome && (Region.ready .any ops listed == [i]) && Region.wanted (opAt ops i) (yielded ops a.tmps)) = true) (hd : (opAt ops i).dst = d) (hq : Hid (w.heap.size = q))
    (hrun : (execOp a.eval (opAt ops i)).run P w = .ok (.value (.slice (some ⟨w.heap.size, 0, none⟩) n n)) (w.alloc (.cells cs.toArray t)))
    (h : ∀ w', Blk w' q t cs → Below q w w' → Hid (w'.heap.size = q + 1) → S w' ∧ wpAnyH P .any ops Q S fuel (listed.setIfInBounds i true) (a.put d (.slice (some ⟨q, 0, none⟩) n n)) w') : wpAnyH P .any ops Q S (fuel + 1) listed a w := by
  obtain rfl := hq.out
  obtain ⟨h1, h2⟩ := h _ (Blk.new w t cs) ((Below.refl _ _).alloc (Nat.le_refl _) _) (by unfold Hid; simp)
  exact reg_value i _ d _ hi hd hrun h1 h2
end
theorem run_build_lvs2l (a0 a1 a2 a3 a4 b0 b1 b2 b3 b4 : Int) (w : World) : (Instr.buildSlice 22 2 #[(0, .agg (ints .i64 [a0, a1, a2, a3, a4]).toArray), (1, .agg (ints .i64 [b0, b1, b2, b3, b4]).toArray)]).run Try.prog w = .ok (.slice (some ⟨w.heap.size, 0, none⟩) 2 2) (w.alloc (.cells (ints .i64 [a0, a1, a2, a3, a4, b0, b1, b2, b3, b4]).toArray 49)) := by kernel_rfl
theorem run_build_lvs1l (a0 a1 a2 a3 a4 : Int) (w : World) : (Instr.buildSlice 22 1 #[(0, .agg (ints .i64 [a0, a1, a2, a3, a4]).toArray)]).run Try.prog w = .ok (.slice (some ⟨w.heap.size, 0, none⟩) 1 1) (w.alloc (.cells (ints .i64 [a0, a1, a2, a3, a4]).toArray 49)) := by kernel_rfl
theorem run_build_lvs2 {a b : Lv} (ha : a.p.length = 4) (hb : b.p.length = 4) (w : World) : (Instr.buildSlice 22 2 #[(0, .agg (ints .i64 a.zs).toArray), (1, .agg (ints .i64 b.zs).toArray)]).run Try.prog w = .ok (.slice (some ⟨w.heap.size, 0, none⟩) 2 2) (w.alloc (.cells (ints .i64 (a.zs ++ b.zs)).toArray 49)) :=
  match a, ha, b, hb with
  | ⟨a0, [a1, a2, a3, a4]⟩, _, ⟨b0, [b1, b2, b3, b4]⟩, _ => run_build_lvs2l a0 a1 a2 a3 a4 b0 b1 b2 b3 b4 w
theorem run_build_lvs1 {a : Lv} (ha : a.p.length = 4) (w : World) : (Instr.buildSlice 22 1 #[(0, .agg (ints .i64 a.zs).toArray)]).run Try.prog w = .ok (.slice (some ⟨w.heap.size, 0, none⟩) 1 1) (w.alloc (.cells (ints .i64 a.zs).toArray 49)) :=
  match a, ha with
  | ⟨a0, [a1, a2, a3, a4]⟩, _ => run_build_lvs1l a0 a1 a2 a3 a4 w
theorem two_in {w : World} {g : Nat} {a b : Lv} (ha : a.p.length = 4) (hb : b.p.length = 4) (h : Blk w g 49 (ints .i64 (a.zs ++ b.zs))) : LvsIn w (.slice (some ⟨g, 0, none⟩) 2 2) [a, b] := by
  refine ⟨_, 2, rfl, Nat.le_refl _, by simp, fun l hl => ?_, fun _ => ⟨g, 0, rfl, h.lt, fun i l hi j u hu => ?_⟩⟩
  · simp at hl
    rcases hl with rfl | rfl
    · exact ha
    · exact hb
  · refine h.cell (j := 0 + 5 * i + j) ?_
    have la : a.zs.length = 5 := by simp [Lv.zs, ha]
    have hj := (List.getElem?_eq_some_iff.1 hu).1
    rw [ints_length] at hj
    simp only [ints, List.map_append] at hu ⊢
    match i, hi with
    | 0, hi =>
      obtain rfl : a = l := by simpa using hi
      rw [List.getElem?_append_left (by rw [List.length_map]; omega)]
      simpa using hu
    | 1, hi =>
      obtain rfl : b = l := by simpa using hi
      rw [List.getElem?_append_right (by rw [List.length_map]; omega), List.length_map, la]
      rw [show 0 + 5 * 1 + j - 5 = j by omega]
      exact hu
theorem one_in {w : World} {g : Nat} {a : Lv} (ha : a.p.length = 4) (h : Blk w g 49 (ints .i64 a.zs)) : LvsIn w (.slice (some ⟨g, 0, none⟩) 1 1) [a] := by
  refine ⟨_, 1, rfl, Nat.le_refl _, by simp, fun l hl => ?_, fun _ => ⟨g, 0, rfl, h.lt, fun i l hi j u hu => ?_⟩⟩
  · simp at hl
    subst hl
    exact ha
  · match i, hi with
    | 0, hi =>
      obtain rfl : a = l := by simpa using hi
      refine h.cell (j := 0 + 5 * 0 + j) ?_
      simpa using hu
set_option maxHeartbeats 1000000 in
theorem wrong_walk (l : Lv) (hl : l.p.length = 4) (w : World) : Calls Try.prog 94 #[.agg (ints .i64 l.zs).toArray] w fun e w' => e = .returned (.bool (!rightL l)) ∧ Below w.heap.size w w' := by
  obtain ⟨q, hq⟩ : ∃ q, Hid (w.heap.size = q) := ⟨_, rfl⟩
  rw [hq.out]
  go_enter Try.func94, Try.ntmps94
  go_upto_region 0 with (fail)
  refine lbeg (opsOf Try.f94 0) ?_
  refine lbox 0 49 (.tmp 0) (ints .i64 l.zs) (q) (some 1) hq ?_
  intro w1 b1 be1 hs1
  refine lnow 1 (.bool false) (some 2) ?_
  refine ldn 2 ?_
  generalize hact : Act.put _ (some 2) _ = act
  simp only [Act.put, sA, sC, sZ] at hact
  subst hact
  go_upto_region 1 with (fail)
  refine lbeg (opsOf Try.f94 1) ?_
  refine lin_load 0 49 (.tmp 1) (q) _ (ints .i64 l.zs) (some 3) (by kernel_rfl) (by kernel_rfl) (by kernel_rfl) (by kernel_rfl) b1 _ Try.underlying49 rfl (lvSize hl) ?_
  refine lcal 1 92 #[.agg (ints .i64 l.zs).toArray] (some 4) _ (right_walk l hl _) ?_
  rintro e w2 ⟨rfl, hb2⟩
  refine ⟨_, rfl, ?_⟩
  refine lnow 2 (.bool (!rightL l)) (some 5) ?_
  refine lnow 3 (.bool (!rightL l)) (some 2) ?_
  refine ldn 4 ?_
  have BE2 : Hid (Below q w w2) := be1.trans (hb2.mono (by rw [hs1.out]; exact Nat.le_succ _))
  clear b1 be1 hs1 hb2 hq
  generalize hact : Act.put _ (some 2) _ = act
  simp only [Act.put, sA, sC, sZ] at hact
  subst hact
  go_wp2
  go_ret
  exact ⟨rfl, BE2.out⟩
def wrV : Value := .func (.func 94) #[] #[]
theorem LvsIn.get {w : World} {a : Option Addr} {n c : Nat} {ls : List Lv} (h : LvsIn w (.slice a n c) ls) (hn : ls.length = n) {i : Nat} (hi : i < n) : ∃ l pb po, ls[i]? = some l ∧ l ∈ ls ∧ l.p.length = 4 ∧ a = some ⟨pb, po, none⟩ ∧ pb < w.heap.size ∧ w.rangeAt pb (po + 5 * i) (ints .i64 l.zs) := by
  obtain ⟨a2, c2, e, -, -, h4, hp⟩ := h
  obtain ⟨rfl, -, rfl⟩ := Value.slice.inj e
  obtain ⟨pb, po, ea, hb, hr⟩ := hp (by omega)
  have hg : ls[i]? = some (ls[i]'(by omega)) := List.getElem?_eq_getElem (by omega)
  exact ⟨_, pb, po, hg, List.getElem_mem _, h4 _ (List.getElem_mem _), ea, hb, hr i _ hg⟩
set_option maxHeartbeats 1000000 in
theorem lindexf_walk (v : Value) (ls : List Lv) (w : World) (hv : LvsIn w v ls) : Calls Try.prog 113 #[v, wrV] w fun e w' => (∃ r : Int, e = .returned (.int .i64 r) ∧ decide (r < 0) = ls.all rightL ∧ -1 ≤ r) ∧ Below w.heap.size w w' := by
  obtain ⟨va, vc, rfl, -, hN, hl4, -⟩ := id hv
  obtain ⟨n, hn⟩ : ∃ n, Hid (ls.length = n) := ⟨_, rfl⟩
  rw [hn.out] at hv hN ⊢
  have HV := Lib.hid hv
  obtain ⟨q, hq⟩ : ∃ q, Hid (w.heap.size = q) := ⟨_, rfl⟩
  rw [hq.out]
  clear hv
  go_enter Try.func113, Try.ntmps113
  go_wp2
  go_loopw [8, 5] (fun iv _ wr => ∃ i : Nat, i ≤ n ∧ iv = .int .i64 (i : Int) ∧ Hid ((ls.take i).all rightL = true) ∧ Hid (Below q w wr)) (fun iv _ _ => n - (intOf iv).toNat)
  case atStart => exact ⟨0, Nat.zero_le _, rfl, rfl, by rw [Hid, ← hq.out]; exact Below.refl _ _⟩
  case round =>
    obtain ⟨i, hi, rfl, hall, BE⟩ := hrel
    by_cases hlt : i < n
    · have r1 : (i : Int) < (n : Int) := by omega
      obtain ⟨l, pb, po, hli, hlm, hl, rfl, hpb, hrg⟩ := (HV.out.below BE.out (by rw [hq.out]; exact Nat.le_refl _)).get hn.out hlt
      have HL := Lib.hid hl
      have RG := Lib.hid hrg
      have TK : Hid ((ls.take (i + 1)).all rightL = rightL l) := by rw [Hid, List.take_add_one, hli, List.all_append, hall.out]; simp
      have QW : Hid (q ≤ wr.heap.size) := by rw [Hid, ← hq.out]; exact BE.out.size
      clear hl hrg hpb hli
      go_upto_region 4 with (fail)
      refine lbeg (opsOf Try.f113 4) ?_
      refine lnow 0 (wrV) (some 11) ?_
      refine lnow 1 (.slice (some ⟨pb, po, none⟩) n vc) (some 12) ?_
      refine lnow 2 (.int .i64 (i : Int)) (some 13) ?_
      refine lix 3 (.pointer (some ⟨pb, po + 5 * i, none⟩)) (some 14) 22 12 13 (run_at_lv pb po n vc i hlt _) ?_
      refine lrl 4 (ints .i64 l.zs) (some 15) 49 14 pb (po + 5 * i) RG.out Try.underlying49 (lvSize HL.out) ?_
      refine lcal 5 94 #[.agg (ints .i64 l.zs).toArray] (some 16) _ (wrong_walk l HL.out _) ?_
      rintro e w2 ⟨rfl, hb2⟩
      obtain ⟨rb, hrb⟩ : ∃ x, Hid (rightL l = x) := ⟨_, rfl⟩
      rw [hrb.out]
      refine ⟨_, rfl, ?_⟩
      refine ldn 6 ?_
      have BE2 : Hid (Below q w w2) := BE.out.trans (hb2.mono QW.out)
      rw [hrb.out] at TK
      clear hb2 BE RG
      generalize hact : Act.put _ (some 16) _ = act
      simp only [Act.put, sA, sC, sZ] at hact
      subst hact
      cases rb with
      | false =>
        have NO : Hid (ls.all rightL = false) := by
            rw [Hid, Bool.eq_false_iff]
            intro h
            have := List.all_eq_true.1 h l hlm
            rw [hrb.out] at this
            cases this
        go_wp2
        go_ret
        exact ⟨⟨i, rfl, by rw [NO.out]; exact decide_eq_false (by omega), by omega⟩, BE2.out⟩
      | true =>
        go_wp2
        exact ⟨⟨i + 1, by omega, by go_num, TK, BE2⟩, by simp [intOf]; omega⟩
    · have r1 : ¬ (i : Int) < (n : Int) := by omega
      have YES : Hid (ls.all rightL = true) := by have := hall.out; rw [List.take_of_length_le (by have := hn.out; omega)] at this; exact this
      go_wp2
      go_ret
      exact ⟨⟨-1, rfl, by rw [YES.out]; rfl, by omega⟩, BE.out⟩
set_option maxHeartbeats 1000000 in
theorem lcontf_walk (v : Value) (ls : List Lv) (w : World) (hv : LvsIn w v ls) : Calls Try.prog 93 #[v, wrV] w fun e w' => e = .returned (.bool (!ls.all rightL)) ∧ Below w.heap.size w w' := by
  obtain ⟨va, vc, rfl, -, hN, hl4, -⟩ := id hv
  obtain ⟨n, hn⟩ : ∃ n, Hid (ls.length = n) := ⟨_, rfl⟩
  rw [hn.out] at hv hN ⊢
  have HV := Lib.hid hv
  clear hv
  go_enter Try.func93, Try.ntmps93
  go_upto_region 1 with (fail)
  refine lbeg (opsOf Try.f93 1) ?_
  refine lnow 0 (.slice va n vc) (some 5) ?_
  refine lnow 1 (wrV) (some 6) ?_
  refine lcal 2 113 #[.slice va n vc, wrV] (some 7) _ (lindexf_walk _ ls _ HV.out) ?_
  rintro e w2 ⟨⟨r, rfl, h1, h2⟩, hb2⟩
  have R1 : Hid (decide (0 ≤ r) = !ls.all rightL) := by
    rw [Hid, ← h1]
    by_cases h : r < 0
    · rw [decide_eq_true h, decide_eq_false (by omega)]; rfl
    · rw [decide_eq_false h, decide_eq_true (by omega)]; rfl
  have BE := Lib.hid hb2
  clear h1 h2 hb2
  refine ⟨_, rfl, ?_⟩
  refine lnow 3 (.bool (decide (0 ≤ r))) (some 8) ?_
  rw [R1.out]
  refine lnow 4 (.bool (!ls.all rightL)) (some 4) ?_
  refine ldn 5 ?_
  generalize hact : Act.put _ (some 4) _ = act
  simp only [Act.put, sA, sC, sZ] at hact
  subst hact
  go_wp2
  go_ret
  exact ⟨rfl, BE.out⟩
theorem run_slice4 (q W : Nat) (h : W ≤ 4) (w : World) : (Instr.sliceAt 47 (.pointer (some ⟨q, 1, none⟩)) none (some (.int .i64 (W : Int))) none).run Try.prog w = .ok (.slice (some ⟨q, 1, none⟩) W 4) w := by
  have hz : (sizeOf (Try.prog.elem 47)).run Try.prog w = .ok 1 w := by kernel_rfl
  have hA : Try.prog.arrayLen 47 = 4 := by kernel_rfl
  have ht : Try.prog.underlying 47 = some (.array (Try.prog.arrayLen 47) (Try.prog.elem 47)) := by kernel_rfl
  rw [run_sliceAt_array_h w 47 _ ht .i64 (W : Int) (by omega) (by rw [hA]; omega), hz, Result.andThen_ok, hA]
  rfl
theorem elemInts : Try.prog.underlying 83 = some (.slice (Try.prog.elem 83)) := by kernel_rfl
theorem run_at_ints (B off n cap m : Nat) (hm : m < n) (w : World) : (Instr.indexAt 83 (.slice (some ⟨B, off, none⟩) n cap) (.int .i64 (m : Int))).run Try.prog w = .ok (.pointer (some ⟨B, off + m, none⟩)) w := by
  rw [run_indexAt_slice w 83 _ _ _ _ _ elemInts]
  have hz : (sizeOf (Try.prog.elem 83)).run Try.prog w = .ok 1 w := by kernel_rfl
  rw [if_pos (by omega), hz, Result.andThen_ok, Addr.add_mid, Int.toNat_natCast, Nat.mul_one]
theorem plus_cell {w : World} {b : Nat} {t : TypeId} {l : Lv} (h : Blk w b t (ints .i64 l.zs)) (hl : l.p.length = 4) {k : Nat} (hk : k < 4) : w.cell? ⟨b, 1 + k, none⟩ = some (.int .i64 (l.p.getD k 0)) := by
  refine h.plus k _ ?_
  rw [ints_getD (by omega)]
theorem instUp_right {l : Lv} {bs : List Lv} (hr : rightL l = true) (hb : ∀ x ∈ bs, x.p.length = 4) (hbr : bs.all rightL = true) : ∀ k r, k ≤ bs.length → instUp l bs k = some r → r.p.length = 4 ∧ rightL r = true
  | 0, r, _, h => by
    obtain rfl := Option.some.inj h
    have k := right_b hr
    exact ⟨rfl, right_num k.1 k.2⟩
  | k + 1, r, hk, h => by
    rw [instUp] at h
    split at h
    · cases h
    · next r0 h0 =>
      obtain ⟨i1, i2⟩ := instUp_right hr hb hbr k r0 (by omega) h0
      split at h
      · obtain rfl := Option.some.inj h
        exact ⟨i1, i2⟩
      · split at h
        · next hu =>
          obtain rfl := Option.some.inj h
          have hg : bs.getD k zeroL = bs[k]'(by omega) := by simp [List.getD_eq_getElem?_getD, show k < bs.length by omega]
          have hm : bs.getD k zeroL ∈ bs := by rw [hg]; exact List.getElem_mem _
          generalize bs.getD k zeroL = x at hm hu ⊢
          simp only [upOk, Bool.and_eq_true, decide_eq_true_eq] at hu
          obtain ⟨⟨u1, u2, u3⟩, u4⟩ := hu
          have ur : rightL (upRaw x (l.p.getD k 0)) = true := by rw [up_right (hb x hm) u1 u2 u3]; exact decide_eq_true u4
          exact ⟨max2_len i1 (upRaw_len (hb x hm)), max2_right i1 (upRaw_len (hb x hm)) i2 ur⟩
        · cases h
def instV (l : Lv) (bs : List Lv) : Value := .tuple #[.agg (ints .i64 (match instL l bs with | some r => r.zs | none => z5)).toArray, .bool (instL l bs).isSome]
theorem instV_no {l : Lv} {bs : List Lv} (h : instL l bs = none) : instV l bs = .tuple #[.agg (ints .i64 z5).toArray, .bool false] := by rw [instV, h]; rfl
theorem instV_yes {l : Lv} {bs : List Lv} {r : Lv} (h : instL l bs = some r) : instV l bs = .tuple #[.agg (ints .i64 r.zs).toArray, .bool true] := by rw [instV, h]; rfl
theorem instL_no {l : Lv} {bs : List Lv} (h : ((rightL l && decide (widthL l ≤ bs.length)) && bs.all rightL) = false) : instL l bs = none := by rw [instL, if_neg (by rw [h]; decide)]
theorem instL_up {l : Lv} {bs : List Lv} (h : ((rightL l && decide (widthL l ≤ bs.length)) && bs.all rightL) = true) : instL l bs = instUp l bs (widthL l) := by rw [instL, if_pos h]
theorem instUp_none {l : Lv} {bs : List Lv} {k : Nat} (h : instUp l bs k = none) : ∀ n, k ≤ n → instUp l bs n = none
  | 0, hn => by obtain rfl : k = 0 := by omega
                exact h
  | n + 1, hn => by
    by_cases e : k = n + 1
    · subst e; exact h
    · rw [instUp, instUp_none h n (by omega)]
set_option maxHeartbeats 4000000 in
theorem inst_walk (l : Lv) (hl : l.p.length = 4) (v : Value) (bs : List Lv) (w : World) (hv : LvsIn w v bs) : Calls Try.prog 65 #[.agg (ints .i64 l.zs).toArray, v] w fun e w' => e = .returned (instV l bs) ∧ Below w.heap.size w w' := by
  obtain ⟨q, hq⟩ : ∃ q, Hid (w.heap.size = q) := ⟨_, rfl⟩
  have HL := Lib.hid hl
  rw [hq.out]
  obtain ⟨va, vc, rfl, -, hN, hl4, -⟩ := id hv
  have L4 := Lib.hid hl4
  obtain ⟨n, hn⟩ : ∃ n, Hid (bs.length = n) := ⟨_, rfl⟩
  rw [hn.out] at hv hN ⊢
  have HV := Lib.hid hv
  clear hl hv hl4
  go_enter Try.func65, Try.ntmps65
  go_upto_region 0 with (fail)
  refine lbeg (opsOf Try.f65 0) ?_
  refine lbox 0 49 (.tmp 0) (ints .i64 l.zs) (q) (some 2) hq ?_
  intro w1 b1 be1 hs1
  refine lin_alloc 1 49 (ints .i64 z5) (q + 1) (some 4) (by kernel_rfl) (by kernel_rfl) (by kernel_rfl) zeroLv hs1 ?_
  intro w2 b2 be2 hs2
  refine lnow 2 (.bool false) (some 5) ?_
  refine ldn 3 ?_
  have B2 : Hid (Blk w2 q 49 (ints .i64 l.zs)) := b1.below be2 (Nat.lt_succ_self _)
  have Z2 := Lib.hid b2
  have BE2 : Hid (Below q w w2) := be1.trans (be2.mono (Nat.le_succ _))
  clear b1 be1 hs1 b2 be2 hs2
  generalize hact : Act.put _ (some 5) _ = act
  simp only [Act.put, sA, sC, sZ] at hact
  subst hact
  go_upto_region 1 with (fail)
  refine lbeg (opsOf Try.f65 1) ?_
  refine lin_load 0 49 (.tmp 2) (q) _ (ints .i64 l.zs) (some 12) (by kernel_rfl) (by kernel_rfl) (by kernel_rfl) (by kernel_rfl) B2.out _ Try.underlying49 rfl (lvSize HL.out) ?_
  refine lcal 1 91 #[.agg (ints .i64 l.zs).toArray] (some 13) _ (width_walk l HL.out _) ?_
  rintro e w3 ⟨rfl, hb3⟩
  refine ⟨_, rfl, ?_⟩
  obtain ⟨W, hW⟩ : ∃ x, Hid (widthL l = x) := ⟨_, rfl⟩
  rw [hW.out]
  have W4 : Hid (W ≤ 4) := by rw [Hid, ← hW.out]; exact widthUp_le l 4
  refine lnow 2 (.int .i64 (W : Int)) (some 6) ?_
  refine ldn 3 ?_
  have QS : Hid (q ≤ w2.heap.size) := Nat.le_of_lt B2.out.lt
  have B3 := Lib.hid (B2.out.below hb3 B2.out.lt)
  have Z3 := Lib.hid (Z2.out.below hb3 Z2.out.lt)
  have BE3 : Hid (Below q w w3) := BE2.out.trans (hb3.mono QS.out)
  clear hb3 B2 Z2 BE2 QS
  generalize hact : Act.put _ (some 6) _ = act
  simp only [Act.put, sA, sC, sZ] at hact
  subst hact
  go_upto_region 2 with (fail)
  refine lbeg (opsOf Try.f65 2) ?_
  refine lin_load 0 49 (.tmp 2) (q) _ (ints .i64 l.zs) (some 14) (by kernel_rfl) (by kernel_rfl) (by kernel_rfl) (by kernel_rfl) B3.out _ Try.underlying49 rfl (lvSize HL.out) ?_
  refine lcal 1 92 #[.agg (ints .i64 l.zs).toArray] (some 15) _ (right_walk l HL.out _) ?_
  rintro e w4 ⟨rfl, hb4⟩
  obtain ⟨rb, hrb⟩ : ∃ x, Hid (rightL l = x) := ⟨_, rfl⟩
  rw [hrb.out]
  refine ⟨_, rfl, ?_⟩
  refine lnow 2 (.bool (!rb)) (some 16) ?_
  refine lnow 3 (.bool (!rb)) (some 17) ?_
  have QS : Hid (q ≤ w3.heap.size) := Nat.le_of_lt B3.out.lt
  have B4 := Lib.hid (B3.out.below hb4 B3.out.lt)
  have Z4 := Lib.hid (Z3.out.below hb4 Z3.out.lt)
  have BE4 : Hid (Below q w w4) := BE3.out.trans (hb4.mono QS.out)
  clear hb4 B3 Z3 BE3 QS
  cases rb with
  | false =>
    have NO : Hid (instL l bs = none) := instL_no (by rw [hrb.out]; rfl)
    refine lpas 4 (some 18) ?_
    refine lpas 5 (some 19) ?_
    refine lpas 6 (some 20) ?_
    refine lpas 7 (some 21) ?_
    refine lnow 8 (.bool true) (some 22) ?_
    refine lnow 9 (.bool true) (some 23) ?_
    refine lpas 10 (some 24) ?_
    refine lpas 11 (some 25) ?_
    refine lnow 12 (.bool true) (some 26) ?_
    refine ldn 13 ?_
    generalize hact : Act.put _ (some 26) _ = act
    simp only [Act.put, sA, sC, sZ] at hact
    subst hact
    go_upto_region 3 with (fail)
    refine lbeg (opsOf Try.f65 3) ?_
    refine lnowP 0 (.agg (ints .i64 z5).toArray) (some 27) (exec_of (Instr.build 49 #[]) _ (by kernel_rfl) (run_build_zero _)) ?_
    refine lin_put 1 49 (.tmp 4) (.tmp 27) (q + 1) _ (ints .i64 z5) (ints .i64 z5) (by kernel_rfl) (by kernel_rfl) (by kernel_rfl) (by kernel_rfl) (by kernel_rfl) Z4.out (rfl) (lvSize (l := zeroL) rfl) (ints_oneCell _ _) ?_
    intro w9 b9 u9
    refine lnow 2 (.bool false) (some 5) ?_
    refine ldn 3 ?_
    have B9 := Lib.hid b9
    have BE9 : Hid (Below q w w9) := u9.below BE4.out (Nat.le_succ _) (Nat.le_of_lt (Nat.lt_of_succ_lt Z4.out.lt))
    clear b9 u9
    generalize hact : Act.put _ (some 5) (.bool false) = act
    have h4 : act.tmps.getD 4 undef = .pointer (some ⟨q + 1, 0, none⟩) := by rw [← hact]; kernel_rfl
    have h5 : act.tmps.getD 5 undef = .bool false := by rw [← hact]; kernel_rfl
    have hd : act.defers = [] := by rw [← hact]; kernel_rfl
    clear hact
    go_wp2
    refine bodyPost_ret (v := .tuple #[.agg (ints .i64 (z5)).toArray, .bool false]) ?_ hd ⟨by rw [instV_no NO.out], BE9.out⟩
    exact results_cell_tmp Try.results65 _ _ (q + 1) 49 (ints .i64 (z5)).toArray (0, 0) _ _ h4 h5 B9.out Try.underlying49 rfl (by rw [List.size_toArray]; exact lvSize (l := zeroL) rfl)
  | true =>
    refine lnow 4 (.slice va n vc) (some 18) ?_
    refine lnow 5 (.int .i64 (n : Int)) (some 19) ?_
    refine lnow 6 (.int .i64 (W : Int)) (some 20) ?_
    refine lnow 7 (.bool (decide ((n : Int) < (W : Int)))) (some 21) ?_
    refine lnow 8 (.bool (decide ((n : Int) < (W : Int)))) (some 22) ?_
    refine lnow 9 (.bool (decide ((n : Int) < (W : Int)))) (some 23) ?_
    by_cases hnw : n < W
    · have r0 : Hid (decide ((n : Int) < (W : Int)) = true) := decide_eq_true (by omega)
      rw [r0.out]
      have NO : Hid (instL l bs = none) := instL_no (by rw [hW.out, hn.out, decide_eq_false (show ¬ W ≤ n by omega), Bool.and_false]; rfl)
      refine lpas 10 (some 24) ?_
      refine lpas 11 (some 25) ?_
      refine lnow 12 (.bool true) (some 26) ?_
      refine ldn 13 ?_
      generalize hact : Act.put _ (some 26) _ = act
      simp only [Act.put, sA, sC, sZ] at hact
      subst hact
      go_upto_region 3 with (fail)
      refine lbeg (opsOf Try.f65 3) ?_
      refine lnowP 0 (.agg (ints .i64 z5).toArray) (some 27) (exec_of (Instr.build 49 #[]) _ (by kernel_rfl) (run_build_zero _)) ?_
      refine lin_put 1 49 (.tmp 4) (.tmp 27) (q + 1) _ (ints .i64 z5) (ints .i64 z5) (by kernel_rfl) (by kernel_rfl) (by kernel_rfl) (by kernel_rfl) (by kernel_rfl) Z4.out (rfl) (lvSize (l := zeroL) rfl) (ints_oneCell _ _) ?_
      intro w9 b9 u9
      refine lnow 2 (.bool false) (some 5) ?_
      refine ldn 3 ?_
      have B9 := Lib.hid b9
      have BE9 : Hid (Below q w w9) := u9.below BE4.out (Nat.le_succ _) (Nat.le_of_lt (Nat.lt_of_succ_lt Z4.out.lt))
      clear b9 u9
      generalize hact : Act.put _ (some 5) (.bool false) = act
      have h4 : act.tmps.getD 4 undef = .pointer (some ⟨q + 1, 0, none⟩) := by rw [← hact]; kernel_rfl
      have h5 : act.tmps.getD 5 undef = .bool false := by rw [← hact]; kernel_rfl
      have hd : act.defers = [] := by rw [← hact]; kernel_rfl
      clear hact
      go_wp2
      refine bodyPost_ret (v := .tuple #[.agg (ints .i64 (z5)).toArray, .bool false]) ?_ hd ⟨by rw [instV_no NO.out], BE9.out⟩
      exact results_cell_tmp Try.results65 _ _ (q + 1) 49 (ints .i64 (z5)).toArray (0, 0) _ _ h4 h5 B9.out Try.underlying49 rfl (by rw [List.size_toArray]; exact lvSize (l := zeroL) rfl)
    · have r0 : Hid (decide ((n : Int) < (W : Int)) = false) := decide_eq_false (by omega)
      rw [r0.out]
      refine lnow 10 (.slice va n vc) (some 24) ?_
      refine lcal 11 93 #[.slice va n vc, wrV] (some 25) _ (lcontf_walk _ bs _ (HV.out.below BE4.out (by rw [hq.out]; exact Nat.le_refl _))) ?_
      rintro e w5 ⟨rfl, hb5⟩
      obtain ⟨ab, hab⟩ : ∃ x, Hid (bs.all rightL = x) := ⟨_, rfl⟩
      rw [hab.out]
      refine ⟨_, rfl, ?_⟩
      have QS : Hid (q ≤ w4.heap.size) := Nat.le_of_lt B4.out.lt
      have B5 := Lib.hid (B4.out.below hb5 B4.out.lt)
      have Z5 := Lib.hid (Z4.out.below hb5 Z4.out.lt)
      have BE5 : Hid (Below q w w5) := BE4.out.trans (hb5.mono QS.out)
      clear hb5 B4 Z4 BE4 QS
      refine lnow 12 (.bool (!ab)) (some 26) ?_
      refine ldn 13 ?_
      generalize hact : Act.put _ (some 26) _ = act
      simp only [Act.put, sA, sC, sZ] at hact
      subst hact
      cases ab with
      | false =>
        have NO : Hid (instL l bs = none) := instL_no (by rw [hab.out, Bool.and_false])
        go_upto_region 3 with (fail)
        refine lbeg (opsOf Try.f65 3) ?_
        refine lnowP 0 (.agg (ints .i64 z5).toArray) (some 27) (exec_of (Instr.build 49 #[]) _ (by kernel_rfl) (run_build_zero _)) ?_
        refine lin_put 1 49 (.tmp 4) (.tmp 27) (q + 1) _ (ints .i64 z5) (ints .i64 z5) (by kernel_rfl) (by kernel_rfl) (by kernel_rfl) (by kernel_rfl) (by kernel_rfl) Z5.out (rfl) (lvSize (l := zeroL) rfl) (ints_oneCell _ _) ?_
        intro w9 b9 u9
        refine lnow 2 (.bool false) (some 5) ?_
        refine ldn 3 ?_
        have B9 := Lib.hid b9
        have BE9 : Hid (Below q w w9) := u9.below BE5.out (Nat.le_succ _) (Nat.le_of_lt (Nat.lt_of_succ_lt Z5.out.lt))
        clear b9 u9
        generalize hact : Act.put _ (some 5) (.bool false) = act
        have h4 : act.tmps.getD 4 undef = .pointer (some ⟨q + 1, 0, none⟩) := by rw [← hact]; kernel_rfl
        have h5 : act.tmps.getD 5 undef = .bool false := by rw [← hact]; kernel_rfl
        have hd : act.defers = [] := by rw [← hact]; kernel_rfl
        clear hact
        go_wp2
        refine bodyPost_ret (v := .tuple #[.agg (ints .i64 (z5)).toArray, .bool false]) ?_ hd ⟨by rw [instV_no NO.out], BE9.out⟩
        exact results_cell_tmp Try.results65 _ _ (q + 1) 49 (ints .i64 (z5)).toArray (0, 0) _ _ h4 h5 B9.out Try.underlying49 rfl (by rw [List.size_toArray]; exact lvSize (l := zeroL) rfl)
      | true =>
        have IU : Hid (instL l bs = instUp l bs W) := by rw [Hid, instL_up (by rw [hrb.out, hab.out, hW.out, hn.out, decide_eq_true (show W ≤ n by omega)]; rfl), hW.out]
        have IR : Hid (∀ k r, k ≤ n → instUp l bs k = some r → r.p.length = 4 ∧ rightL r = true) := fun k r hk h => instUp_right hrb.out L4.out hab.out k r (by rw [hn.out]; exact hk) h
        go_upto_region 4 with (fail)
        refine lbeg (opsOf Try.f65 4) ?_
        refine lnow 0 (.pointer (some ⟨q, 0, none⟩)) (some 28) ?_
        refine lcl 1 (.int .i64 l.b) (some 29) 3 28 q 0 B5.out.base Try.underlying3 ?_
        refine lcal 2 95 #[.int .i64 l.b] (some 30) _ (num_walk l.b _) ?_
        rintro e w6 ⟨rfl, hb6⟩
        refine ⟨_, rfl, ?_⟩
        have QS : Hid (q ≤ w5.heap.size) := Nat.le_of_lt B5.out.lt
        have B6 := Lib.hid (B5.out.below hb6 B5.out.lt)
        have Z6 := Lib.hid (Z5.out.below hb6 Z5.out.lt)
        have BE6 : Hid (Below q w w6) := BE5.out.trans (hb6.mono QS.out)
        clear hb6 B5 Z5 BE5 QS
        obtain ⟨g, hg⟩ : ∃ g, Hid (w6.heap.size = g) := ⟨_, rfl⟩
        have GQ : Hid (q + 1 < g) := by rw [Hid, ← hg.out]; exact Z6.out.lt
        refine lin_alloc 3 49 (ints .i64 z5) (g) (some 7) (by kernel_rfl) (by kernel_rfl) (by kernel_rfl) zeroLv hg ?_
        intro w7 b7 be7 hs7
        refine lin_put 4 49 (.tmp 7) (.tmp 30) (g) _ (ints .i64 z5) (ints .i64 (numL l.b).zs) (by kernel_rfl) (by kernel_rfl) (by kernel_rfl) (by kernel_rfl) (by kernel_rfl) b7 (rfl) (lvSize (l := numL l.b) rfl) (ints_oneCell _ _) ?_
        intro w8 b8 u8
        refine ldn 5 ?_
        have G8 := Lib.hid b8
        have B8 : Hid (Blk w8 q 49 (ints .i64 l.zs)) := u8.blk (B6.out.below be7 (by have := GQ.out; omega)) (by have := GQ.out; omega)
        have Z8 : Hid (Blk w8 (q + 1) 49 (ints .i64 z5)) := u8.blk (Z6.out.below be7 GQ.out) (by have := GQ.out; omega)
        have BE8 : Hid (Below q w w8) := u8.below (BE6.out.trans (be7.mono (by have := GQ.out; omega))) (by have := GQ.out; omega) (by rw [hs7.out]; have := GQ.out; omega)
        clear b7 be7 hs7 b8 u8 B6 Z6 BE6 hg
        generalize hact : Act.put _ none undef = act
        simp only [Act.put, sA, sC, sZ] at hact
        subst hact
        go_upto_region 5 with (fail)
        refine lbeg (opsOf Try.f65 5) ?_
        refine lnow 0 (.pointer (some ⟨q, 1, none⟩)) (some 31) ?_
        refine lnow 1 (.int .i64 (W : Int)) (some 32) ?_
        refine lnowP 2 (.slice (some ⟨q, 1, none⟩) W 4) (some 33) (exec_of (Instr.sliceAt 47 (.pointer (some ⟨q, 1, none⟩)) none (some (.int .i64 (W : Int))) none) _ (by kernel_rfl) (run_slice4 q W W4.out _)) ?_
        refine lnow 3 (.int .i64 (W : Int)) (some 34) ?_
        refine lnow 4 (.int .i64 0) (some 35) ?_
        refine ldn 5 ?_
        generalize hact : Act.put _ (some 35) _ = act
        simp only [Act.put, sA, sC, sZ] at hact
        subst hact
        go_wp2
        go_loopw [35] (fun iv wr => ∃ (k : Nat) (r : Lv), k ≤ W ∧ iv = .int .i64 (k : Int) ∧ Hid (instUp l bs k = some r) ∧ Hid (Blk wr g 49 (ints .i64 r.zs)) ∧ Hid (Blk wr q 49 (ints .i64 l.zs)) ∧ Hid (Blk wr (q + 1) 49 (ints .i64 z5)) ∧ Hid (Below q w wr)) (fun iv _ => W - (intOf iv).toNat)
        case atStart => exact ⟨0, numL l.b, Nat.zero_le _, rfl, rfl, G8, B8, Z8, BE8⟩
        case round =>
          obtain ⟨k, r, hk, rfl, hIK, GK, BK, ZK, BEK⟩ := hrel
          clear G8 B8 Z8 BE8
          by_cases hlt : k < W
          · have r1 : (k : Int) < (W : Int) := by omega
            have k4 : k < 4 := by have := W4.out; omega
            have kn : k < n := by omega
            have PC := plus_cell BK.out HL.out k4
            obtain ⟨x, hx⟩ : ∃ x, Hid (l.p.getD k 0 = x) := ⟨_, rfl⟩
            rw [hx.out] at PC
            obtain ⟨hr4, hrr⟩ := IR.out k r (by omega) hIK.out
            have R4 := Lib.hid hr4
            have RR := Lib.hid hrr
            clear hr4 hrr
            go_upto_region 7 with (fail)
            refine lbeg (opsOf Try.f65 7) ?_
            refine lnow 0 (.int .i64 (k : Int)) (some 37) ?_
            refine lix 1 (.pointer (some ⟨q, 1 + k, none⟩)) (some 38) 83 33 35 (run_at_ints q 1 W 4 k hlt _) ?_
            refine lcl 2 (.int .i64 x) (some 39) 3 38 q (1 + k) PC Try.underlying3 ?_
            refine lnow 3 (.int .i64 (k : Int)) (some 8) ?_
            refine lnow 4 (.int .i64 x) (some 9) ?_
            refine ldn 5 ?_
            clear PC
            generalize hact : Act.put _ (some 9) _ = act
            simp only [Act.put, sA, sC, sZ] at hact
            subst hact
            by_cases hx1 : x = -1
            · have I2 : Hid (instUp l bs (k + 1) = some r) := by rw [Hid, instUp, hIK.out]; simp only [hx.out, hx1, if_true]
              subst hx1
              go_wp2
              go_roundw
              case rel => exact ⟨k + 1, r, by omega, by go_num, I2, GK, BK, ZK, BEK⟩
              case measure => simp [intOf]; omega
            · obtain ⟨m, pb, po, hm, hmm, hm4, rfl, hpb, hrg⟩ := (HV.out.below BEK.out (by rw [hq.out]; exact Nat.le_refl _)).get hn.out kn
              have M4 := Lib.hid hm4
              have RG := Lib.hid hrg
              have GD : Hid (bs.getD k zeroL = m) := by rw [Hid, List.getD_eq_getElem?_getD, hm]; rfl
              have IS : Hid (instUp l bs (k + 1) = if upOk m x then some (max2 r (upRaw m x)) else none) := by rw [Hid, instUp, hIK.out]; simp only [hx.out, hx1, if_false, GD.out]
              clear hm hmm hm4 hpb hrg
              go_upto_region 9 with (fail)
              refine lbeg (opsOf Try.f65 9) ?_
              refine lnow 0 (.slice (some ⟨pb, po, none⟩) n vc) (some 43) ?_
              refine lnow 1 (.int .i64 (k : Int)) (some 44) ?_
              refine lix 2 (.pointer (some ⟨pb, po + 5 * k, none⟩)) (some 45) 22 43 44 (run_at_lv pb po n vc k kn _) ?_
              refine lrl 3 (ints .i64 m.zs) (some 46) 49 45 pb (po + 5 * k) RG.out Try.underlying49 (lvSize M4.out) ?_
              refine lnow 4 (.int .i64 x) (some 47) ?_
              refine lcal 5 96 #[.agg (ints .i64 m.zs).toArray, .int .i64 x] (some 48) _ (up_walk m M4.out x _) ?_
              rintro e w3 ⟨rfl, hb3⟩
              refine ⟨_, rfl, ?_⟩
              have G3 := Lib.hid (GK.out.below hb3 GK.out.lt)
              have B3 := Lib.hid (BK.out.below hb3 BK.out.lt)
              have Z3 := Lib.hid (ZK.out.below hb3 ZK.out.lt)
              have BE3 : Hid (Below q w w3) := BEK.out.trans (hb3.mono (Nat.le_of_lt BK.out.lt))
              clear hb3 GK BK ZK BEK RG
              obtain ⟨t10, ht10⟩ : ∃ g, Hid (w3.heap.size = g) := ⟨_, rfl⟩
              have TG : Hid (g < t10) := by rw [Hid, ← ht10.out]; exact G3.out.lt
              cases hup : upOk m x with
              | false =>
                rw [upV_no hup]
                have NO : Hid (instL l bs = none) := by rw [Hid, IU.out]; exact instUp_none (k := k + 1) (by rw [IS.out, hup]; rfl) W (by omega)
                clear hup
                refine lnow 6 (.tuple #[.agg (ints .i64 (z5)).toArray, .bool false]) (some 42) ?_
                refine lnow 7 (.agg (ints .i64 (z5)).toArray) (some 49) ?_
                refine lnow 8 (.bool false) (some 50) ?_
                refine lin_alloc 9 49 (ints .i64 z5) (t10) (some 10) (by kernel_rfl) (by kernel_rfl) (by kernel_rfl) zeroLv ht10 ?_
                intro w4 b4 be4 hs4
                refine lin_put 10 49 (.tmp 10) (.tmp 49) (t10) _ (ints .i64 z5) (ints .i64 (z5)) (by kernel_rfl) (by kernel_rfl) (by kernel_rfl) (by kernel_rfl) (by kernel_rfl) b4 (rfl) (lvSize (l := zeroL) rfl) (ints_oneCell _ _) ?_
                intro w5 b5 u5
                refine lnow 11 (.bool false) (some 11) ?_
                refine ldn 12 ?_
                have T5 := Lib.hid b5
                have G5 : Hid (Blk w5 g 49 (ints .i64 r.zs)) := u5.blk (G3.out.below be4 TG.out) (by have := TG.out; omega)
                have B5 : Hid (Blk w5 q 49 (ints .i64 l.zs)) := u5.blk (B3.out.below be4 (by have := TG.out; have := GQ.out; omega)) (by have := TG.out; have := GQ.out; omega)
                have Z5 : Hid (Blk w5 (q + 1) 49 (ints .i64 z5)) := u5.blk (Z3.out.below be4 (by have := TG.out; have := GQ.out; omega)) (by have := TG.out; have := GQ.out; omega)
                have BE5 : Hid (Below q w w5) := u5.below (BE3.out.trans (be4.mono (by have := TG.out; have := GQ.out; omega))) (by have := TG.out; have := GQ.out; omega) (by rw [hs4.out]; have := TG.out; have := GQ.out; omega)
                clear b4 be4 hs4 b5 u5 G3 B3 Z3 BE3
                generalize hact : Act.put _ (some 11) _ = act
                simp only [Act.put, sA, sC, sZ] at hact
                subst hact
                go_upto_region 11 with (fail)
                refine lbeg (opsOf Try.f65 11) ?_
                refine lnowP 0 (.agg (ints .i64 z5).toArray) (some 53) (exec_of (Instr.build 49 #[]) _ (by kernel_rfl) (run_build_zero _)) ?_
                refine lin_put 1 49 (.tmp 4) (.tmp 53) (q + 1) _ (ints .i64 z5) (ints .i64 z5) (by kernel_rfl) (by kernel_rfl) (by kernel_rfl) (by kernel_rfl) (by kernel_rfl) Z5.out (rfl) (lvSize (l := zeroL) rfl) (ints_oneCell _ _) ?_
                intro w9 b9 u9
                refine lnow 2 (.bool false) (some 5) ?_
                refine ldn 3 ?_
                have B9 := Lib.hid b9
                have BE9 : Hid (Below q w w9) := u9.below BE5.out (Nat.le_succ _) (Nat.le_of_lt (Nat.lt_of_succ_lt Z5.out.lt))
                clear b9 u9
                generalize hact : Act.put _ (some 5) (.bool false) = act
                have h4 : act.tmps.getD 4 undef = .pointer (some ⟨q + 1, 0, none⟩) := by rw [← hact]; kernel_rfl
                have h5 : act.tmps.getD 5 undef = .bool false := by rw [← hact]; kernel_rfl
                have hd : act.defers = [] := by rw [← hact]; kernel_rfl
                clear hact
                go_wp2
                refine bodyPost_ret (v := .tuple #[.agg (ints .i64 (z5)).toArray, .bool false]) ?_ hd ⟨by rw [instV_no NO.out], BE9.out⟩
                exact results_cell_tmp Try.results65 _ _ (q + 1) 49 (ints .i64 (z5)).toArray (0, 0) _ _ h4 h5 B9.out Try.underlying49 rfl (by rw [List.size_toArray]; exact lvSize (l := zeroL) rfl)
              | true =>
                rw [upV_yes hup]
                have U4 : Hid ((upRaw m x).p.length = 4) := upRaw_len M4.out
                have UR : Hid (rightL (upRaw m x) = true) := by
                  simp only [upOk, Bool.and_eq_true, decide_eq_true_eq] at hup
                  obtain ⟨⟨u1, u2, u3⟩, u4⟩ := hup
                  rw [Hid, up_right M4.out u1 u2 u3]
                  exact decide_eq_true u4
                have IN : Hid (instUp l bs (k + 1) = some (max2 r (upRaw m x))) := by rw [Hid, IS.out, hup]; rfl
                clear hup
                obtain ⟨u, hu⟩ : ∃ u, Hid (upRaw m x = u) := ⟨_, rfl⟩
                rw [hu.out] at U4 UR IN ⊢
                have MX : Hid (maxL [r, u] = max2 r u) := maxL_two R4.out RR.out UR.out
                have MX4 : Hid ((max2 r u).p.length = 4) := max2_len R4.out U4.out
                refine lnow 6 (.tuple #[.agg (ints .i64 (u.zs)).toArray, .bool true]) (some 42) ?_
                refine lnow 7 (.agg (ints .i64 (u.zs)).toArray) (some 49) ?_
                refine lnow 8 (.bool true) (some 50) ?_
                refine lin_alloc 9 49 (ints .i64 z5) (t10) (some 10) (by kernel_rfl) (by kernel_rfl) (by kernel_rfl) zeroLv ht10 ?_
                intro w4 b4 be4 hs4
                refine lin_put 10 49 (.tmp 10) (.tmp 49) (t10) _ (ints .i64 z5) (ints .i64 (u.zs)) (by kernel_rfl) (by kernel_rfl) (by kernel_rfl) (by kernel_rfl) (by kernel_rfl) b4 ((by rw [Lv.zlen U4.out]; rfl)) (lvSize U4.out) (ints_oneCell _ _) ?_
                intro w5 b5 u5
                refine lnow 11 (.bool true) (some 11) ?_
                refine ldn 12 ?_
                have T5 := Lib.hid b5
                have G5 : Hid (Blk w5 g 49 (ints .i64 r.zs)) := u5.blk (G3.out.below be4 TG.out) (by have := TG.out; omega)
                have B5 : Hid (Blk w5 q 49 (ints .i64 l.zs)) := u5.blk (B3.out.below be4 (by have := TG.out; have := GQ.out; omega)) (by have := TG.out; have := GQ.out; omega)
                have Z5 : Hid (Blk w5 (q + 1) 49 (ints .i64 z5)) := u5.blk (Z3.out.below be4 (by have := TG.out; have := GQ.out; omega)) (by have := TG.out; have := GQ.out; omega)
                have BE5 : Hid (Below q w w5) := u5.below (BE3.out.trans (be4.mono (by have := TG.out; have := GQ.out; omega))) (by have := TG.out; have := GQ.out; omega) (by rw [hs4.out]; have := TG.out; have := GQ.out; omega)
                clear b4 be4 hs4 b5 u5 G3 B3 Z3 BE3
                generalize hact : Act.put _ (some 11) _ = act
                simp only [Act.put, sA, sC, sZ] at hact
                subst hact
                obtain ⟨s, hs⟩ : ∃ s, Hid (w5.heap.size = s) := ⟨_, rfl⟩
                have SG : Hid (t10 < s) := by rw [Hid, ← hs.out]; exact T5.out.lt
                go_upto_region 12 with (fail)
                refine lbeg (opsOf Try.f65 12) ?_
                refine lin_load 0 49 (.tmp 7) (g) _ (ints .i64 r.zs) (some 54) (by kernel_rfl) (by kernel_rfl) (by kernel_rfl) (by kernel_rfl) G5.out _ Try.underlying49 rfl (lvSize R4.out) ?_
                refine lin_load 1 49 (.tmp 10) (t10) _ (ints .i64 u.zs) (some 55) (by kernel_rfl) (by kernel_rfl) (by kernel_rfl) (by kernel_rfl) T5.out _ Try.underlying49 rfl (lvSize U4.out) ?_
                refine lin_row 2 49 (ints .i64 (r.zs ++ u.zs)) s 2 (some 56) (by kernel_rfl) (by kernel_rfl) hs (exec_of (Instr.buildSlice 22 2 #[(0, .agg (ints .i64 r.zs).toArray), (1, .agg (ints .i64 u.zs).toArray)]) _ (by kernel_rfl) (run_build_lvs2 R4.out U4.out _)) ?_
                intro w6 b6 be6 hs6
                refine lcal 3 97 #[.slice (some ⟨s, 0, none⟩) 2 2] (some 57) _ (max_walk _ [r, u] _ (two_in R4.out U4.out b6)) ?_
                rintro e w7 ⟨rfl, hb7⟩
                rw [MX.out]
                refine ⟨_, rfl, ?_⟩
                have h67 : Below s w5 w7 := be6.trans (hb7.mono (by rw [hs6.out]; omega))
                refine lin_put 4 49 (.tmp 7) (.tmp 57) (g) _ (ints .i64 r.zs) (ints .i64 (max2 r u).zs) (by kernel_rfl) (by kernel_rfl) (by kernel_rfl) (by kernel_rfl) (by kernel_rfl) (G5.out.below h67 (by have := SG.out; have := TG.out; omega)) ((by rw [Lv.zlen MX4.out, Lv.zlen R4.out])) (lvSize MX4.out) (ints_oneCell _ _) ?_
                intro w8 b8 u8
                refine ldn 5 ?_
                have G8 := Lib.hid b8
                have B8 : Hid (Blk w8 q 49 (ints .i64 l.zs)) := u8.blk (B5.out.below h67 (by have := SG.out; have := TG.out; have := GQ.out; omega)) (by have := GQ.out; omega)
                have Z8 : Hid (Blk w8 (q + 1) 49 (ints .i64 z5)) := u8.blk (Z5.out.below h67 (by have := SG.out; have := TG.out; have := GQ.out; omega)) (by have := GQ.out; omega)
                have BE8 : Hid (Below q w w8) := u8.below (BE5.out.trans (h67.mono (by have := SG.out; have := TG.out; have := GQ.out; omega))) (by have := GQ.out; omega) (Nat.le_trans (Nat.le_of_lt B5.out.lt) h67.size)
                clear b6 be6 hs6 hb7 h67 b8 u8 G5 B5 Z5 BE5 T5 hs
                generalize hact : Act.put _ none undef = act
                simp only [Act.put, sA, sC, sZ] at hact
                subst hact
                go_wp2
                go_roundw
                case rel => exact ⟨k + 1, max2 r u, by omega, by go_num, IN, G8, B8, Z8, BE8⟩
                case measure => simp [intOf]; omega
          · have r1 : ¬ (k : Int) < (W : Int) := by omega
            obtain rfl : k = W := by omega
            have YES : Hid (instL l bs = some r) := by rw [Hid, IU.out, hIK.out]
            have R4 : Hid (r.p.length = 4) := (IR.out k r (by omega) hIK.out).1
            go_upto_region 14 with (fail)
            refine lbeg (opsOf Try.f65 14) ?_
            refine lin_load 0 49 (.tmp 7) (g) _ (ints .i64 r.zs) (some 59) (by kernel_rfl) (by kernel_rfl) (by kernel_rfl) (by kernel_rfl) GK.out _ Try.underlying49 rfl (lvSize R4.out) ?_
            refine lin_put 1 49 (.tmp 4) (.tmp 59) (q + 1) _ (ints .i64 z5) (ints .i64 r.zs) (by kernel_rfl) (by kernel_rfl) (by kernel_rfl) (by kernel_rfl) (by kernel_rfl) ZK.out ((by rw [Lv.zlen R4.out]; rfl)) (lvSize R4.out) (ints_oneCell _ _) ?_
            intro w9 b9 u9
            refine lnow 2 (.bool true) (some 5) ?_
            refine ldn 3 ?_
            have B9 := Lib.hid b9
            have BE9 : Hid (Below q w w9) := u9.below BEK.out (Nat.le_succ _) (Nat.le_of_lt (Nat.lt_of_succ_lt ZK.out.lt))
            clear b9 u9
            generalize hact : Act.put _ (some 5) (.bool true) = act
            have h4 : act.tmps.getD 4 undef = .pointer (some ⟨q + 1, 0, none⟩) := by rw [← hact]; kernel_rfl
            have h5 : act.tmps.getD 5 undef = .bool true := by rw [← hact]; kernel_rfl
            have hd : act.defers = [] := by rw [← hact]; kernel_rfl
            clear hact
            go_wp2
            refine bodyPost_ret (v := .tuple #[.agg (ints .i64 (r.zs)).toArray, .bool true]) ?_ hd ⟨by rw [instV_yes YES.out], BE9.out⟩
            exact results_cell_tmp Try.results65 _ _ (q + 1) 49 (ints .i64 (r.zs)).toArray (0, 0) _ _ h4 h5 B9.out Try.underlying49 rfl (by rw [List.size_toArray]; exact lvSize R4.out)
end Go.Proofs.Ytndbpmkglddjjaa
