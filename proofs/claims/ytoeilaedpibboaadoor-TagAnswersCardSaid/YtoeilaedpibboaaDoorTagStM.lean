/- The law TagSets. -/
import Derived.Test.YtoeilaedpibboaaDoorTagSoG
import Derived.Test.YtoeilaedpibboaaDoorTagAlv
namespace Go.Proofs.YtoeilaedpibboaaDoor
open Go Go.RowKit
set_option maxRecDepth 100000

theorem z32D_length : (List.replicate 32 (0 : Int)).length = 32 := by rw [List.length_replicate]
theorem spliceD (cur vs : List Int) (o : Nat) : splice (ints .u8 cur) o (ints .u8 vs) = ints .u8 (cur.take o ++ (vs ++ cur.drop (o + vs.length))) := by
  unfold splice
  rw [ints_length]
  simp [ints]
theorem run_build_digO (x : List Int) (hx : x.length = 32) (w : World) : (Instr.buildSlice 22 1 #[(0, .agg (ints .u8 x).toArray)]).run Tryd.prog w = .ok (.slice (some ⟨w.heap.size, 0, none⟩) 1 1) (w.alloc (.cells (ints .u8 x).toArray 24)) := by
  have h : (Instr.buildSlice 22 1 #[(0, .agg (ints .u8 x).toArray)]).run Tryd.prog w = ((match Instr.fill (fun i => some (i * 32, 32)) (ints .u8 (List.replicate 32 0)).toArray [(0, .agg (ints .u8 x).toArray)] with | some cells => (do pure (.slice (some (← newRow 24 cells)) 1 1)) | _ => stuck "buildSlice: a part of the wrong size" : Sem Value)).run Tryd.prog w := by kernel_rfl
  rw [h, fill_one _ (ints .u8 (List.replicate 32 0)) (ints .u8 x) 0 0 32 _ _ rfl rfl (by rw [ints_length, hx]) (by rw [ints_length, z32D_length]; omega), Instr.fill]
  have e : splice (ints .u8 (List.replicate 32 0)) 0 (ints .u8 x) = ints .u8 x := by
    rw [spliceD, List.take_zero, List.nil_append, Nat.zero_add, hx, List.drop_eq_nil_of_le (by rw [z32D_length]; omega), List.append_nil]
  rw [e]
  rfl
theorem and1023 (x : Int) : ∃ m : Nat, bits BinOp.and IntKind.i64 x 1023 = (m : Int) ∧ m ≤ 1023 := by
  have h1 : (BitVec.ofInt 64 x &&& BitVec.ofInt 64 1023).toNat ≤ 1023 := by
    rw [BitVec.toNat_and]
    exact Nat.le_trans Nat.and_le_right (by decide)
  have h2 : bits BinOp.and IntKind.i64 x 1023 = IntKind.i64.wrap ((BitVec.ofInt 64 x &&& BitVec.ofInt 64 1023).toNat : Int) := rfl
  refine ⟨_, ?_, h1⟩
  rw [h2, IntWalk.i64_in _ (by omega)]
theorem exec_remD {P : Program} {a : Act} {w : World} {op : Oper} (ty ty2 : TypeId) (x y : Operand) (ho : op.op = .binOp .rem ty x y ty2) (p q : Int) (hx : a.eval x = .int .i64 p) (hy : a.eval y = .int .i64 q) (hq : q ≠ 0) : (execOp a.eval op).run P w = .ok (.value (.int .i64 (p.tmod q))) w := by
  unfold execOp
  simp only [ho, hx, hy, eqGuard_rem, binOp_rem, Op.intDiv]
  simp [hq]
theorem lin_newrowD {P : Program} {ops : Array Oper} {Q : Exit → Act → World → Prop} {a : Act} {w : World} (i : Nat) (t : TypeId) (cs : List Value) (q n : Nat) (d : Option Tmp) (hi : (ops[i]?.isSome && Region.wanted (opAt ops i) (yielded ops a.tmps)) = true) (hd : (opAt ops i).dst = d) (hq : Hid (w.heap.size = q))
    (hrun : (execOp a.eval (opAt ops i)).run P w = .ok (.value (.slice (some ⟨w.heap.size, 0, none⟩) n n)) (w.alloc (.cells cs.toArray t)))
    (h : ∀ w', Blk w' q t cs → Below q w w' → Hid (w'.heap.size = q + 1) → wpFrom P ops Q (i + 1) (a.put d (.slice (some ⟨q, 0, none⟩) n n)) w') : wpFrom P ops Q i a w := by
  obtain rfl := hq.out
  exact lin_value i _ d _ hi hd hrun (h _ (Blk.new w t cs) ((Below.refl _ _).alloc (Nat.le_refl _) _) (by unfold Hid; simp))
theorem drop_rev {ds : List (List Int)} {k : Nat} {x : List Int} (h : ds[k]? = some x) : (ds.drop k).reverse = (ds.drop (k + 1)).reverse ++ [x] := by
  obtain ⟨hl, rfl⟩ := List.getElem?_eq_some_iff.1 h
  rw [List.drop_eq_getElem_cons hl, List.reverse_cons]
theorem digs_one {w : World} {q : Nat} {x : List Int} (h : Blk w q 24 (ints .u8 x)) : DigsIn w (.slice (some ⟨q, 0, none⟩) 1 1) [x] :=
  ⟨some ⟨q, 0, none⟩, 1, rfl, fun _ => ⟨q, 0, rfl, h.lt, by simpa using h.whole⟩⟩
theorem rising_at {l : List (List Int)} (h : Rising l) {k : Nat} {x y : List Int} (hy : l[k]? = some y) (hx : l[k + 1]? = some x) : cmpD y x = -1 := by
  have h1 := List.pairwise_iff_getElem.1 h k (k + 1) (List.getElem?_eq_some_iff.1 hy).1 (List.getElem?_eq_some_iff.1 hx).1 (by omega)
  rw [(List.getElem?_eq_some_iff.1 hy).2, (List.getElem?_eq_some_iff.1 hx).2] at h1
  rcases cmpD_range y x with e | e | e <;> omega
set_option maxHeartbeats 4000000 in
theorem sets_main (u : Value) (ds : List (List Int)) (kind at' : Int) (w : World) (hu : DigsIn w u ds) (hnil : NilOk u) (hok : okD ds) (hK : KW w) :
    Calls Tryd.prog 4 #[u, .int .u8 kind, .int .i64 at'] w fun e w' => e = .returned (.bool true) ∧ Below w.heap.size w w' := by
  obtain ⟨ua, uc, rfl, -⟩ := id hu
  obtain ⟨q, hq⟩ : ∃ q, Hid (w.heap.size = q) := ⟨_, rfl⟩
  have HU := Lib.hid hu
  have HNL := Lib.hid hnil
  have HOK := Lib.hid hok
  have HK := Lib.hid hK
  obtain ⟨n, hn⟩ : ∃ n, Hid (ds.length = n) := ⟨_, rfl⟩
  rw [hn.out] at HU HNL ⊢
  rw [hq.out]
  clear hu hnil hok hK
  go_enter Tryd.func4, Tryd.ntmps4
  go_upto_region 0 with (fail)
  refine lin_begin (opsOf Tryd.f4 0) (by kernel_rfl) ?_
  refine lnow 0 (.bool false) (some 6) ?_
  refine lin_done 1 (by kernel_rfl) ?_
  generalize hact : Act.put _ (some 6) _ = act
  simp only [Act.put, List.setIfInBounds_toArray, List.set_cons_succ, List.set_cons_zero] at hact
  subst hact
  go_upto_region 1 with (fail)
  refine lin_begin (opsOf Tryd.f4 1) (by kernel_rfl) ?_
  refine lin_call 0 5 #[] (some 11) _ (by kernel_rfl) (by kernel_rfl) (by kernel_rfl) (talive_walk _ HK.out) ?_
  rintro e w1 ⟨rfl, hb1⟩
  refine ⟨_, rfl, ?_⟩
  have BE1 : Hid (Below q w w1) := by rw [Hid, ← hq.out]; exact hb1
  have Q1 : Hid (q ≤ w1.heap.size) := by rw [Hid, ← hq.out]; exact hb1.size
  clear hb1
  refine lnow 1 (.bool false) (some 12) ?_
  refine lin_done 2 (by kernel_rfl) ?_
  generalize hact : Act.put _ (some 12) _ = act
  simp only [Act.put, List.setIfInBounds_toArray, List.set_cons_succ, List.set_cons_zero] at hact
  subst hact
  by_cases h20 : (n : Int) > 20
  · skip
    go_upto_region 3 with (fail)
    refine lin_begin (opsOf Tryd.f4 3) (by kernel_rfl) ?_
    refine lnow 0 (.slice ua n uc) (some 13) ?_
    refine lnow 1 (.int .i64 (n : Int)) (some 14) ?_
    refine lnow 2 (.bool (decide ((n : Int) > 20))) (some 15) ?_
    rw [decide_eq_true (h20)]
    refine lin_done 3 (by kernel_rfl) ?_
    generalize hact : Act.put _ (some 15) _ = act
    simp only [Act.put, List.setIfInBounds_toArray, List.set_cons_succ, List.set_cons_zero] at hact
    subst hact
    go_upto_region 4 with (fail)
    refine lin_begin (opsOf Tryd.f4 4) (by kernel_rfl) ?_
    refine lnow 0 (.bool true) (some 6) ?_
    refine lin_done 1 (by kernel_rfl) ?_
    generalize hact : Act.put _ (some 6) _ = act
    simp only [Act.put, List.setIfInBounds_toArray, List.set_cons_succ, List.set_cons_zero] at hact
    subst hact
    go_wp2
    go_ret
    exact ⟨rfl, BE1.out⟩
  go_upto_region 3 with (fail)
  refine lin_begin (opsOf Tryd.f4 3) (by kernel_rfl) ?_
  refine lnow 0 (.slice ua n uc) (some 13) ?_
  refine lnow 1 (.int .i64 (n : Int)) (some 14) ?_
  refine lnow 2 (.bool (decide ((n : Int) > 20))) (some 15) ?_
  rw [decide_eq_false (h20)]
  refine lin_done 3 (by kernel_rfl) ?_
  generalize hact : Act.put _ (some 15) _ = act
  simp only [Act.put, List.setIfInBounds_toArray, List.set_cons_succ, List.set_cons_zero] at hact
  subst hact
  have N20 : n ≤ 20 := by omega
  clear h20
  have hmk := run_build_nodig w1
  have O2 := Lib.hid (OwnD.empty w1)
  have B12 : Hid (Below w1.heap.size w1 (w1.alloc (.cells #[] 24))) := (Below.refl _ _).alloc (Nat.le_refl _) _
  obtain ⟨G, hG⟩ : ∃ G, Hid (w1.heap.size = G) := ⟨_, rfl⟩
  rw [hG.out] at hmk O2 B12
  go_upto_region 5 with (fail)
  refine lin_begin (opsOf Tryd.f4 5) (by kernel_rfl) ?_
  generalize w1.alloc (.cells #[] 24) = w2 at hmk O2 B12
  refine lin_value 0 (.slice (some ⟨G, 0, none⟩) 0 0) (some 16) w2 (by kernel_rfl) (by kernel_rfl) (exec_of (Instr.buildSlice 22 0 #[]) _ (by kernel_rfl) hmk) ?_
  refine lnow 1 (.slice (some ⟨G, 0, none⟩) 0 0) (some 7) ?_
  refine lin_done 2 (by kernel_rfl) ?_
  generalize hact : Act.put _ (some 7) _ = act
  simp only [Act.put, List.setIfInBounds_toArray, List.set_cons_succ, List.set_cons_zero] at hact
  subst hact
  have QG : Hid (q ≤ G) := by rw [Hid, ← hG.out]; exact Q1.out
  have BE2 : Hid (Below q w w2) := BE1.out.trans (B12.out.mono QG.out)
  have G2 : Hid (G ≤ w2.heap.size) := by rw [Hid, ← hG.out]; exact B12.out.size
  clear hmk B12 BE1 Q1
  go_upto_region 6 with (fail)
  refine lin_begin (opsOf Tryd.f4 6) (by kernel_rfl) ?_
  refine lnow 0 (.slice ua n uc) (some 17) ?_
  refine lnow 1 (.int .i64 (n : Int)) (some 18) ?_
  refine lnow 2 (.int .i64 (IntKind.i64.wrap ((n : Int) - 1))) (some 19) ?_
  rw [show IntKind.i64.wrap ((n : Int) - 1) = (n : Int) - 1 from IntWalk.i64_in _ (by omega)]
  refine lnow 3 (.int .i64 ((n : Int) - 1)) (some 8) ?_
  refine lin_done 4 (by kernel_rfl) ?_
  generalize hact : Act.put _ (some 8) _ = act
  simp only [Act.put, List.setIfInBounds_toArray, List.set_cons_succ, List.set_cons_zero] at hact
  subst hact
  go_wp2
  go_loopw [8, 7] (fun iv bv wr => ∃ k : Nat, k ≤ n ∧ iv = .int .i64 ((k : Int) - 1) ∧ Hid (OwnD wr G bv (ds.drop k).reverse) ∧ Hid (Below q w wr) ∧ Hid (G ≤ wr.heap.size)) (fun iv _ _ => (intOf iv + 1).toNat)
  case atStart => exact ⟨n, Nat.le_refl _, rfl, by rw [Hid, List.drop_of_length_le (by rw [hn.out]; exact Nat.le_refl _)]; exact O2.out, BE2, G2⟩
  case round =>
    obtain ⟨k, hk, rfl, OB, BR, GR⟩ := hrel
    clear O2 BE2 G2
    have UR : Hid (DigsIn wr (.slice ua n uc) ds) := HU.out.below BR.out (Nat.le_of_eq hq.out)
    obtain ⟨ba, bc, rfl⟩ := OB.out.slice
    have LB : Hid ((ds.drop k).reverse.length = n - k) := by rw [Hid, List.length_reverse, List.length_drop, hn.out]
    rw [LB.out] at OB ⊢
    by_cases hge : (k : Int) - 1 ≥ 0
    · skip
      go_upto_region 7 with (fail)
      refine lin_begin (opsOf Tryd.f4 7) (by kernel_rfl) ?_
      refine lnow 0 (.int .i64 ((k : Int) - 1)) (some 20) ?_
      refine lnow 1 (.bool (decide (((k : Int) - 1) ≥ 0))) (some 21) ?_
      rw [decide_eq_true (hge)]
      refine lin_done 2 (by kernel_rfl) ?_
      generalize hact : Act.put _ (some 21) _ = act
      simp only [Act.put, List.setIfInBounds_toArray, List.set_cons_succ, List.set_cons_zero] at hact
      subst hact
      obtain ⟨k, rfl⟩ : ∃ k', k = k' + 1 := ⟨k - 1, by omega⟩
      rw [show ((k + 1 : Nat) : Int) - 1 = (k : Int) by omega]
      obtain ⟨x, hx⟩ : ∃ x, Hid (ds[k]? = some x) := ⟨_, List.getElem?_eq_getElem (by rw [hn.out]; omega)⟩
      have OX : Hid (x.length = 32) := (HOK.out x (List.mem_of_getElem? hx.out)).1
      obtain ⟨p1, o1, rfl, -, hr1⟩ := UR.out.el HOK.out.a hx.out
      have R1 := Lib.hid hr1
      clear hr1
      go_upto_region 9 with (fail)
      refine lin_begin (opsOf Tryd.f4 9) (by kernel_rfl) ?_
      refine lnow 0 (.slice ba (n - (k + 1)) bc) (some 24) ?_
      refine lnow 1 (.slice (some ⟨p1, o1, none⟩) n uc) (some 25) ?_
      refine lnow 2 (.int .i64 (k : Int)) (some 26) ?_
      refine lnowP 3 (.pointer (some ⟨p1, o1 + 32 * k, none⟩)) (some 27) (exec_indexAt 22 (.tmp 25) (.tmp 26) (by kernel_rfl) _ _ _ (by kernel_rfl) (by kernel_rfl) (run_at_digest p1 o1 n uc k (by omega) _)) ?_
      refine lnowP 4 (.agg (ints .u8 x).toArray) (some 28) (exec_load_mid 24 (.tmp 27) (by kernel_rfl) (p1) (o1 + 32 * k) (by kernel_rfl) (ints .u8 x) _ R1.out Tryd.underlying24 rfl (sizeD OX.out)) ?_
      obtain ⟨B4, hB4⟩ : ∃ y, Hid (wr.heap.size = y) := ⟨_, rfl⟩
      refine lin_newrowD 5 24 (ints .u8 x) B4 1 (some 29) (by kernel_rfl) (by kernel_rfl) hB4 (exec_of (Instr.buildSlice 22 1 #[(0, .agg (ints .u8 x).toArray)]) _ (by kernel_rfl) (run_build_digO x OX.out _)) ?_
      intro w4 hb4 hbe4 hs4
      have O4 : Hid (OwnD w4 G _ ((ds.drop (k + 1)).reverse)) := (OB.out.below (by rw [hB4.out]; exact hbe4) : OwnD w4 G _ ((ds.drop (k + 1)).reverse))
      refine lin_appendd 6 (some 30) (by kernel_rfl) (by kernel_rfl) (by kernel_rfl) (.tmp 24) (.tmp 29) (by kernel_rfl) G _ ((ds.drop (k + 1)).reverse) (by kernel_rfl) O4.out _ [x] (by kernel_rfl) (digs_one hb4) (fun z hz => by rw [List.mem_singleton.1 hz]; exact OX.out) trivial (by rw [LB.out]; show _ + 1 ≤ _; omega) (Nat.le_trans GR.out (by have := hs4.out; have := hB4.out; omega)) ?_
      intro v5 w5 h5 g5
      refine lnow 7 (v5) (some 7) ?_
      refine lin_done 8 (by kernel_rfl) ?_
      generalize hact : Act.put _ (some 7) _ = act
      simp only [Act.put, List.setIfInBounds_toArray, List.set_cons_succ, List.set_cons_zero] at hact
      subst hact
      have s4 : Hid (wr.heap.size ≤ w4.heap.size) := by rw [Hid]; have := hs4.out; have := hB4.out; omega
      have hG5 : ∀ g, Value.ownBlock (.slice ba (n - (k + 1)) bc) = some g → q ≤ g := fun g hg => by
        have qg := QG.out
        rcases O4.out.2 with ⟨e1, -⟩ | ⟨g2, cap2, cur2, e1, hb2, -⟩
        · rw [e1] at hg; cases hg
        · rw [e1] at hg; simp [Value.ownBlock] at hg; omega
      have G5 : Hid (G ≤ w5.heap.size) := Nat.le_trans GR.out (Nat.le_trans s4.out g5.size)
      have BR2 : Hid (Below q w w5) := (BR.out.trans (hbe4.mono (by rw [← hB4.out]; exact Nat.le_trans QG.out GR.out))).grown g5 (Nat.le_trans QG.out (Nat.le_trans GR.out s4.out)) hG5
      have OB2 : Hid (OwnD w5 G v5 ((ds.drop k).reverse)) := by rw [Hid, drop_rev hx.out]; exact h5
      clear h5 g5 hG5 s4 O4 hb4 hbe4 hs4 hB4 OB BR GR UR R1
      generalize ints .u8 x = vx
      clear OX hx LB
      go_wp2
      go_roundw
      case rel => exact ⟨k, by omega, by go_num, OB2, BR2, G5⟩
      case measure => simp [intOf]
    go_upto_region 7 with (fail)
    refine lin_begin (opsOf Tryd.f4 7) (by kernel_rfl) ?_
    refine lnow 0 (.int .i64 ((k : Int) - 1)) (some 20) ?_
    refine lnow 1 (.bool (decide (((k : Int) - 1) ≥ 0))) (some 21) ?_
    rw [decide_eq_false (hge)]
    refine lin_done 2 (by kernel_rfl) ?_
    generalize hact : Act.put _ (some 21) _ = act
    simp only [Act.put, List.setIfInBounds_toArray, List.set_cons_succ, List.set_cons_zero] at hact
    subst hact
    obtain rfl : k = 0 := by omega
    rw [Nat.sub_zero] at LB OB ⊢
    rw [List.drop_zero] at OB LB
    by_cases h0 : (n : Int) > 0
    · skip
      go_upto_region 10 with (fail)
      refine lin_begin (opsOf Tryd.f4 10) (by kernel_rfl) ?_
      refine lnow 0 (.slice ua n uc) (some 31) ?_
      refine lnow 1 (.int .i64 (n : Int)) (some 32) ?_
      refine lnow 2 (.bool (decide ((n : Int) > 0))) (some 33) ?_
      rw [decide_eq_true (h0)]
      refine lin_done 3 (by kernel_rfl) ?_
      generalize hact : Act.put _ (some 33) _ = act
      simp only [Act.put, List.setIfInBounds_toArray, List.set_cons_succ, List.set_cons_zero] at hact
      subst hact
      obtain ⟨A, hA, -⟩ := and1023 at'
      have HA := Lib.hid hA
      clear hA
      obtain ⟨i, hi⟩ : ∃ i, Hid (A % n = i) := ⟨_, rfl⟩
      have hin : i < n := by rw [← hi.out]; exact Nat.mod_lt _ (by omega)
      have HT : Hid ((A : Int).tmod (n : Int) = (i : Int)) := by rw [Hid, ← hi.out]; rfl
      obtain ⟨x, hx⟩ : ∃ x, Hid (ds[i]? = some x) := ⟨_, List.getElem?_eq_getElem (by rw [hn.out]; exact hin)⟩
      have OX : Hid (x.length = 32) := (HOK.out x (List.mem_of_getElem? hx.out)).1
      obtain ⟨p1, o1, hua, -, hr1⟩ := UR.out.el HOK.out.a hx.out
      have R1 := Lib.hid hr1
      clear hr1
      have HRA : Hid (∀ W, (Instr.indexAt 22 (.slice ua n uc) (.int .i64 (i : Int))).run Tryd.prog W = .ok (.pointer (some ⟨p1, o1 + 32 * i, none⟩)) W) := fun W => by rw [hua]; exact run_at_digest p1 o1 n uc i hin W
      go_upto_region 11 with (fail)
      refine lin_begin (opsOf Tryd.f4 11) (by kernel_rfl) ?_
      refine lnow 0 (.slice ba n bc) (some 34) ?_
      refine lnow 1 (.slice ua n uc) (some 35) ?_
      refine lnow 2 (.int .i64 (at')) (some 36) ?_
      refine lnow 3 (.int .i64 (bits BinOp.and IntKind.i64 at' 1023)) (some 37) ?_
      rw [HA.out]
      refine lnow 4 (.slice ua n uc) (some 38) ?_
      refine lnow 5 (.int .i64 (n : Int)) (some 39) ?_
      refine lnowP 6 (.int .i64 ((A : Int).tmod (n : Int))) (some 40) (exec_remD 3 3 (.tmp 37) (.tmp 39) (by kernel_rfl) _ _ (by kernel_rfl) (by kernel_rfl) (by omega)) ?_
      rw [HT.out]
      refine lnowP 7 (.pointer (some ⟨p1, o1 + 32 * i, none⟩)) (some 41) (exec_indexAt 22 (.tmp 35) (.tmp 40) (by kernel_rfl) _ _ _ (by kernel_rfl) (by kernel_rfl) (HRA.out _)) ?_
      refine lnowP 8 (.agg (ints .u8 x).toArray) (some 42) (exec_load_mid 24 (.tmp 41) (by kernel_rfl) (p1) (o1 + 32 * i) (by kernel_rfl) (ints .u8 x) _ R1.out Tryd.underlying24 rfl (sizeD OX.out)) ?_
      obtain ⟨B4, hB4⟩ : ∃ y, Hid (wr.heap.size = y) := ⟨_, rfl⟩
      refine lin_newrowD 9 24 (ints .u8 x) B4 1 (some 43) (by kernel_rfl) (by kernel_rfl) hB4 (exec_of (Instr.buildSlice 22 1 #[(0, .agg (ints .u8 x).toArray)]) _ (by kernel_rfl) (run_build_digO x OX.out _)) ?_
      intro w4 hb4 hbe4 hs4
      have O4 : Hid (OwnD w4 G _ (ds.reverse)) := (OB.out.below (by rw [hB4.out]; exact hbe4) : OwnD w4 G _ (ds.reverse))
      refine lin_appendd 10 (some 44) (by kernel_rfl) (by kernel_rfl) (by kernel_rfl) (.tmp 34) (.tmp 43) (by kernel_rfl) G _ (ds.reverse) (by kernel_rfl) O4.out _ [x] (by kernel_rfl) (digs_one hb4) (fun z hz => by rw [List.mem_singleton.1 hz]; exact OX.out) trivial (by rw [LB.out]; show _ + 1 ≤ _; omega) (Nat.le_trans GR.out (by have := hs4.out; have := hB4.out; omega)) ?_
      intro v5 w5 h5 g5
      refine lnow 11 (v5) (some 7) ?_
      refine lin_done 12 (by kernel_rfl) ?_
      generalize hact : Act.put _ (some 7) _ = act
      simp only [Act.put, List.setIfInBounds_toArray, List.set_cons_succ, List.set_cons_zero] at hact
      subst hact
      have s4 : Hid (wr.heap.size ≤ w4.heap.size) := by rw [Hid]; have := hs4.out; have := hB4.out; omega
      have hG5 : ∀ g, Value.ownBlock (.slice ba (n) bc) = some g → q ≤ g := fun g hg => by
        have qg := QG.out
        rcases O4.out.2 with ⟨e1, -⟩ | ⟨g2, cap2, cur2, e1, hb2, -⟩
        · rw [e1] at hg; cases hg
        · rw [e1] at hg; simp [Value.ownBlock] at hg; omega
      have G5 : Hid (G ≤ w5.heap.size) := Nat.le_trans GR.out (Nat.le_trans s4.out g5.size)
      have BR2 : Hid (Below q w w5) := (BR.out.trans (hbe4.mono (by rw [← hB4.out]; exact Nat.le_trans QG.out GR.out))).grown g5 (Nat.le_trans QG.out (Nat.le_trans GR.out s4.out)) hG5
      have OB2 : Hid (OwnD w5 G v5 (ds.reverse ++ [x])) := by rw [Hid]; exact h5
      clear h5 g5 hG5 s4 O4 hb4 hbe4 hs4 hB4 OB BR GR UR R1
      obtain ⟨bk, hbk⟩ : ∃ bk, Hid (ds.reverse ++ [x] = bk) := ⟨_, rfl⟩
      have HM : Hid (∀ z, z ∈ bk ↔ z ∈ ds) := fun z => by rw [← hbk.out, List.mem_append, List.mem_reverse]; exact ⟨fun h => h.elim id fun h1 => by rw [List.mem_singleton.1 h1]; exact List.mem_of_getElem? hx.out, .inl⟩
      have LK : Hid (bk.length ≤ 21) := by rw [Hid, ← hbk.out, List.length_append, List.length_reverse, hn.out]; show n + 1 ≤ 21; omega
      rw [hbk.out] at OB2
      clear hbk hua LB HT hi
      generalize ints .u8 x = vx
      clear OX hx x
      have N5 := Lib.hid OB2.out.nilok
      have U5 := Lib.hid OB2.out.in
      have K5 : Hid (okD bk) := fun z hz => HOK.out z ((HM.out z).1 hz)
      have SE : Hid (sortS bk = sortS ds) := sortS_set HM.out
      have Q5 : Hid (q ≤ w5.heap.size) := Nat.le_trans QG.out G5.out
      go_upto_region 12 with (fail)
      refine lin_begin (opsOf Tryd.f4 12) (by kernel_rfl) ?_
      refine lnow 0 (.slice ua n uc) (some 45) ?_
      refine lin_call 1 14 #[.slice ua n uc] (some 46) _ (by kernel_rfl) (by kernel_rfl) (by kernel_rfl) (tsort_all _ ds _ (HU.out.below BR2.out (Nat.le_of_eq hq.out)) HNL.out (by rw [hn.out]; omega) HOK.out) ?_
      rintro e0 w6 ⟨v6, rfl, u6, n6, hb6⟩
      refine ⟨_, rfl, ?_⟩
      have U6 := Lib.hid u6
      have N6 := Lib.hid n6
      have BE6 : Hid (Below q w w6) := BR2.out.trans (hb6.mono Q5.out)
      have BK6 : Hid (DigsIn w6 v5 bk) := U5.out.below hb6 (Nat.le_refl _)
      have Q6 : Hid (q ≤ w6.heap.size) := Nat.le_trans Q5.out hb6.size
      have SR : Hid (Rising (sortS ds)) := sortS_rising ds
      have SO : Hid (okD (sortS ds)) := fun z hz => HOK.out z ((sortS_mem z ds).1 hz)
      have SL : Hid ((sortS ds).length ≤ n) := by have h := sortS_len ds; rw [hn.out] at h; exact h
      have NT : Hid (nodeL kind (sortS bk) = nodeL kind (sortS ds)) := by rw [Hid, SE.out]
      obtain ⟨nd, hnd⟩ : ∃ y, Hid (nodeL kind (sortS ds) = y) := ⟨_, rfl⟩
      have LN : Hid (nd.length = 32) := by rw [Hid, ← hnd.out]; exact nodeL_length _ _
      rw [hnd.out] at NT
      have ND : Hid (∀ W, Below q w W → Calls Tryd.prog 16 #[.int .u8 kind, .slice ua n uc] W fun e w' => e = .returned (.agg (ints .u8 nd).toArray) ∧ Below W.heap.size W w') := fun W hW => by
        have h := tset_all kind (.slice ua n uc) ds W (HU.out.below hW (Nat.le_of_eq hq.out)) HNL.out (by rw [hn.out]; omega) HOK.out (HK.out.below hW (by rw [← hq.out]; exact HK.out.lt))
        rw [hnd.out] at h
        exact h
      have NB : Hid (∀ W, Below q w W → DigsIn W v5 bk → Calls Tryd.prog 16 #[.int .u8 kind, v5] W fun e w' => e = .returned (.agg (ints .u8 nd).toArray) ∧ Below W.heap.size W w') := fun W hW hD => by
        have h := tset_all kind v5 bk W hD N5.out (by have := LK.out; omega) K5.out (HK.out.below hW (by rw [← hq.out]; exact HK.out.lt))
        rw [NT.out] at h
        exact h
      have SB : Hid (∀ W, DigsIn W v5 bk → Calls Tryd.prog 14 #[v5] W fun e w' => ∃ v, e = .returned v ∧ DigsIn w' v (sortS ds) ∧ NilOk v ∧ Below W.heap.size W w') := fun W hD => by
        have h := tsort_all v5 bk W hD N5.out (by have := LK.out; omega) K5.out
        rw [SE.out] at h
        exact h
      clear u6 n6 hb6 BR2 U5 Q5 OB2 hnd NT SE HM LK K5
      generalize sortS ds = sl at *
      obtain ⟨m, hm⟩ : ∃ m, Hid (sl.length = m) := ⟨_, rfl⟩
      rw [hm.out] at SL
      obtain ⟨sa, sc, hv6, -⟩ := id U6.out
      subst hv6
      rw [hm.out] at U6 N6 ⊢
      refine lnow 2 (.slice sa m sc) (some 9) ?_
      refine lin_done 3 (by kernel_rfl) ?_
      generalize hact : Act.put _ (some 9) _ = act
      simp only [Act.put, List.setIfInBounds_toArray, List.set_cons_succ, List.set_cons_zero] at hact
      subst hact
      go_upto_region 13 with (fail)
      refine lin_begin (opsOf Tryd.f4 13) (by kernel_rfl) ?_
      refine lnow 0 (.int .i64 1) (some 10) ?_
      refine lin_done 1 (by kernel_rfl) ?_
      generalize hact : Act.put _ (some 10) _ = act
      simp only [Act.put, List.setIfInBounds_toArray, List.set_cons_succ, List.set_cons_zero] at hact
      subst hact
      go_wp2
      go_loopw [10] (fun kv wr => ∃ k : Nat, 1 ≤ k ∧ k ≤ n + 1 ∧ kv = .int .i64 (k : Int) ∧ Hid (Below w6.heap.size w6 wr)) (fun kv _ => n + 1 - (intOf kv).toNat)
      case atStart => exact ⟨1, Nat.le_refl _, by omega, rfl, Below.refl _ _⟩
      case round =>
        obtain ⟨k, hk1, hkn, rfl, B6⟩ := hrel
        have sl' := SL.out
        by_cases hlt : (k : Int) < (m : Int)
        · skip
          go_upto_region 14 with (fail)
          refine lin_begin (opsOf Tryd.f4 14) (by kernel_rfl) ?_
          refine lnow 0 (.int .i64 (k : Int)) (some 47) ?_
          refine lnow 1 (.slice sa m sc) (some 48) ?_
          refine lnow 2 (.int .i64 (m : Int)) (some 49) ?_
          refine lnow 3 (.bool (decide ((k : Int) < (m : Int)))) (some 50) ?_
          rw [decide_eq_true (hlt)]
          refine lin_done 4 (by kernel_rfl) ?_
          generalize hact : Act.put _ (some 50) _ = act
          simp only [Act.put, List.setIfInBounds_toArray, List.set_cons_succ, List.set_cons_zero] at hact
          subst hact
          obtain ⟨x, hx⟩ : ∃ x, Hid (sl[k]? = some x) := ⟨_, List.getElem?_eq_getElem (by rw [hm.out]; omega)⟩
          obtain ⟨y, hy⟩ : ∃ y, Hid (sl[k - 1]? = some y) := ⟨_, List.getElem?_eq_getElem (by rw [hm.out]; omega)⟩
          have OX : Hid (x.length = 32 ∧ isBytes x) := SO.out x (List.mem_of_getElem? hx.out)
          have OY : Hid (y.length = 32 ∧ isBytes y) := SO.out y (List.mem_of_getElem? hy.out)
          have CM : Hid (cmpD y x = -1) := rising_at SR.out hy.out (by rw [show k - 1 + 1 = k by omega]; exact hx.out)
          obtain ⟨p1, o1, rfl, hp1, hr1⟩ := U6.out.el SO.out.a hx.out
          obtain ⟨p2, o2, hpe, -, hr2⟩ := U6.out.el SO.out.a hy.out
          obtain ⟨rfl, rfl⟩ : p1 = p2 ∧ o1 = o2 := by have h := Addr.mk.inj (Option.some.inj hpe); exact ⟨h.1, h.2.1⟩
          have RX : Hid (∀ W, Below wr.heap.size wr W → W.rangeAt p1 (o1 + 32 * k) (ints .u8 x)) := fun W hW j v hv => by rw [(B6.out.trans (hW.mono B6.out.size)).cell (p := ⟨p1, o1 + 32 * k + j, none⟩) hp1]; exact hr1 j v hv
          have RY : Hid (∀ W, Below wr.heap.size wr W → W.rangeAt p1 (o1 + 32 * (k - 1)) (ints .u8 y)) := fun W hW j v hv => by rw [(B6.out.trans (hW.mono B6.out.size)).cell (p := ⟨p1, o1 + 32 * (k - 1) + j, none⟩) hp1]; exact hr2 j v hv
          clear hr1 hr2 hpe
          go_upto_region 16 with (fail)
          refine region_begin (opsOf Tryd.f4 16) (fun w' => Below wr.heap.size wr w') (by kernel_rfl) (by kernel_rfl) 11 (by kernel_rfl) ?_
          intro Q' hQN hN
          have HS : Below wr.heap.size wr (World.drew wr) := (Below.refl _ _).drew
          refine reg_now 0 (.slice (some ⟨p1, o1, none⟩) m sc) (some 53) hQN HS (by kernel_rfl) (by kernel_rfl) (fun w => by kernel_rfl) ?_
          refine reg_now 1 (.int .i64 (k : Int)) (some 54) hQN HS (by kernel_rfl) (by kernel_rfl) (fun w => by kernel_rfl) ?_
          refine reg_now 2 (.int .i64 (IntKind.i64.wrap ((k : Int) - 1))) (some 55) hQN HS (by kernel_rfl) (by kernel_rfl) (fun w => by kernel_rfl) ?_
          rw [show IntKind.i64.wrap ((k : Int) - 1) = ((k - 1 : Nat) : Int) from (IntWalk.i64_in _ (by omega)).trans (by omega)]
          refine reg_now 3 (.pointer (some ⟨p1, o1 + 32 * (k - 1 : Nat), none⟩)) (some 56) hQN HS (by kernel_rfl) (by kernel_rfl) (fun w' => exec_indexAt 22 (.tmp 53) (.tmp 55) (by kernel_rfl) _ _ _ (by kernel_rfl) (by kernel_rfl) (run_at_digest p1 o1 m sc (k - 1 : Nat) (by omega) _)) ?_
          refine reg_nowIf 4 (.agg (ints .u8 y).toArray) (some 57) hQN HS (by kernel_rfl) (by kernel_rfl) (fun w' hw => exec_load_mid 24 (.tmp 56) (by kernel_rfl) (p1) (o1 + 32 * (k - 1 : Nat)) (by kernel_rfl) (ints .u8 y) _ (RY.out w' hw) Tryd.underlying24 rfl (sizeD OY.out.1)) ?_
          refine reg_now 5 (.slice (some ⟨p1, o1, none⟩) m sc) (some 58) hQN HS (by kernel_rfl) (by kernel_rfl) (fun w => by kernel_rfl) ?_
          refine reg_now 6 (.int .i64 (k : Int)) (some 59) hQN HS (by kernel_rfl) (by kernel_rfl) (fun w => by kernel_rfl) ?_
          refine reg_now 7 (.pointer (some ⟨p1, o1 + 32 * k, none⟩)) (some 60) hQN HS (by kernel_rfl) (by kernel_rfl) (fun w' => exec_indexAt 22 (.tmp 58) (.tmp 59) (by kernel_rfl) _ _ _ (by kernel_rfl) (by kernel_rfl) (run_at_digest p1 o1 m sc k (by omega) _)) ?_
          refine reg_nowIf 8 (.agg (ints .u8 x).toArray) (some 61) hQN HS (by kernel_rfl) (by kernel_rfl) (fun w' hw => exec_load_mid 24 (.tmp 60) (by kernel_rfl) (p1) (o1 + 32 * k) (by kernel_rfl) (ints .u8 x) _ (RX.out w' hw) Tryd.underlying24 rfl (sizeD OX.out.1)) ?_
          refine reg_call 9 11 #[.agg (ints .u8 y).toArray, .agg (ints .u8 x).toArray] (some 62) _ (by kernel_rfl) (by kernel_rfl) (by kernel_rfl) (tcompare_walk y x OY.out.1 OX.out.1 OY.out.2 OX.out.2 _) ?_
          rintro e0 w7 ⟨rfl, hb7⟩
          have HS7 : Below wr.heap.size wr w7 := HS.trans (hb7.mono HS.size)
          refine ⟨_, rfl, HS7, ?_⟩
          rw [CM.out]
          refine reg_now 10 (.bool false) (some 63) hQN HS7 (by kernel_rfl) (by kernel_rfl) (fun w => by kernel_rfl) ?_
          refine reg_done (by kernel_rfl) (hN _ _ ?_)
          generalize hact : Act.put _ (some 63) _ = act
          simp only [Act.put, List.setIfInBounds_toArray, List.set_cons_succ, List.set_cons_zero] at hact
          subst hact
          have B7 : Hid (Below w6.heap.size w6 w7) := B6.out.trans (HS7.mono B6.out.size)
          clear HS HS7 hb7 hQN hN B6 RX RY CM OX OY hx hy
          generalize ints .u8 x = vx
          generalize ints .u8 y = vy
          go_wp2
          go_roundw
          case rel => exact ⟨k + 1, by omega, by omega, by go_num, B7⟩
          case measure => simp [intOf]; omega
        go_upto_region 14 with (fail)
        refine lin_begin (opsOf Tryd.f4 14) (by kernel_rfl) ?_
        refine lnow 0 (.int .i64 (k : Int)) (some 47) ?_
        refine lnow 1 (.slice sa m sc) (some 48) ?_
        refine lnow 2 (.int .i64 (m : Int)) (some 49) ?_
        refine lnow 3 (.bool (decide ((k : Int) < (m : Int)))) (some 50) ?_
        rw [decide_eq_false (hlt)]
        refine lin_done 4 (by kernel_rfl) ?_
        generalize hact : Act.put _ (some 50) _ = act
        simp only [Act.put, List.setIfInBounds_toArray, List.set_cons_succ, List.set_cons_zero] at hact
        subst hact
        have BE7 : Hid (Below q w wr) := BE6.out.trans (B6.out.mono Q6.out)
        have U7 := Lib.hid (U6.out.below B6.out (Nat.le_refl _))
        have BK7 := Lib.hid (BK6.out.below B6.out (Nat.le_refl _))
        have Q7 : Hid (q ≤ wr.heap.size) := Nat.le_trans Q6.out B6.out.size
        clear BE6 U6 BK6 Q6 B6
        go_upto_region 18 with (fail)
        refine lin_begin (opsOf Tryd.f4 18) (by kernel_rfl) ?_
        refine lnow 0 (.int .u8 kind) (some 64) ?_
        refine lnow 1 (.slice ua n uc) (some 65) ?_
        refine lin_call 2 16 #[.int .u8 kind, .slice ua n uc] (some 66) _ (by kernel_rfl) (by kernel_rfl) (by kernel_rfl) (ND.out _ BE7.out) ?_
        rintro e0 w8 ⟨rfl, hb8⟩
        refine ⟨_, rfl, ?_⟩
        have BE8 : Hid (Below q w w8) := BE7.out.trans (hb8.mono Q7.out)
        have U8 := Lib.hid (U7.out.below hb8 (Nat.le_refl _))
        have BK8 := Lib.hid (BK7.out.below hb8 (Nat.le_refl _))
        have Q8 : Hid (q ≤ w8.heap.size) := Nat.le_trans Q7.out hb8.size
        clear BE7 U7 BK7 Q7 hb8
        refine lnow 3 (.int .u8 kind) (some 67) ?_
        refine lnow 4 (v5) (some 68) ?_
        refine lin_call 5 16 #[.int .u8 kind, v5] (some 69) _ (by kernel_rfl) (by kernel_rfl) (by kernel_rfl) (NB.out _ BE8.out BK8.out) ?_
        rintro e0 w9 ⟨rfl, hb9⟩
        refine ⟨_, rfl, ?_⟩
        have BE9 : Hid (Below q w w9) := BE8.out.trans (hb9.mono Q8.out)
        have U9 := Lib.hid (U8.out.below hb9 (Nat.le_refl _))
        have BK9 := Lib.hid (BK8.out.below hb9 (Nat.le_refl _))
        have Q9 : Hid (q ≤ w9.heap.size) := Nat.le_trans Q8.out hb9.size
        clear BE8 U8 BK8 Q8 hb9
        refine lnowP 6 (.bool (decide (nd = nd))) (some 70) (exec_eql _ (.tmp 66) (.tmp 69) 24 (by kernel_rfl) Tryd.underlying24 Tryd.underlying5 sizeByte guardDigest nd nd LN.out LN.out (by kernel_rfl) (by kernel_rfl)) ?_
        rw [show (decide (nd = nd)) = true by rw [decide_eq_true (rfl : nd = nd)]]
        refine lnow 7 (.bool true) (some 71) ?_
        refine lnow 8 (v5) (some 72) ?_
        refine lin_call 9 14 #[v5] (some 73) _ (by kernel_rfl) (by kernel_rfl) (by kernel_rfl) (SB.out _ BK9.out) ?_
        rintro e0 w10 ⟨v10, rfl, u10, -, hb10⟩
        refine ⟨_, rfl, ?_⟩
        have BE10 : Hid (Below q w w10) := BE9.out.trans (hb10.mono Q9.out)
        have U10 := Lib.hid (U9.out.below hb10 (Nat.le_refl _))
        have V10 := Lib.hid u10
        have Q10 : Hid (q ≤ w10.heap.size) := Nat.le_trans Q9.out hb10.size
        obtain ⟨xa, xc, hv10, -⟩ := id V10.out
        subst hv10
        rw [hm.out] at V10 ⊢
        clear BE9 U9 BK9 Q9 hb10 u10
        refine lnow 10 (.slice sa m sc) (some 74) ?_
        refine lin_call 11 13 #[.slice xa m xc, .slice sa m sc] (some 75) _ (by kernel_rfl) (by kernel_rfl) (by kernel_rfl) (sameall_walk xa sa m xc sc sl _ V10.out U10.out hm.out (by omega) SO.out) ?_
        rintro e0 w11 ⟨rfl, hb11⟩
        refine ⟨_, rfl, ?_⟩
        have BE11 : Hid (Below q w w11) := BE10.out.trans (hb11.mono Q10.out)
        clear hb11 BE10
        refine lnow 12 (.bool true) (some 76) ?_
        refine lnow 13 (.bool true) (some 6) ?_
        refine lin_done 14 (by kernel_rfl) ?_
        generalize hact : Act.put _ (some 6) _ = act
        simp only [Act.put, List.setIfInBounds_toArray, List.set_cons_succ, List.set_cons_zero] at hact
        subst hact
        go_wp2
        go_ret
        exact ⟨rfl, BE11.out⟩
    go_upto_region 10 with (fail)
    refine lin_begin (opsOf Tryd.f4 10) (by kernel_rfl) ?_
    refine lnow 0 (.slice ua n uc) (some 31) ?_
    refine lnow 1 (.int .i64 (n : Int)) (some 32) ?_
    refine lnow 2 (.bool (decide ((n : Int) > 0))) (some 33) ?_
    rw [decide_eq_false (h0)]
    refine lin_done 3 (by kernel_rfl) ?_
    generalize hact : Act.put _ (some 33) _ = act
    simp only [Act.put, List.setIfInBounds_toArray, List.set_cons_succ, List.set_cons_zero] at hact
    subst hact
    obtain ⟨v5, hv5⟩ : ∃ v, v = Value.slice ba n bc := ⟨_, rfl⟩
    rw [← hv5] at OB ⊢
    obtain ⟨w5, hw5⟩ : ∃ v, v = wr := ⟨_, rfl⟩
    rw [← hw5] at OB BR GR ⊢
    have OB2 := OB
    have BR2 := BR
    have G5 := GR
    obtain ⟨bk, hbk⟩ : ∃ bk, Hid (ds.reverse = bk) := ⟨_, rfl⟩
    have HM : Hid (∀ z, z ∈ bk ↔ z ∈ ds) := fun z => by rw [← hbk.out, List.mem_reverse]
    have LK : Hid (bk.length ≤ 21) := by rw [Hid, ← hbk.out, List.length_reverse, hn.out]; omega
    rw [hbk.out] at OB2
    clear hbk hv5 hw5 LB OB BR GR UR
    have N5 := Lib.hid OB2.out.nilok
    have U5 := Lib.hid OB2.out.in
    have K5 : Hid (okD bk) := fun z hz => HOK.out z ((HM.out z).1 hz)
    have SE : Hid (sortS bk = sortS ds) := sortS_set HM.out
    have Q5 : Hid (q ≤ w5.heap.size) := Nat.le_trans QG.out G5.out
    go_upto_region 12 with (fail)
    refine lin_begin (opsOf Tryd.f4 12) (by kernel_rfl) ?_
    refine lnow 0 (.slice ua n uc) (some 45) ?_
    refine lin_call 1 14 #[.slice ua n uc] (some 46) _ (by kernel_rfl) (by kernel_rfl) (by kernel_rfl) (tsort_all _ ds _ (HU.out.below BR2.out (Nat.le_of_eq hq.out)) HNL.out (by rw [hn.out]; omega) HOK.out) ?_
    rintro e0 w6 ⟨v6, rfl, u6, n6, hb6⟩
    refine ⟨_, rfl, ?_⟩
    have U6 := Lib.hid u6
    have N6 := Lib.hid n6
    have BE6 : Hid (Below q w w6) := BR2.out.trans (hb6.mono Q5.out)
    have BK6 : Hid (DigsIn w6 v5 bk) := U5.out.below hb6 (Nat.le_refl _)
    have Q6 : Hid (q ≤ w6.heap.size) := Nat.le_trans Q5.out hb6.size
    have SR : Hid (Rising (sortS ds)) := sortS_rising ds
    have SO : Hid (okD (sortS ds)) := fun z hz => HOK.out z ((sortS_mem z ds).1 hz)
    have SL : Hid ((sortS ds).length ≤ n) := by have h := sortS_len ds; rw [hn.out] at h; exact h
    have NT : Hid (nodeL kind (sortS bk) = nodeL kind (sortS ds)) := by rw [Hid, SE.out]
    obtain ⟨nd, hnd⟩ : ∃ y, Hid (nodeL kind (sortS ds) = y) := ⟨_, rfl⟩
    have LN : Hid (nd.length = 32) := by rw [Hid, ← hnd.out]; exact nodeL_length _ _
    rw [hnd.out] at NT
    have ND : Hid (∀ W, Below q w W → Calls Tryd.prog 16 #[.int .u8 kind, .slice ua n uc] W fun e w' => e = .returned (.agg (ints .u8 nd).toArray) ∧ Below W.heap.size W w') := fun W hW => by
      have h := tset_all kind (.slice ua n uc) ds W (HU.out.below hW (Nat.le_of_eq hq.out)) HNL.out (by rw [hn.out]; omega) HOK.out (HK.out.below hW (by rw [← hq.out]; exact HK.out.lt))
      rw [hnd.out] at h
      exact h
    have NB : Hid (∀ W, Below q w W → DigsIn W v5 bk → Calls Tryd.prog 16 #[.int .u8 kind, v5] W fun e w' => e = .returned (.agg (ints .u8 nd).toArray) ∧ Below W.heap.size W w') := fun W hW hD => by
      have h := tset_all kind v5 bk W hD N5.out (by have := LK.out; omega) K5.out (HK.out.below hW (by rw [← hq.out]; exact HK.out.lt))
      rw [NT.out] at h
      exact h
    have SB : Hid (∀ W, DigsIn W v5 bk → Calls Tryd.prog 14 #[v5] W fun e w' => ∃ v, e = .returned v ∧ DigsIn w' v (sortS ds) ∧ NilOk v ∧ Below W.heap.size W w') := fun W hD => by
      have h := tsort_all v5 bk W hD N5.out (by have := LK.out; omega) K5.out
      rw [SE.out] at h
      exact h
    clear u6 n6 hb6 BR2 U5 Q5 OB2 hnd NT SE HM LK K5
    generalize sortS ds = sl at *
    obtain ⟨m, hm⟩ : ∃ m, Hid (sl.length = m) := ⟨_, rfl⟩
    rw [hm.out] at SL
    obtain ⟨sa, sc, hv6, -⟩ := id U6.out
    subst hv6
    rw [hm.out] at U6 N6 ⊢
    refine lnow 2 (.slice sa m sc) (some 9) ?_
    refine lin_done 3 (by kernel_rfl) ?_
    generalize hact : Act.put _ (some 9) _ = act
    simp only [Act.put, List.setIfInBounds_toArray, List.set_cons_succ, List.set_cons_zero] at hact
    subst hact
    go_upto_region 13 with (fail)
    refine lin_begin (opsOf Tryd.f4 13) (by kernel_rfl) ?_
    refine lnow 0 (.int .i64 1) (some 10) ?_
    refine lin_done 1 (by kernel_rfl) ?_
    generalize hact : Act.put _ (some 10) _ = act
    simp only [Act.put, List.setIfInBounds_toArray, List.set_cons_succ, List.set_cons_zero] at hact
    subst hact
    go_wp2
    go_loopw [10] (fun kv wr => ∃ k : Nat, 1 ≤ k ∧ k ≤ n + 1 ∧ kv = .int .i64 (k : Int) ∧ Hid (Below w6.heap.size w6 wr)) (fun kv _ => n + 1 - (intOf kv).toNat)
    case atStart => exact ⟨1, Nat.le_refl _, by omega, rfl, Below.refl _ _⟩
    case round =>
      obtain ⟨k, hk1, hkn, rfl, B6⟩ := hrel
      have sl' := SL.out
      by_cases hlt : (k : Int) < (m : Int)
      · skip
        go_upto_region 14 with (fail)
        refine lin_begin (opsOf Tryd.f4 14) (by kernel_rfl) ?_
        refine lnow 0 (.int .i64 (k : Int)) (some 47) ?_
        refine lnow 1 (.slice sa m sc) (some 48) ?_
        refine lnow 2 (.int .i64 (m : Int)) (some 49) ?_
        refine lnow 3 (.bool (decide ((k : Int) < (m : Int)))) (some 50) ?_
        rw [decide_eq_true (hlt)]
        refine lin_done 4 (by kernel_rfl) ?_
        generalize hact : Act.put _ (some 50) _ = act
        simp only [Act.put, List.setIfInBounds_toArray, List.set_cons_succ, List.set_cons_zero] at hact
        subst hact
        obtain ⟨x, hx⟩ : ∃ x, Hid (sl[k]? = some x) := ⟨_, List.getElem?_eq_getElem (by rw [hm.out]; omega)⟩
        obtain ⟨y, hy⟩ : ∃ y, Hid (sl[k - 1]? = some y) := ⟨_, List.getElem?_eq_getElem (by rw [hm.out]; omega)⟩
        have OX : Hid (x.length = 32 ∧ isBytes x) := SO.out x (List.mem_of_getElem? hx.out)
        have OY : Hid (y.length = 32 ∧ isBytes y) := SO.out y (List.mem_of_getElem? hy.out)
        have CM : Hid (cmpD y x = -1) := rising_at SR.out hy.out (by rw [show k - 1 + 1 = k by omega]; exact hx.out)
        obtain ⟨p1, o1, rfl, hp1, hr1⟩ := U6.out.el SO.out.a hx.out
        obtain ⟨p2, o2, hpe, -, hr2⟩ := U6.out.el SO.out.a hy.out
        obtain ⟨rfl, rfl⟩ : p1 = p2 ∧ o1 = o2 := by have h := Addr.mk.inj (Option.some.inj hpe); exact ⟨h.1, h.2.1⟩
        have RX : Hid (∀ W, Below wr.heap.size wr W → W.rangeAt p1 (o1 + 32 * k) (ints .u8 x)) := fun W hW j v hv => by rw [(B6.out.trans (hW.mono B6.out.size)).cell (p := ⟨p1, o1 + 32 * k + j, none⟩) hp1]; exact hr1 j v hv
        have RY : Hid (∀ W, Below wr.heap.size wr W → W.rangeAt p1 (o1 + 32 * (k - 1)) (ints .u8 y)) := fun W hW j v hv => by rw [(B6.out.trans (hW.mono B6.out.size)).cell (p := ⟨p1, o1 + 32 * (k - 1) + j, none⟩) hp1]; exact hr2 j v hv
        clear hr1 hr2 hpe
        go_upto_region 16 with (fail)
        refine region_begin (opsOf Tryd.f4 16) (fun w' => Below wr.heap.size wr w') (by kernel_rfl) (by kernel_rfl) 11 (by kernel_rfl) ?_
        intro Q' hQN hN
        have HS : Below wr.heap.size wr (World.drew wr) := (Below.refl _ _).drew
        refine reg_now 0 (.slice (some ⟨p1, o1, none⟩) m sc) (some 53) hQN HS (by kernel_rfl) (by kernel_rfl) (fun w => by kernel_rfl) ?_
        refine reg_now 1 (.int .i64 (k : Int)) (some 54) hQN HS (by kernel_rfl) (by kernel_rfl) (fun w => by kernel_rfl) ?_
        refine reg_now 2 (.int .i64 (IntKind.i64.wrap ((k : Int) - 1))) (some 55) hQN HS (by kernel_rfl) (by kernel_rfl) (fun w => by kernel_rfl) ?_
        rw [show IntKind.i64.wrap ((k : Int) - 1) = ((k - 1 : Nat) : Int) from (IntWalk.i64_in _ (by omega)).trans (by omega)]
        refine reg_now 3 (.pointer (some ⟨p1, o1 + 32 * (k - 1 : Nat), none⟩)) (some 56) hQN HS (by kernel_rfl) (by kernel_rfl) (fun w' => exec_indexAt 22 (.tmp 53) (.tmp 55) (by kernel_rfl) _ _ _ (by kernel_rfl) (by kernel_rfl) (run_at_digest p1 o1 m sc (k - 1 : Nat) (by omega) _)) ?_
        refine reg_nowIf 4 (.agg (ints .u8 y).toArray) (some 57) hQN HS (by kernel_rfl) (by kernel_rfl) (fun w' hw => exec_load_mid 24 (.tmp 56) (by kernel_rfl) (p1) (o1 + 32 * (k - 1 : Nat)) (by kernel_rfl) (ints .u8 y) _ (RY.out w' hw) Tryd.underlying24 rfl (sizeD OY.out.1)) ?_
        refine reg_now 5 (.slice (some ⟨p1, o1, none⟩) m sc) (some 58) hQN HS (by kernel_rfl) (by kernel_rfl) (fun w => by kernel_rfl) ?_
        refine reg_now 6 (.int .i64 (k : Int)) (some 59) hQN HS (by kernel_rfl) (by kernel_rfl) (fun w => by kernel_rfl) ?_
        refine reg_now 7 (.pointer (some ⟨p1, o1 + 32 * k, none⟩)) (some 60) hQN HS (by kernel_rfl) (by kernel_rfl) (fun w' => exec_indexAt 22 (.tmp 58) (.tmp 59) (by kernel_rfl) _ _ _ (by kernel_rfl) (by kernel_rfl) (run_at_digest p1 o1 m sc k (by omega) _)) ?_
        refine reg_nowIf 8 (.agg (ints .u8 x).toArray) (some 61) hQN HS (by kernel_rfl) (by kernel_rfl) (fun w' hw => exec_load_mid 24 (.tmp 60) (by kernel_rfl) (p1) (o1 + 32 * k) (by kernel_rfl) (ints .u8 x) _ (RX.out w' hw) Tryd.underlying24 rfl (sizeD OX.out.1)) ?_
        refine reg_call 9 11 #[.agg (ints .u8 y).toArray, .agg (ints .u8 x).toArray] (some 62) _ (by kernel_rfl) (by kernel_rfl) (by kernel_rfl) (tcompare_walk y x OY.out.1 OX.out.1 OY.out.2 OX.out.2 _) ?_
        rintro e0 w7 ⟨rfl, hb7⟩
        have HS7 : Below wr.heap.size wr w7 := HS.trans (hb7.mono HS.size)
        refine ⟨_, rfl, HS7, ?_⟩
        rw [CM.out]
        refine reg_now 10 (.bool false) (some 63) hQN HS7 (by kernel_rfl) (by kernel_rfl) (fun w => by kernel_rfl) ?_
        refine reg_done (by kernel_rfl) (hN _ _ ?_)
        generalize hact : Act.put _ (some 63) _ = act
        simp only [Act.put, List.setIfInBounds_toArray, List.set_cons_succ, List.set_cons_zero] at hact
        subst hact
        have B7 : Hid (Below w6.heap.size w6 w7) := B6.out.trans (HS7.mono B6.out.size)
        clear HS HS7 hb7 hQN hN B6 RX RY CM OX OY hx hy
        generalize ints .u8 x = vx
        generalize ints .u8 y = vy
        go_wp2
        go_roundw
        case rel => exact ⟨k + 1, by omega, by omega, by go_num, B7⟩
        case measure => simp [intOf]; omega
      go_upto_region 14 with (fail)
      refine lin_begin (opsOf Tryd.f4 14) (by kernel_rfl) ?_
      refine lnow 0 (.int .i64 (k : Int)) (some 47) ?_
      refine lnow 1 (.slice sa m sc) (some 48) ?_
      refine lnow 2 (.int .i64 (m : Int)) (some 49) ?_
      refine lnow 3 (.bool (decide ((k : Int) < (m : Int)))) (some 50) ?_
      rw [decide_eq_false (hlt)]
      refine lin_done 4 (by kernel_rfl) ?_
      generalize hact : Act.put _ (some 50) _ = act
      simp only [Act.put, List.setIfInBounds_toArray, List.set_cons_succ, List.set_cons_zero] at hact
      subst hact
      have BE7 : Hid (Below q w wr) := BE6.out.trans (B6.out.mono Q6.out)
      have U7 := Lib.hid (U6.out.below B6.out (Nat.le_refl _))
      have BK7 := Lib.hid (BK6.out.below B6.out (Nat.le_refl _))
      have Q7 : Hid (q ≤ wr.heap.size) := Nat.le_trans Q6.out B6.out.size
      clear BE6 U6 BK6 Q6 B6
      go_upto_region 18 with (fail)
      refine lin_begin (opsOf Tryd.f4 18) (by kernel_rfl) ?_
      refine lnow 0 (.int .u8 kind) (some 64) ?_
      refine lnow 1 (.slice ua n uc) (some 65) ?_
      refine lin_call 2 16 #[.int .u8 kind, .slice ua n uc] (some 66) _ (by kernel_rfl) (by kernel_rfl) (by kernel_rfl) (ND.out _ BE7.out) ?_
      rintro e0 w8 ⟨rfl, hb8⟩
      refine ⟨_, rfl, ?_⟩
      have BE8 : Hid (Below q w w8) := BE7.out.trans (hb8.mono Q7.out)
      have U8 := Lib.hid (U7.out.below hb8 (Nat.le_refl _))
      have BK8 := Lib.hid (BK7.out.below hb8 (Nat.le_refl _))
      have Q8 : Hid (q ≤ w8.heap.size) := Nat.le_trans Q7.out hb8.size
      clear BE7 U7 BK7 Q7 hb8
      refine lnow 3 (.int .u8 kind) (some 67) ?_
      refine lnow 4 (v5) (some 68) ?_
      refine lin_call 5 16 #[.int .u8 kind, v5] (some 69) _ (by kernel_rfl) (by kernel_rfl) (by kernel_rfl) (NB.out _ BE8.out BK8.out) ?_
      rintro e0 w9 ⟨rfl, hb9⟩
      refine ⟨_, rfl, ?_⟩
      have BE9 : Hid (Below q w w9) := BE8.out.trans (hb9.mono Q8.out)
      have U9 := Lib.hid (U8.out.below hb9 (Nat.le_refl _))
      have BK9 := Lib.hid (BK8.out.below hb9 (Nat.le_refl _))
      have Q9 : Hid (q ≤ w9.heap.size) := Nat.le_trans Q8.out hb9.size
      clear BE8 U8 BK8 Q8 hb9
      refine lnowP 6 (.bool (decide (nd = nd))) (some 70) (exec_eql _ (.tmp 66) (.tmp 69) 24 (by kernel_rfl) Tryd.underlying24 Tryd.underlying5 sizeByte guardDigest nd nd LN.out LN.out (by kernel_rfl) (by kernel_rfl)) ?_
      rw [show (decide (nd = nd)) = true by rw [decide_eq_true (rfl : nd = nd)]]
      refine lnow 7 (.bool true) (some 71) ?_
      refine lnow 8 (v5) (some 72) ?_
      refine lin_call 9 14 #[v5] (some 73) _ (by kernel_rfl) (by kernel_rfl) (by kernel_rfl) (SB.out _ BK9.out) ?_
      rintro e0 w10 ⟨v10, rfl, u10, -, hb10⟩
      refine ⟨_, rfl, ?_⟩
      have BE10 : Hid (Below q w w10) := BE9.out.trans (hb10.mono Q9.out)
      have U10 := Lib.hid (U9.out.below hb10 (Nat.le_refl _))
      have V10 := Lib.hid u10
      have Q10 : Hid (q ≤ w10.heap.size) := Nat.le_trans Q9.out hb10.size
      obtain ⟨xa, xc, hv10, -⟩ := id V10.out
      subst hv10
      rw [hm.out] at V10 ⊢
      clear BE9 U9 BK9 Q9 hb10 u10
      refine lnow 10 (.slice sa m sc) (some 74) ?_
      refine lin_call 11 13 #[.slice xa m xc, .slice sa m sc] (some 75) _ (by kernel_rfl) (by kernel_rfl) (by kernel_rfl) (sameall_walk xa sa m xc sc sl _ V10.out U10.out hm.out (by omega) SO.out) ?_
      rintro e0 w11 ⟨rfl, hb11⟩
      refine ⟨_, rfl, ?_⟩
      have BE11 : Hid (Below q w w11) := BE10.out.trans (hb11.mono Q10.out)
      clear hb11 BE10
      refine lnow 12 (.bool true) (some 76) ?_
      refine lnow 13 (.bool true) (some 6) ?_
      refine lin_done 14 (by kernel_rfl) ?_
      generalize hact : Act.put _ (some 6) _ = act
      simp only [Act.put, List.setIfInBounds_toArray, List.set_cons_succ, List.set_cons_zero] at hact
      subst hact
      go_wp2
      go_ret
      exact ⟨rfl, BE11.out⟩
end Go.Proofs.YtoeilaedpibboaaDoor
