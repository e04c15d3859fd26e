/- Slices of sectors that are built and grow; the statements' first line (alive). -/
import Derived.Test.YtaeghgnhpgkcdaaDoorSealN
import Derived.Deep.AppendLies
namespace Go.Proofs.YtaeghgnhpgkcdaaDoor
open Go Go.RowKit Go.Deep
set_option maxRecDepth 100000

theorem run_build_blk (x : List Int) (hx : x.length = 64) (w : World) : (Instr.buildSlice 23 1 #[(0, .agg (ints .u8 x).toArray)]).run Tryd.prog w = .ok (.slice (some ⟨w.heap.size, 0, none⟩) 1 1) (w.alloc (.cells (ints .u8 x).toArray 37)) := by
  have h : (Instr.buildSlice 23 1 #[(0, .agg (ints .u8 x).toArray)]).run Tryd.prog w = ((match Instr.fill (fun i => some (i * 64, 64)) (ints .u8 zB).toArray [(0, .agg (ints .u8 x).toArray)] with | some cells => (do pure (.slice (some (← newRow 37 cells)) 1 1)) | _ => stuck "buildSlice: a part of the wrong size" : Sem Value)).run Tryd.prog w := by kernel_rfl
  rw [h, fill_one _ (ints .u8 zB) (ints .u8 x) 0 0 64 _ _ rfl rfl (by rw [ints_length, hx]) (by rw [ints_length, zB_length]; omega), Instr.fill]
  have e : splice (ints .u8 zB) 0 (ints .u8 x) = ints .u8 x := by
    rw [splice_ints, List.take_zero, List.nil_append, Nat.zero_add, hx, List.drop_eq_nil_of_le (by rw [zB_length]; omega), List.append_nil]
  rw [e]
  rfl
def zBB : List Int := List.replicate 128 0
theorem zBB_length : zBB.length = 128 := rfl
theorem run_build_blk2 (x y : List Int) (hx : x.length = 64) (hy : y.length = 64) (w : World) : (Instr.buildSlice 23 2 #[(0, .agg (ints .u8 x).toArray), (1, .agg (ints .u8 y).toArray)]).run Tryd.prog w = .ok (.slice (some ⟨w.heap.size, 0, none⟩) 2 2) (w.alloc (.cells (ints .u8 (x ++ y)).toArray 37)) := by
  have h : (Instr.buildSlice 23 2 #[(0, .agg (ints .u8 x).toArray), (1, .agg (ints .u8 y).toArray)]).run Tryd.prog w = ((match Instr.fill (fun i => some (i * 64, 64)) (ints .u8 zBB).toArray [(0, .agg (ints .u8 x).toArray), (1, .agg (ints .u8 y).toArray)] with | some cells => (do pure (.slice (some (← newRow 37 cells)) 2 2)) | _ => stuck "buildSlice: a part of the wrong size" : Sem Value)).run Tryd.prog w := by kernel_rfl
  have e : splice (splice (ints .u8 zBB) 0 (ints .u8 x)) 64 (ints .u8 y) = ints .u8 (x ++ y) := by
    rw [splice_ints, List.take_zero, List.nil_append, Nat.zero_add, splice_at x _ y 64 hx, hx, hy, List.drop_drop, List.drop_eq_nil_of_le (by rw [zBB_length]; omega), List.append_nil]
  rw [h, fill_one _ (ints .u8 zBB) (ints .u8 x) 0 0 64 _ _ rfl rfl (by rw [ints_length, hx]) (by rw [ints_length, zBB_length]; omega), fill_one _ _ (ints .u8 y) 1 64 64 _ _ rfl rfl (by rw [ints_length, hy]) (by rw [splice_length (by rw [ints_length, ints_length, hx, zBB_length]; omega), ints_length, zBB_length]; omega), Instr.fill, e]
  rfl
section
variable {P : Program} {ops : Array Oper} {Q : Exit → Act → World → Prop} {S : World → Prop} {fuel : Nat} {listed : Array Bool} {a : Act} {w : World}
/-- A slice is built. -/
theorem lin_newrow (i : Nat) (t : TypeId) (cs : List Value) (q n : Nat) (d : Option Tmp) (hi : (ops[i]?.isSome && Region.wanted (opAt ops i) (yielded ops a.tmps)) = true) (hd : (opAt ops i).dst = d) (hq : Hid (w.heap.size = q))
    (hrun : (execOp a.eval (opAt ops i)).run P w = .ok (.value (.slice (some ⟨w.heap.size, 0, none⟩) n n)) (w.alloc (.cells cs.toArray t)))
    (h : ∀ w', Blk w' q t cs → Below q w w' → Hid (w'.heap.size = q + 1) → wpFrom P ops Q (i + 1) (a.put d (.slice (some ⟨q, 0, none⟩) n n)) w') : wpFrom P ops Q i a w := by
  obtain rfl := hq.out
  exact lin_value i _ d _ hi hd hrun (h _ (Blk.new w t cs) ((Below.refl _ _).alloc (Nat.le_refl _) _) (by unfold Hid; simp))
theorem reg_newrow (i : Nat) (t : TypeId) (cs : List Value) (q n : Nat) (d : Option Tmp) (hi : (ops[i]?.isSome && (Region.ready .any ops listed == [i]) && Region.wanted (opAt ops i) (yielded ops a.tmps)) = true) (hd : (opAt ops i).dst = d) (hq : Hid (w.heap.size = q))
    (hrun : (execOp a.eval (opAt ops i)).run P w = .ok (.value (.slice (some ⟨w.heap.size, 0, none⟩) n n)) (w.alloc (.cells cs.toArray t)))
    (h : ∀ w', Blk w' q t cs → Below q w w' → Hid (w'.heap.size = q + 1) → S w' ∧ wpAnyH P .any ops Q S fuel (listed.setIfInBounds i true) (a.put d (.slice (some ⟨q, 0, none⟩) n n)) w') : wpAnyH P .any ops Q S (fuel + 1) listed a w := by
  obtain rfl := hq.out
  obtain ⟨h1, h2⟩ := h _ (Blk.new w t cs) ((Below.refl _ _).alloc (Nat.le_refl _) _) (by unfold Hid; simp)
  exact reg_value i _ d _ hi hd hrun h1 h2
end
/-- A slice of n sectors of the call's own. -/
def OwnB (w : World) (base : Nat) (v : Value) (n : Nat) (l : List Int) : Prop := w.ownsRow base 37 64 v n (ints .u8 l)
theorem OwnB.len {w : World} {base n : Nat} {v : Value} {l : List Int} (h : OwnB w base v n l) : l.length = 64 * n := by have := h.1; rw [ints_length] at this; omega
theorem OwnB.in {w : World} {base n : Nat} {v : Value} {l : List Int} (h : OwnB w base v n l) : BlksIn w v n l := by
  have hl := h.len
  obtain ⟨h1, h2⟩ := h
  rcases h2 with ⟨rfl, hn0⟩ | ⟨g, cap, cur, rfl, _, hg, hc, _, hs, ht⟩
  · exact ⟨none, 0, by rw [hn0], by omega, hl, fun h => by omega⟩
  · refine ⟨some ⟨g, 0, none⟩, cap, rfl, hc, hl, fun _ => ⟨g, 0, rfl, (Array.getElem?_eq_some_iff.1 hg).1, fun j v hv => ?_⟩⟩
    rw [cell_of_row w g (0 + j) cur 37 (0, 0) hg, Nat.zero_add]
    rw [← ht, List.getElem?_take] at hv
    split at hv
    · simpa using hv
    · cases hv
theorem OwnB.row {w : World} {base n : Nat} {v : Value} {l : List Int} (h : OwnB w base v n l) : ∀ k, v.ownBlock = some k → base ≤ k ∧ k < w.heap.size := fun k hk => by
  rcases h.2 with ⟨rfl, _⟩ | ⟨g, cap, cur, rfl, hb, hg, _⟩
  · cases hk
  · cases hk; exact ⟨hb, (Array.getElem?_eq_some_iff.1 hg).1⟩
theorem OwnB.nil (w : World) (base : Nat) : OwnB w base (.slice none 0 0) 0 [] := ⟨rfl, .inl ⟨rfl, rfl⟩⟩
theorem OwnB.below {w w' : World} {base n : Nat} {v : Value} {l : List Int} (h : OwnB w base v n l) (hb : Below w.heap.size w w') : OwnB w' base v n l :=
  own_step (F := []) (F' := []) h (Step.of_below hb (Nat.le_refl _)) (fun g _ => by simp)
theorem blk_own {w : World} {G n base : Nat} {l : List Int} (h : Blk w G 37 (ints .u8 l)) (hl : l.length = 64 * n) (hb : base ≤ G) (hm : n ≤ 1000000000) : OwnB w base (.slice (some ⟨G, 0, none⟩) n n) n l := by
  refine ⟨by rw [ints_length]; omega, .inr ⟨G, n, (ints .u8 l).toArray, rfl, hb, h, Nat.le_refl _, by unfold maxLen; omega, by rw [List.size_toArray, ints_length]; omega, ?_⟩⟩
  show (ints .u8 l).take (n * 64) = _
  rw [List.take_of_length_le (by rw [ints_length]; omega)]
/-- append(dst, src...) of sectors. -/
theorem lin_appendblk {ops : Array Oper} {Q : Exit → Act → World → Prop} {a : Act} {w : World} (i : Nat) (d : Option Tmp) (hi : (ops[i]?.isSome) = true) (hgd : (opAt ops i).guard = none) (hd : (opAt ops i).dst = d) (s x : Operand)
    (ho : (opAt ops i).op = .call { callee := .builtin .append, args := #[s, x], argTypes := #[23, 23] }) (base : Nat) (v : Value) (n : Nat) (xs : List Int) (hs : a.eval s = v) (hown : OwnB w base v n xs)
    (u : Value) (m : Nat) (zs : List Int) (hx : a.eval x = u) (hu : BlksIn w u m zs) (hnil : NilOk u) (hb : n + m ≤ 1000000000) (hbase : base ≤ w.heap.size)
    (h : ∀ v' w', OwnB w' base v' (n + m) (xs ++ zs) → w.grownBy w' v.ownBlock → wpFrom Tryd.prog ops Q (i + 1) (a.put d v') w') : wpFrom Tryd.prog ops Q i a w := by
  subst hd
  refine ⟨?_⟩
  rw [drop_opAt hi]
  obtain ⟨i0, hi0, hz0, hz1, hz2⟩ := info_parts infoBlock3
  obtain ⟨sa, c, rfl, hc, hl, hp⟩ := hu
  cases sa with
  | none =>
    obtain ⟨h1, h2⟩ := hnil
    subst h1
    subst h2
    have hz : zs = [] := List.eq_nil_of_length_eq_zero (by omega)
    subst hz
    refine wpList_append_own_none hgd s x 23 ho base 37 i0 64 elemBlocks hi0 v _ _ hs hown (by rw [hx]) ?_
    rw [List.append_nil, Nat.add_zero] at h
    exact (h v w hown ⟨rfl, rfl, rfl, Nat.le_refl _, fun _ _ _ => rfl⟩).out
  | some ad =>
    refine wpList_append_own w hgd s x 23 ho base 37 i0 (.agg (ints .u8 zB).toArray) 64 64 elemBlocks hi0 hz0 hz1 hz2 (by show (ints .u8 zB).toArray.size = 64; rw [List.size_toArray, ints_length, zB_length]) (by decide) v _ _ hs hown ad m c (ints .u8 zs) hx (by rw [ints_length]; omega) ?_ (ints_one _ _) (by unfold maxLen; omega) (by omega) hbase ?_
    · intro j u hj
      have hj2 : j < zs.length := by have := (List.getElem?_eq_some_iff.1 hj).1; rwa [ints_length] at this
      obtain ⟨pb, po, e, _, hr⟩ := hp (by omega)
      obtain rfl := Option.some.inj e
      rw [Addr.add_mid]
      exact hr j u hj
    · intro v' w' h1 h2 _
      refine (h v' w' ?_ h2).out
      unfold OwnB
      rw [ints_append]
      exact h1
def rA : List Int := [97, 98]
def zs20 : List Int := zeros 20
def l1 : List Int := packF 3 7 rA
def l2 : List Int := packF 3 8 zs20
theorem rA_bytes : isBytes rA := by unfold isBytes rA; decide
theorem l1_length : l1.length = 64 * 1 := packF_length 3 7 rA
theorem l2_length : l2.length = 64 * 2 := packF_length 3 8 zs20
theorem l1_bytes : isBytes l1 := packF_bytes 3 7 rA_bytes
theorem l2_bytes : isBytes l2 := packF_bytes 3 8 (zeros_bytes 20)
theorem okA : okPack ((3 : Nat) : Int) ((7 : Nat) : Int) rA.length := by decide
theorem okZ : okPack ((3 : Nat) : Int) ((8 : Nat) : Int) zs20.length := by decide
theorem l1_get : getB l1 0 = l1 := by unfold getB; rw [Nat.mul_zero, List.drop_zero, List.take_of_length_le (by rw [l1_length]; omega)]
theorem l1_sec : l1 = sectorP (markP 3 7) (cutP (recB rA) 0) := by rw [← l1_get]; exact packF_get 3 7 rA (by decide)
theorem l2_sec : getB l2 1 = sectorP (markP 3 9) (cutP (recB zs20) 1) := packF_get 3 8 zs20 (by decide)
def badP (y : Int) : List Int := l1.set 20 y
theorem bad_length (y : Int) : (badP y).length = 64 := by unfold badP; rw [List.length_set, l1_length]
theorem bad_bytes (y : Int) (h : 0 ≤ y ∧ y ≤ 255) : isBytes (badP y) := fun x hx => by
  rcases List.mem_or_eq_of_mem_set hx with h1 | h1
  · exact l1_bytes x h1
  · rw [h1]; exact h
theorem bad_no (x y : Int) (hx : l1[20]? = some x) (hne : y ≠ x) : ¬ unpOk 3 7 (badP y) 1 := fun h => by
  have hs : sizeP (badP y) = 2 := by
    have h1 : sizeP l1 = 2 := size_pack (gen := 3) (num := 7) (rec := rA) (by decide) rfl
    have h2 : sizeP (badP y) = sizeP l1 := by unfold sizeP badP; rw [set_cut _ _ _ _ _ (.inr (by omega))]
    rw [h2, h1]
  have hr : recP (badP y) = rA := by
    have h1 : recP l1 = rA := rec_pack (gen := 3) (num := 7) (rec := rA) (by decide) (fun i _ => rfl)
    have hs1 : sizeP l1 = 2 := size_pack (gen := 3) (num := 7) (rec := rA) (by decide) rfl
    rw [← h1]
    unfold recP
    rw [hs, hs1]
    have e : ∀ l : List Int, l.length = 64 → ((dataK l (needN 2)).drop 2).take 2 = (l.drop 12).take 2 := fun l hl => by
      have h3 : needN 2 = 1 := rfl
      have h4 : getB l 0 = l := by unfold getB; rw [Nat.mul_zero, List.drop_zero, List.take_of_length_le (by omega)]
      rw [h3, dataK, dataK, List.nil_append, h4, List.drop_take, List.take_take, List.drop_drop]
      rfl
    rw [e _ (bad_length y), e _ l1_length]
    unfold badP
    rw [set_cut _ _ _ _ _ (.inr (by omega))]
  refine unp_other (rec := rA) (L := badP y) (gen := 3) (num := 7) (bad_length y) (fun e => ?_) h hr
  have h1 : (badP y)[20]? = some y := by unfold badP; rw [List.getElem?_set_self (by rw [l1_length]; omega)]
  have e' : badP y = l1 := e
  rw [e', hx] at h1
  exact hne (Option.some.inj h1).symm
theorem high_bad (y : Int) : highK (l1 ++ badP y) 2 = 3 := by
  have g0 : getB (l1 ++ badP y) 0 = l1 := by rw [getB_append (n := 1) l1_length (by omega), l1_get]
  have g1 : getB (l1 ++ badP y) 1 = badP y := by
    have h := getB_behind (a := l1) (b := badP y) (n := 1) (i := 0) l1_length
    rw [Nat.add_zero] at h
    rw [h]
    unfold getB
    rw [Nat.mul_zero, List.drop_zero, List.take_of_length_le (by rw [bad_length]; omega)]
  have a1 : genP l1 = 3 := by rw [l1_sec]; exact gen_sector (by omega)
  have a2 : endP l1 = 3 := by rw [l1_sec]; exact end_sector (cutP_le _ _) (by omega)
  have b1 : genP (badP y) = 3 := by
    rw [← a1]
    unfold genP badP
    have h := set_cut l1 20 0 8 y (.inr (by omega))
    rw [List.drop_zero, List.drop_zero] at h
    rw [h]
  have b2 : endP (badP y) = 3 := by rw [← a2]; unfold endP badP; rw [set_cut _ _ _ _ _ (.inl (by omega))]
  rw [highK, highK, highK, g0, g1, a1, a2, b1, b2]
  rfl
structure SA (G1 G2 Q : Nat) (bad : List Int) (w : World) : Prop where
  a : Blk w G1 37 (ints .u8 l1)
  b : Blk w G2 37 (ints .u8 l2)
  c : Blk w Q 37 (ints .u8 bad)
theorem SA.below {G1 G2 Q : Nat} {bad : List Int} {w w' : World} (h : SA G1 G2 Q bad w) (hb : Below w.heap.size w w') : SA G1 G2 Q bad w' := ⟨h.a.below hb h.a.lt, h.b.below hb h.b.lt, h.c.below hb h.c.lt⟩
theorem unp_alive : sizeP (l1 ++ l2) = 2 ∧ recP (l1 ++ l2) = rA ∧ unpOk 3 7 (l1 ++ l2) 3 := unp_pack (gen := 3) (num := 7) (rec := rA) (tail := l2) (n := 3) okA (by decide)
theorem bytes_app {a b : List Int} (ha : isBytes a) (hb : isBytes b) : isBytes (a ++ b) := fun x hx => by
  rcases List.mem_append.1 hx with h | h
  · exact ha x h
  · exact hb x h
set_option maxHeartbeats 4000000 in
theorem slalive_walk (w : World) (hK : KW w) : Calls Tryd.prog 8 #[] w fun e w' => e = .returned (.bool true) ∧ Below w.heap.size w w' := by
  have HK := Lib.hid hK
  obtain ⟨B, hB⟩ : ∃ B, Hid (w.heap.size = B) := ⟨_, rfl⟩
  have HKB : Hid (0 < B) := by unfold Hid; rw [← hB.out]; exact hK.lt
  rw [hB.out]
  clear hK
  go_enter Tryd.func8, Tryd.ntmps8
  go_upto_region 1 with (fail)
  refine lin_begin (opsOf Tryd.f8 1) (by kernel_rfl) ?_
  refine lin_newrow 0 5 (ints .u8 rA) B 2 (some 16) (by kernel_rfl) (by kernel_rfl) hB (by kernel_rfl) ?_
  intro w1 b1 be1 hs1
  refine lin_call 1 10 #[.int .i64 ((3 : Nat) : Int), .int .i64 ((7 : Nat) : Int), .slice (some ⟨B, 0, none⟩) 2 2] (some 17) _ (by kernel_rfl) (by kernel_rfl) (by kernel_rfl) (pack_ok 3 7 _ rA _ (bytes_blk b1 rfl) trivial okA (HK.out.below be1 HKB.out)) ?_
  rintro e w2 ⟨G1, rfl, hG1, hblk1, hb2⟩
  refine ⟨_, rfl, ?_⟩
  refine lin_now 2 (.tuple #[.slice (some ⟨G1, 0, none⟩) 1 1, .bool true]) (some 15) (by kernel_rfl) (by kernel_rfl) (by kernel_rfl) ?_
  refine lin_now 3 (.slice (some ⟨G1, 0, none⟩) 1 1) (some 18) (by kernel_rfl) (by kernel_rfl) (by kernel_rfl) ?_
  refine lin_now 4 (.bool true) (some 19) (by kernel_rfl) (by kernel_rfl) (by kernel_rfl) ?_
  refine lin_now 5 (.slice (some ⟨G1, 0, none⟩) 1 1) (some 1) (by kernel_rfl) (by kernel_rfl) (by kernel_rfl) ?_
  refine lin_now 6 (.bool true) (some 2) (by kernel_rfl) (by kernel_rfl) (by kernel_rfl) ?_
  refine lin_done 7 (by kernel_rfl) ?_
  have A2 : Hid (Blk w2 G1 37 (ints .u8 l1)) := hblk1
  have BE2 : Hid (Below B w w2) := be1.trans (hb2.mono (by rw [hs1.out]; omega))
  have hs2 : Hid (B + 1 ≤ w2.heap.size) := by unfold Hid; have := hb2.size; have := hs1.out; omega
  have hG : Hid (B + 1 ≤ G1) := by unfold Hid; have := hs1.out; omega
  have K2 : Hid (KW w2) := HK.out.below BE2.out HKB.out
  obtain ⟨q2, hq2⟩ : ∃ q, Hid (w2.heap.size = q) := ⟨_, rfl⟩
  clear b1 be1 hs1 hG1 hblk1 hb2
  generalize hact : Act.put _ (some 2) _ = act
  simp only [Act.put, List.setIfInBounds_toArray, List.set_cons_succ, List.set_cons_zero] at hact
  subst hact
  go_upto_region 2 with (fail)
  refine lin_begin (opsOf Tryd.f8 2) (by kernel_rfl) ?_
  refine lin_makeb 0 20 20 q2 .i64 .i64 (some 21) (by kernel_rfl) (by kernel_rfl) (by kernel_rfl) (Nat.le_refl _) (by omega) hq2 ?_
  intro w3 b3 be3 hs3
  refine lin_call 1 10 #[.int .i64 ((3 : Nat) : Int), .int .i64 ((8 : Nat) : Int), .slice (some ⟨q2, 0, none⟩) 20 20] (some 22) _ (by kernel_rfl) (by kernel_rfl) (by kernel_rfl) (pack_ok 3 8 _ zs20 _ (bytes_blk b3 rfl) trivial okZ (K2.out.below be3 (by have := K2.out.lt; have := hq2.out; omega))) ?_
  rintro e w4 ⟨G2, rfl, hG2, hblk2, hb4⟩
  refine ⟨_, rfl, ?_⟩
  refine lin_now 2 (.tuple #[.slice (some ⟨G2, 0, none⟩) 2 2, .bool true]) (some 20) (by kernel_rfl) (by kernel_rfl) (by kernel_rfl) ?_
  refine lin_now 3 (.slice (some ⟨G2, 0, none⟩) 2 2) (some 23) (by kernel_rfl) (by kernel_rfl) (by kernel_rfl) ?_
  refine lin_now 4 (.bool true) (some 24) (by kernel_rfl) (by kernel_rfl) (by kernel_rfl) ?_
  refine lin_now 5 (.slice (some ⟨G2, 0, none⟩) 2 2) (some 3) (by kernel_rfl) (by kernel_rfl) (by kernel_rfl) ?_
  refine lin_now 6 (.bool true) (some 4) (by kernel_rfl) (by kernel_rfl) (by kernel_rfl) ?_
  refine lin_done 7 (by kernel_rfl) ?_
  have be34 : Below q2 w2 w4 := be3.trans (hb4.mono (by rw [hs3.out]; omega))
  have A4 : Hid (Blk w4 G1 37 (ints .u8 l1)) := A2.out.below be34 (by have := A2.out.lt; have := hq2.out; omega)
  have C4 : Hid (Blk w4 G2 37 (ints .u8 l2)) := hblk2
  have BE4 : Hid (Below B w w4) := BE2.out.trans (be34.mono (by have := hs2.out; have := hq2.out; omega))
  have hs4 : Hid (B + 1 ≤ w4.heap.size) := by unfold Hid; have := be34.size; have := hs2.out; omega
  have K4 : Hid (KW w4) := HK.out.below BE4.out HKB.out
  clear be34 A2 BE2 hs2 K2 hq2 b3 be3 hs3 hG2 hblk2 hb4
  generalize hact : Act.put _ (some 4) _ = act
  simp only [Act.put, List.setIfInBounds_toArray, List.set_cons_succ, List.set_cons_zero] at hact
  subst hact
  obtain ⟨i0, hi0, hz0, hz1, hz2⟩ := info_parts infoBlock3
  have hrun := run_append_grow (P := Tryd.prog) w4 23 23 37 i0 (.agg (ints .u8 zB).toArray) elemBlocks hi0 hz0 ⟨G1, 0, none⟩ 1 1 (ints .u8 l1) (by rw [ints_length, l1_length, hz1]) (fun j v hv => by rw [Addr.add_mid, Nat.zero_add]; exact A4.out.cell hv) ⟨G2, 0, none⟩ 2 2 (ints .u8 l2) (by rw [ints_length, l2_length, hz1]) (fun j v hv => by rw [Addr.add_mid, Nat.zero_add]; exact C4.out.cell hv) (by omega) (by omega) (by rw [hz2]; decide)
  obtain ⟨cp, hcp⟩ : ∃ cp, Hid (grownCap w4 (1 + 2) 1 37 = cp) := ⟨_, rfl⟩
  have cp3 : 3 ≤ cp := by rw [← hcp.out]; exact grownCap_ge _ _ _ _
  rw [hcp.out] at hrun
  obtain ⟨W5, hW5⟩ : ∃ W5, Hid (w4.drew.alloc (.cells ((ints .u8 l1).toArray ++ (ints .u8 l2).toArray ++ Builtin.zeroCells (Value.agg (ints .u8 zB).toArray).cells (cp - (1 + 2))) 37) = W5) := ⟨_, rfl⟩
  rw [hW5.out] at hrun
  obtain ⟨H4, hH4⟩ : ∃ H, Hid (w4.heap.size = H) := ⟨_, rfl⟩
  rw [hH4.out] at hrun
  have bb5 : Below H4 w4 W5 := by rw [← hW5.out, ← hH4.out]; exact ((Below.refl _ _).drew).alloc (Nat.le_refl _) _
  have BI5 : Hid (BlksIn W5 (.slice (some ⟨H4, 0, none⟩) 3 cp) 3 (l1 ++ l2)) := by
    refine ⟨_, cp, rfl, cp3, by rw [List.length_append, l1_length, l2_length], fun _ => ⟨H4, 0, rfl, ?_, fun j v hv => ?_⟩⟩
    · rw [← hW5.out, ← hH4.out]; simp
    · rw [← hW5.out]
      have hn : (w4.drew.alloc (.cells ((ints .u8 l1).toArray ++ (ints .u8 l2).toArray ++ Builtin.zeroCells (Value.agg (ints .u8 zB).toArray).cells (cp - (1 + 2))) 37)).heap[H4]? = some (.cells ((ints .u8 l1).toArray ++ (ints .u8 l2).toArray ++ Builtin.zeroCells (Value.agg (ints .u8 zB).toArray).cells (cp - (1 + 2))) 37 (0, 0)) := by rw [← hH4.out]; exact heap_alloc_new w4.drew _
      rw [cell_of_row _ H4 _ _ 37 (0, 0) hn, Nat.zero_add]
      rw [ints_append] at hv
      have hj := (List.getElem?_eq_some_iff.1 hv).1
      rw [Array.getElem?_append_left (by simpa using hj), List.append_toArray, List.getElem?_toArray]
      exact hv
  have A5 : Hid (Blk W5 G1 37 (ints .u8 l1)) := A4.out.below bb5 (by have := A4.out.lt; have := hH4.out; omega)
  have C5 : Hid (Blk W5 G2 37 (ints .u8 l2)) := C4.out.below bb5 (by have := C4.out.lt; have := hH4.out; omega)
  have BE5 : Hid (Below B w W5) := BE4.out.trans (bb5.mono (by have := hs4.out; have := hH4.out; omega))
  have hs5 : Hid (B + 1 ≤ W5.heap.size) := by unfold Hid; have := bb5.size; have := hs4.out; omega
  have K5 : Hid (KW W5) := HK.out.below BE5.out HKB.out
  have HR5 := Lib.hid hrun
  clear bb5 hW5 hrun A4 C4 BE4 hs4 K4
  go_upto_region 5 with (fail)
  refine lin_begin (opsOf Tryd.f8 5) (by kernel_rfl) ?_
  refine lin_now 0 (.slice (some ⟨G1, 0, none⟩) 1 1) (some 42) (by kernel_rfl) (by kernel_rfl) (by kernel_rfl) ?_
  refine lin_now 1 (.slice (some ⟨G2, 0, none⟩) 2 2) (some 43) (by kernel_rfl) (by kernel_rfl) (by kernel_rfl) ?_
  refine lin_value 2 (.slice (some ⟨H4, 0, none⟩) 3 cp) (some 44) W5 (by kernel_rfl) (by kernel_rfl) (exec_of (Builtin.append_ #[23, 23] 23 #[.slice (some ⟨G1, 0, none⟩) 1 1, .slice (some ⟨G2, 0, none⟩) 2 2]) _ (by kernel_rfl) HR5.out) ?_
  have HC5 := Lib.hid (unpack_ok 3 7 (.slice (some ⟨H4, 0, none⟩) 3 cp) 3 (l1 ++ l2) W5 BI5.out (bytes_app l1_bytes l2_bytes) (by omega) unp_alive.2.2 K5.out)
  rw [unp_alive.2.1, unp_alive.1] at HC5
  refine lin_call 3 16 #[.slice (some ⟨H4, 0, none⟩) 3 cp, .int .i64 3, .int .i64 7] (some 45) _ (by kernel_rfl) (by kernel_rfl) (by kernel_rfl) (HC5.out) ?_
  rintro e w6 ⟨v6, rfl, hv6, hn6, hb6⟩
  refine ⟨_, rfl, ?_⟩
  refine lin_now 4 (.tuple #[v6, .int .i64 ((needN 2 : Nat) : Int), .bool true]) (some 41) (by kernel_rfl) (by kernel_rfl) (by kernel_rfl) ?_
  refine lin_now 5 (v6) (some 46) (by kernel_rfl) (by kernel_rfl) (by kernel_rfl) ?_
  refine lin_now 6 (.int .i64 ((needN 2 : Nat) : Int)) (some 47) (by kernel_rfl) (by kernel_rfl) (by kernel_rfl) ?_
  rw [show ((needN 2 : Nat) : Int) = 1 from rfl]
  refine lin_now 7 (.bool true) (some 48) (by kernel_rfl) (by kernel_rfl) (by kernel_rfl) ?_
  refine lin_now 8 (v6) (some 5) (by kernel_rfl) (by kernel_rfl) (by kernel_rfl) ?_
  refine lin_now 9 (.int .i64 1) (some 6) (by kernel_rfl) (by kernel_rfl) (by kernel_rfl) ?_
  refine lin_now 10 (.bool true) (some 7) (by kernel_rfl) (by kernel_rfl) (by kernel_rfl) ?_
  refine lin_done 11 (by kernel_rfl) ?_
  have V6 := Lib.hid hv6
  have A6 := Lib.hid (A5.out.below hb6 A5.out.lt)
  have C6 := Lib.hid (C5.out.below hb6 C5.out.lt)
  have BE6 : Hid (Below B w w6) := BE5.out.trans (hb6.mono (by have := hs5.out; omega))
  have hs6 : Hid (B + 1 ≤ w6.heap.size) := by unfold Hid; have := hb6.size; have := hs5.out; omega
  obtain ⟨va, vc, e6, -⟩ := id V6.out
  rw [show rA.length = 2 from rfl] at e6
  subst e6
  clear hv6 hn6 hb6 A5 C5 BE5 hs5 K5 BI5 HR5 HC5 hH4
  generalize hact : Act.put _ (some 7) _ = act
  simp only [Act.put, List.setIfInBounds_toArray, List.set_cons_succ, List.set_cons_zero] at hact
  subst hact
  have S2L : Hid ((getB l2 1).length = 64) := getB_length l2_length (by omega)
  have S2B : Hid (isBytes (getB l2 1)) := bytes_take (bytes_drop l2_bytes _) _
  have IS2 : Hid ((Tryd.prog.info? 37).map (·.size) = some (ints .u8 (getB l2 1)).length) := infoBlk _ S2L.out
  have R6 : Hid (w6.rangeAt G2 (0 + 64 * 1) (ints .u8 (getB l2 1))) := getB_sub C6.out.whole
  have HC6 := Lib.hid (mark_yes (getB l2 1) S2L.out S2B.out (by rw [l2_sec]; exact sectorP_whole (markP_length _ _) (cutP_le _ _)) w6)
  rw [show genP (getB l2 1) = 3 by rw [l2_sec]; exact gen_sector (by omega), show numP (getB l2 1) = 9 by rw [l2_sec]; exact num_sector (by omega)] at HC6
  go_upto_region 6 with (fail)
  refine lin_begin (opsOf Tryd.f8 6) (by kernel_rfl) ?_
  refine lin_now 0 (.slice (some ⟨G2, 0, none⟩) 2 2) (some 50) (by kernel_rfl) (by kernel_rfl) (by kernel_rfl) ?_
  refine lin_now 1 (.pointer (some ⟨G2, 0 + 64 * 1, none⟩)) (some 51) (by kernel_rfl) (by kernel_rfl) (exec_indexAt 23 (.tmp 50) (.const (.int .i64 ((1 : Nat) : Int))) (by kernel_rfl) _ _ _ (by kernel_rfl) (by kernel_rfl) (run_at_block G2 0 2 2 1 (by omega) w6)) ?_
  refine lin_now 2 (.agg (ints .u8 (getB l2 1)).toArray) (some 52) (by kernel_rfl) (by kernel_rfl) (exec_load_mid 37 (.tmp 51) (by kernel_rfl) G2 (0 + 64 * 1) (by kernel_rfl) (ints .u8 (getB l2 1)) _ R6.out Tryd.underlying37 rfl IS2.out) ?_
  refine lin_call 3 17 #[.agg (ints .u8 (getB l2 1)).toArray] (some 53) _ (by kernel_rfl) (by kernel_rfl) (by kernel_rfl) (HC6.out) ?_
  rintro e w7 ⟨rfl, hb7⟩
  refine ⟨_, rfl, ?_⟩
  refine lin_now 4 (.tuple #[.int .i64 3, .int .i64 9, .bool true]) (some 49) (by kernel_rfl) (by kernel_rfl) (by kernel_rfl) ?_
  refine lin_now 5 (.int .i64 3) (some 54) (by kernel_rfl) (by kernel_rfl) (by kernel_rfl) ?_
  refine lin_now 6 (.int .i64 9) (some 55) (by kernel_rfl) (by kernel_rfl) (by kernel_rfl) ?_
  refine lin_now 7 (.bool true) (some 56) (by kernel_rfl) (by kernel_rfl) (by kernel_rfl) ?_
  refine lin_now 8 (.int .i64 3) (some 8) (by kernel_rfl) (by kernel_rfl) (by kernel_rfl) ?_
  refine lin_now 9 (.int .i64 9) (some 9) (by kernel_rfl) (by kernel_rfl) (by kernel_rfl) ?_
  refine lin_now 10 (.bool true) (some 10) (by kernel_rfl) (by kernel_rfl) (by kernel_rfl) ?_
  refine lin_done 11 (by kernel_rfl) ?_
  have V7 := Lib.hid (V6.out.below hb7 (Nat.le_refl _))
  have A7 := Lib.hid (A6.out.below hb7 A6.out.lt)
  have C7 := Lib.hid (C6.out.below hb7 C6.out.lt)
  have BE7 : Hid (Below B w w7) := BE6.out.trans (hb7.mono (by have := hs6.out; omega))
  have hs7 : Hid (B + 1 ≤ w7.heap.size) := by unfold Hid; have := hb7.size; have := hs6.out; omega
  clear hb7 V6 A6 C6 BE6 hs6 R6 HC6
  generalize hact : Act.put _ (some 10) _ = act
  simp only [Act.put, List.setIfInBounds_toArray, List.set_cons_succ, List.set_cons_zero] at hact
  subst hact
  have IL1 : Hid ((Tryd.prog.info? 37).map (·.size) = some (ints .u8 l1).length) := infoBlk l1 l1_length
  obtain ⟨q, hq⟩ : ∃ q, Hid (w7.heap.size = q) := ⟨_, rfl⟩
  have R7 : Hid (w7.rangeAt G1 (0 + 64 * 0) (ints .u8 l1)) := A7.out.whole
  go_upto_region 7 with (fail)
  refine lin_begin (opsOf Tryd.f8 7) (by kernel_rfl) ?_
  refine lin_now 0 (.slice (some ⟨G1, 0, none⟩) 1 1) (some 57) (by kernel_rfl) (by kernel_rfl) (by kernel_rfl) ?_
  refine lin_now 1 (.pointer (some ⟨G1, 0 + 64 * 0, none⟩)) (some 58) (by kernel_rfl) (by kernel_rfl) (exec_indexAt 23 (.tmp 57) (.const (.int .i64 ((0 : Nat) : Int))) (by kernel_rfl) _ _ _ (by kernel_rfl) (by kernel_rfl) (run_at_block G1 0 1 1 0 (by omega) w7)) ?_
  refine lin_now 2 (.agg (ints .u8 l1).toArray) (some 59) (by kernel_rfl) (by kernel_rfl) (exec_load_mid 37 (.tmp 58) (by kernel_rfl) G1 (0 + 64 * 0) (by kernel_rfl) (ints .u8 l1) _ R7.out Tryd.underlying37 rfl IL1.out) ?_
  refine lin_alloc 3 37 (ints .u8 zB) (q) (some 11) (by kernel_rfl) (by kernel_rfl) (by kernel_rfl) zeroBlk hq ?_
  intro w8 b8 be8 hs8
  refine lin_put 4 37 (.tmp 11) (.tmp 59) (q) _ (ints .u8 zB) (ints .u8 l1) (by kernel_rfl) (by kernel_rfl) (by kernel_rfl) (by kernel_rfl) (by kernel_rfl) b8 (by rw [ints_length, ints_length, l1_length, zB_length]) IL1.out (ints_oneCell _ _) ?_
  intro w9 b9 u9
  refine lin_done 5 (by kernel_rfl) ?_
  have be79 : Below q w7 w9 := u9.below be8 (Nat.le_refl _) (by rw [hs8.out]; omega)
  have BQ9 := Lib.hid be79
  have A9 := Lib.hid (A7.out.below be79 (by have := A7.out.lt; have := hq.out; omega))
  have C9 := Lib.hid (C7.out.below be79 (by have := C7.out.lt; have := hq.out; omega))
  have D9 := Lib.hid b9
  have Bq : Hid (B + 1 ≤ q) := by unfold Hid; have := hs7.out; have := hq.out; omega
  have q1 : Hid (G1 < q ∧ G2 < q) := by unfold Hid; have := A7.out.lt; have := C7.out.lt; have := hq.out; omega
  have BE9 : Hid (Below B w w9) := BE7.out.trans (be79.mono (by have := Bq.out; omega))
  have hs9 : Hid (q + 1 ≤ w9.heap.size) := by unfold Hid; have := u9.size; have := hs8.out; omega
  clear A7 C7 BE7 hs7 b8 be8 hs8 b9 u9 be79 R7
  generalize hact : Act.put _ none _ = act
  simp only [Act.put, List.setIfInBounds_toArray, List.set_cons_succ, List.set_cons_zero] at hact
  subst hact
  obtain ⟨x, hx⟩ : ∃ x, l1[20]? = some x := ⟨_, List.getElem?_eq_getElem (by rw [l1_length]; omega)⟩
  have xr := l1_bytes x (List.mem_of_getElem? hx)
  have HX := Lib.hid hx
  have c20 := D9.out.cell (ints_get (k := .u8) hx)
  have f20 := D9.out.free 20
  have x0 := xr.1
  have x1 := xr.2
  clear hx xr
  go_upto_region 9 with (fail)
  obtain ⟨y, hy⟩ : ∃ y, Hid ((x + 1) % 256 = y) := ⟨_, rfl⟩
  have yr : 0 ≤ y ∧ y ≤ 255 := by have := hy.out; omega
  have yne : Hid (y ≠ x) := by unfold Hid; have := hy.out; omega
  rw [hy.out]
  have D10 : Hid (Blk (w9.setCell ⟨q, 20, none⟩ (.int .u8 y)) q 37 (ints .u8 (badP y))) := by
    have h := D9.out.set 20 (.int .u8 y)
    rw [ints_set] at h
    exact h
  have A10 := Lib.hid (A9.out.other (a := ⟨q, 20, none⟩) (by have := q1.out; simp only; omega) (.int .u8 y))
  have C10 := Lib.hid (C9.out.other (a := ⟨q, 20, none⟩) (by have := q1.out; simp only; omega) (.int .u8 y))
  have BE10 := Lib.hid (BE9.out.setCell (p := ⟨q, 20, none⟩) (by have := Bq.out; simp only; omega) (.int .u8 y))
  have V10 : Hid (BytesIn (w9.setCell ⟨q, 20, none⟩ (.int .u8 y)) (.slice va 2 vc) rA) := V7.out.below (BQ9.out.setCell (p := ⟨q, 20, none⟩) (by simp only; omega) (.int .u8 y)) (Nat.le_of_eq hq.out)
  have hs10 : Hid (B + 1 ≤ (w9.setCell ⟨q, 20, none⟩ (.int .u8 y)).heap.size) := by unfold Hid; have := BE10.out.size; have h9 := hs9.out; have := Bq.out; have e : (w9.setCell ⟨q, 20, none⟩ (.int .u8 y)).heap.size = w9.heap.size := size_setCells [.int .u8 y] w9 q 20; omega
  clear c20 f20 D9 A9 C9 BE9 V7 BQ9 hq hs9 q1
  generalize w9.setCell ⟨q, 20, none⟩ (.int .u8 y) = W10 at *
  obtain ⟨bad, hbad⟩ : ∃ b, Hid (badP y = b) := ⟨_, rfl⟩
  have HBL : Hid (bad.length = 64) := by unfold Hid; rw [← hbad.out]; exact bad_length y
  have HBB : Hid (isBytes bad) := by unfold Hid; rw [← hbad.out]; exact bad_bytes y yr
  have HBN : Hid (¬ unpOk 3 7 bad 1) := by unfold Hid; rw [← hbad.out]; exact bad_no x y HX.out yne.out
  have HHI : Hid (highK (l1 ++ bad) 2 = 3) := by unfold Hid; rw [← hbad.out]; exact high_bad y
  rw [hbad.out] at D10
  have IBD : Hid ((Tryd.prog.info? 37).map (·.size) = some (ints .u8 bad).length) := infoBlk bad HBL.out
  have K10 : Hid (KW W10) := HK.out.below BE10.out HKB.out
  obtain ⟨p, hp⟩ : ∃ p, Hid (W10.heap.size = p) := ⟨_, rfl⟩
  refine lin_begin (opsOf Tryd.f8 9) (by kernel_rfl) ?_
  refine lin_load 0 37 (.tmp 11) (q) _ (ints .u8 bad) (some 65) (by kernel_rfl) (by kernel_rfl) (by kernel_rfl) (by kernel_rfl) D10.out _ Tryd.underlying37 rfl IBD.out ?_
  refine lin_newrow 1 37 (ints .u8 bad) p 1 (some 66) (by kernel_rfl) (by kernel_rfl) hp (exec_of (Instr.buildSlice 23 1 #[(0, .agg (ints .u8 bad).toArray)]) _ (by kernel_rfl) (run_build_blk bad HBL.out _)) ?_
  intro w11 b11 be11 hs11
  refine lin_call 2 16 #[.slice (some ⟨p, 0, none⟩) 1 1, .int .i64 3, .int .i64 7] (some 67) _ (by kernel_rfl) (by kernel_rfl) (by kernel_rfl) (unpack_no 3 7 _ 1 bad _ (blks_blk b11 (by rw [HBL.out])) HBB.out (by omega) HBN.out (K10.out.below be11 (by have := K10.out.lt; have := hp.out; omega))) ?_
  rintro e w12 ⟨rfl, hb12⟩
  refine ⟨_, rfl, ?_⟩
  refine lin_now 3 (.tuple #[.slice none 0 0, .int .i64 0, .bool false]) (some 64) (by kernel_rfl) (by kernel_rfl) (by kernel_rfl) ?_
  refine lin_now 4 (.slice none 0 0) (some 68) (by kernel_rfl) (by kernel_rfl) (by kernel_rfl) ?_
  refine lin_now 5 (.int .i64 0) (some 69) (by kernel_rfl) (by kernel_rfl) (by kernel_rfl) ?_
  refine lin_now 6 (.bool false) (some 70) (by kernel_rfl) (by kernel_rfl) (by kernel_rfl) ?_
  refine lin_now 7 (.slice none 0 0) (some 12) (by kernel_rfl) (by kernel_rfl) (by kernel_rfl) ?_
  refine lin_now 8 (.int .i64 0) (some 13) (by kernel_rfl) (by kernel_rfl) (by kernel_rfl) ?_
  refine lin_now 9 (.bool false) (some 14) (by kernel_rfl) (by kernel_rfl) (by kernel_rfl) ?_
  refine lin_done 10 (by kernel_rfl) ?_
  have be12 : Below W10.heap.size W10 w12 := by rw [hp.out]; exact be11.trans (hb12.mono (by rw [hs11.out]; omega))
  have S12 : Hid (SA G1 G2 q bad w12) := ⟨A10.out.below be12 A10.out.lt, C10.out.below be12 C10.out.lt, D10.out.below be12 D10.out.lt⟩
  have V12 := Lib.hid (V10.out.below be12 (Nat.le_refl _))
  have BE12 : Hid (Below B w w12) := BE10.out.trans (be12.mono (by have := hs10.out; omega))
  have hs12 : Hid (B + 1 ≤ w12.heap.size) := by unfold Hid; have := be12.size; have := hs10.out; omega
  clear be12 b11 be11 hs11 hb12 A10 C10 D10 V10 BE10 hs10 K10 hp
  generalize hact : Act.put _ (some 14) _ = act
  simp only [Act.put, List.setIfInBounds_toArray, List.set_cons_succ, List.set_cons_zero] at hact
  subst hact
  go_upto_region 10 with (fail)
  refine region_begin (opsOf Tryd.f8 10) (SA G1 G2 q bad) (by kernel_rfl) (by kernel_rfl) 57 (by kernel_rfl) ?_
  intro Q' hQN hN
  have hS : SA G1 G2 q bad w12.drew := S12.out.below (Below.refl _ _).drew
  have V12' : BytesIn w12.drew (.slice va 2 vc) rA := V12.out
  refine reg_now 0 (.bool true) (some 71) hQN hS (by kernel_rfl) (by kernel_rfl) (fun w => by kernel_rfl) ?_
  refine reg_now 1 (.bool true) (some 72) hQN hS (by kernel_rfl) (by kernel_rfl) (fun w => by kernel_rfl) ?_
  refine reg_now 2 (.bool false) (some 73) hQN hS (by kernel_rfl) (by kernel_rfl) (fun w => by kernel_rfl) ?_
  refine reg_now 3 (.bool true) (some 74) hQN hS (by kernel_rfl) (by kernel_rfl) (fun w => by kernel_rfl) ?_
  refine reg_now 4 (.bool true) (some 75) hQN hS (by kernel_rfl) (by kernel_rfl) (fun w => by kernel_rfl) ?_
  refine reg_now 5 (.bool true) (some 76) hQN hS (by kernel_rfl) (by kernel_rfl) (fun w => by kernel_rfl) ?_
  refine reg_now 6 (.int .i64 1) (some 77) hQN hS (by kernel_rfl) (by kernel_rfl) (fun w => by kernel_rfl) ?_
  refine reg_now 7 (.bool true) (some 78) hQN hS (by kernel_rfl) (by kernel_rfl) (fun w => by kernel_rfl) ?_
  refine reg_now 8 (.bool true) (some 79) hQN hS (by kernel_rfl) (by kernel_rfl) (fun w => by kernel_rfl) ?_
  refine reg_now 9 (.bool true) (some 80) hQN hS (by kernel_rfl) (by kernel_rfl) (fun w => by kernel_rfl) ?_
  refine reg_now 10 (.slice va 2 vc) (some 81) hQN hS (by kernel_rfl) (by kernel_rfl) (fun w => by kernel_rfl) ?_
  obtain ⟨p1, hp1⟩ : ∃ p, Hid (w12.drew.heap.size = p) := ⟨_, rfl⟩
  refine reg_newrow 11 5 (ints .u8 rA) p1 2 (some 82) (by kernel_rfl) (by kernel_rfl) hp1 (by kernel_rfl) ?_
  intro w13 b13 be13 hs13
  have bb13 : Below w12.drew.heap.size w12.drew w13 := by rw [hp1.out]; exact be13
  have hS13 := hS.below bb13
  refine ⟨hS13, ?_⟩
  refine reg_call 12 13 #[.slice va 2 vc, .slice (some ⟨p1, 0, none⟩) 2 2] (some 83) _ (by kernel_rfl) (by kernel_rfl) (by kernel_rfl) (sameb_true _ _ rA _ (V12'.below bb13 (Nat.le_refl _)) (bytes_blk b13 rfl) (by decide)) ?_
  rintro e w14 ⟨rfl, d14, rfl⟩
  have hS14 : SA G1 G2 q bad (w13.drewN d14) := hS13.below (below_drewN _ _)
  refine ⟨_, rfl, hS14, ?_⟩
  refine reg_now 13 (.bool true) (some 84) hQN hS14 (by kernel_rfl) (by kernel_rfl) (fun w => by kernel_rfl) ?_
  refine reg_now 14 (.bool true) (some 85) hQN hS14 (by kernel_rfl) (by kernel_rfl) (fun w => by kernel_rfl) ?_
  refine reg_now 15 (.int .i64 3) (some 86) hQN hS14 (by kernel_rfl) (by kernel_rfl) (fun w => by kernel_rfl) ?_
  refine reg_now 16 (.bool true) (some 87) hQN hS14 (by kernel_rfl) (by kernel_rfl) (fun w => by kernel_rfl) ?_
  refine reg_now 17 (.bool true) (some 88) hQN hS14 (by kernel_rfl) (by kernel_rfl) (fun w => by kernel_rfl) ?_
  refine reg_now 18 (.bool true) (some 89) hQN hS14 (by kernel_rfl) (by kernel_rfl) (fun w => by kernel_rfl) ?_
  refine reg_now 19 (.int .i64 9) (some 90) hQN hS14 (by kernel_rfl) (by kernel_rfl) (fun w => by kernel_rfl) ?_
  refine reg_now 20 (.bool true) (some 91) hQN hS14 (by kernel_rfl) (by kernel_rfl) (fun w => by kernel_rfl) ?_
  refine reg_now 21 (.bool true) (some 92) hQN hS14 (by kernel_rfl) (by kernel_rfl) (fun w => by kernel_rfl) ?_
  refine reg_now 22 (.bool true) (some 93) hQN hS14 (by kernel_rfl) (by kernel_rfl) (fun w => by kernel_rfl) ?_
  refine reg_now 23 (.bool true) (some 94) hQN hS14 (by kernel_rfl) (by kernel_rfl) (fun w => by kernel_rfl) ?_
  refine reg_now 24 (.bool true) (some 95) hQN hS14 (by kernel_rfl) (by kernel_rfl) (fun w => by kernel_rfl) ?_
  refine reg_now 25 (.bool true) (some 96) hQN hS14 (by kernel_rfl) (by kernel_rfl) (fun w => by kernel_rfl) ?_
  refine reg_now 26 (.slice (some ⟨G1, 0, none⟩) 1 1) (some 97) hQN hS14 (by kernel_rfl) (by kernel_rfl) (fun w => by kernel_rfl) ?_
  refine reg_now 27 (.pointer (some ⟨G1, 0 + 64 * 0, none⟩)) (some 98) hQN hS14 (by kernel_rfl) (by kernel_rfl) (fun w' => exec_indexAt 23 (.tmp 97) (.const (.int .i64 ((0 : Nat) : Int))) (by kernel_rfl) _ _ _ (by kernel_rfl) (by kernel_rfl) (run_at_block G1 0 1 1 0 (by omega) w')) ?_
  refine reg_nowIf 28 (.agg (ints .u8 l1).toArray) (some 99) hQN hS14 (by kernel_rfl) (by kernel_rfl) (fun w' hw => exec_load_mid 37 (.tmp 98) (by kernel_rfl) G1 (0 + 64 * 0) (by kernel_rfl) (ints .u8 (l1)) _ (hw.a.whole) Tryd.underlying37 rfl IL1.out) ?_
  have HWH := whole_walk l1 l1_length l1_bytes (w13.drewN d14)
  rw [show decide (wholeP l1) = true from decide_eq_true (by rw [l1_sec]; exact sectorP_whole (markP_length _ _) (cutP_le _ _))] at HWH
  refine reg_call 29 19 #[.agg (ints .u8 l1).toArray] (some 100) _ (by kernel_rfl) (by kernel_rfl) (by kernel_rfl) (HWH) ?_
  rintro e w15 ⟨rfl, hb15⟩
  have hS15 := hS14.below hb15
  refine ⟨_, rfl, hS15, ?_⟩
  refine reg_now 30 (.bool true) (some 101) hQN hS15 (by kernel_rfl) (by kernel_rfl) (fun w => by kernel_rfl) ?_
  refine reg_now 31 (.bool true) (some 102) hQN hS15 (by kernel_rfl) (by kernel_rfl) (fun w => by kernel_rfl) ?_
  refine reg_call 32 14 #[.int .i64 0] (some 103) _ (by kernel_rfl) (by kernel_rfl) (by kernel_rfl) (need_walk 0 _) ?_
  rintro e w16 ⟨rfl, rfl⟩
  refine ⟨_, rfl, hS15, ?_⟩
  rw [show needI 0 = 1 from rfl]
  refine reg_now 33 (.bool true) (some 104) hQN hS15 (by kernel_rfl) (by kernel_rfl) (fun w => by kernel_rfl) ?_
  refine reg_now 34 (.bool true) (some 105) hQN hS15 (by kernel_rfl) (by kernel_rfl) (fun w => by kernel_rfl) ?_
  refine reg_now 35 (.bool true) (some 106) hQN hS15 (by kernel_rfl) (by kernel_rfl) (fun w => by kernel_rfl) ?_
  refine reg_call 36 14 #[.int .i64 2001] (some 107) _ (by kernel_rfl) (by kernel_rfl) (by kernel_rfl) (need_walk 2001 _) ?_
  rintro e w16 ⟨rfl, rfl⟩
  refine ⟨_, rfl, hS15, ?_⟩
  rw [show needI 2001 = 0 from rfl]
  refine reg_now 37 (.bool true) (some 108) hQN hS15 (by kernel_rfl) (by kernel_rfl) (fun w => by kernel_rfl) ?_
  refine reg_now 38 (.bool true) (some 109) hQN hS15 (by kernel_rfl) (by kernel_rfl) (fun w => by kernel_rfl) ?_
  refine reg_now 39 (.bool true) (some 110) hQN hS15 (by kernel_rfl) (by kernel_rfl) (fun w => by kernel_rfl) ?_
  refine reg_now 40 (.slice (some ⟨G1, 0, none⟩) 1 1) (some 111) hQN hS15 (by kernel_rfl) (by kernel_rfl) (fun w => by kernel_rfl) ?_
  refine reg_now 41 (.pointer (some ⟨G1, 0 + 64 * 0, none⟩)) (some 112) hQN hS15 (by kernel_rfl) (by kernel_rfl) (fun w' => exec_indexAt 23 (.tmp 111) (.const (.int .i64 ((0 : Nat) : Int))) (by kernel_rfl) _ _ _ (by kernel_rfl) (by kernel_rfl) (run_at_block G1 0 1 1 0 (by omega) w')) ?_
  refine reg_nowIf 42 (.agg (ints .u8 l1).toArray) (some 113) hQN hS15 (by kernel_rfl) (by kernel_rfl) (fun w' hw => exec_load_mid 37 (.tmp 112) (by kernel_rfl) G1 (0 + 64 * 0) (by kernel_rfl) (ints .u8 (l1)) _ (hw.a.whole) Tryd.underlying37 rfl IL1.out) ?_
  refine reg_nowIf 43 (.agg (ints .u8 bad).toArray) (some 114) hQN hS15 (by kernel_rfl) (by kernel_rfl) (fun w' hw => exec_load_mid 37 (.tmp 11) (by kernel_rfl) q 0 (by kernel_rfl) (ints .u8 (bad)) _ (hw.c.whole) Tryd.underlying37 rfl IBD.out) ?_
  obtain ⟨p2, hp2⟩ : ∃ p, Hid (w15.heap.size = p) := ⟨_, rfl⟩
  refine reg_newrow 44 37 (ints .u8 (l1 ++ bad)) p2 2 (some 115) (by kernel_rfl) (by kernel_rfl) hp2 (exec_of (Instr.buildSlice 23 2 #[(0, .agg (ints .u8 l1).toArray), (1, .agg (ints .u8 bad).toArray)]) _ (by kernel_rfl) (run_build_blk2 l1 bad l1_length HBL.out _)) ?_
  intro w17 b17 be17 hs17
  have bb17 : Below w15.heap.size w15 w17 := by rw [hp2.out]; exact be17
  have hS17 := hS15.below bb17
  refine ⟨hS17, ?_⟩
  have HWI := highest_walk _ 2 (l1 ++ bad) w17 (blks_blk b17 (by rw [List.length_append, l1_length, HBL.out])) (bytes_app l1_bytes HBB.out) (by omega)
  rw [HHI.out] at HWI
  refine reg_call 45 23 #[.slice (some ⟨p2, 0, none⟩) 2 2] (some 116) _ (by kernel_rfl) (by kernel_rfl) (by kernel_rfl) (HWI) ?_
  rintro e w18 ⟨rfl, hb18⟩
  have hS18 := hS17.below hb18
  refine ⟨_, rfl, hS18, ?_⟩
  refine reg_now 46 (.bool true) (some 117) hQN hS18 (by kernel_rfl) (by kernel_rfl) (fun w => by kernel_rfl) ?_
  refine reg_now 47 (.bool true) (some 118) hQN hS18 (by kernel_rfl) (by kernel_rfl) (fun w => by kernel_rfl) ?_
  refine reg_now 48 (.bool true) (some 119) hQN hS18 (by kernel_rfl) (by kernel_rfl) (fun w => by kernel_rfl) ?_
  refine reg_now 49 (.slice (some ⟨G2, 0, none⟩) 2 2) (some 120) hQN hS18 (by kernel_rfl) (by kernel_rfl) (fun w => by kernel_rfl) ?_
  refine reg_now 50 (.pointer (some ⟨G2, 0 + 64 * 1, none⟩)) (some 121) hQN hS18 (by kernel_rfl) (by kernel_rfl) (fun w' => exec_indexAt 23 (.tmp 120) (.const (.int .i64 ((1 : Nat) : Int))) (by kernel_rfl) _ _ _ (by kernel_rfl) (by kernel_rfl) (run_at_block G2 0 2 2 1 (by omega) w')) ?_
  refine reg_nowIf 51 (.agg (ints .u8 (getB l2 1)).toArray) (some 122) hQN hS18 (by kernel_rfl) (by kernel_rfl) (fun w' hw => exec_load_mid 37 (.tmp 121) (by kernel_rfl) G2 (0 + 64 * 1) (by kernel_rfl) (ints .u8 (getB l2 1)) _ (getB_sub hw.b.whole) Tryd.underlying37 rfl IS2.out) ?_
  refine reg_call 52 20 #[.agg (ints .u8 (getB l2 1)).toArray] (some 123) _ (by kernel_rfl) (by kernel_rfl) (by kernel_rfl) (data_yes (getB l2 1) S2L.out S2B.out (by rw [l2_sec]; exact sectorP_whole (markP_length _ _) (cutP_le _ _)) _) ?_
  rintro e w19 ⟨v19, rfl, hv19, hn19, hb19⟩
  have hS19 := hS18.below hb19
  refine ⟨_, rfl, hS19, ?_⟩
  obtain ⟨da, dc, e19, -⟩ := hv19
  have hdl : (dataP (getB l2 1)).length = 8 := by
    unfold dataP
    rw [l2_sec, sectorP_cnt (markP_length _ _) (cutP_le _ _), Int.toNat_natCast, sectorP_data (markP_length _ _) _ rfl, cutP_length, recB_length]
    rfl
  rw [hdl] at e19
  subst e19
  refine reg_now 53 (.int .i64 8) (some 124) hQN hS19 (by kernel_rfl) (by kernel_rfl) (fun w => by kernel_rfl) ?_
  refine reg_now 54 (.bool true) (some 125) hQN hS19 (by kernel_rfl) (by kernel_rfl) (fun w => by kernel_rfl) ?_
  refine reg_now 55 (.bool true) (some 126) hQN hS19 (by kernel_rfl) (by kernel_rfl) (fun w => by kernel_rfl) ?_
  refine reg_now 56 (.bool true) (some 0) hQN hS19 (by kernel_rfl) (by kernel_rfl) (fun w => by kernel_rfl) ?_
  refine reg_done (by kernel_rfl) (hN _ _ ?_)
  have BE19 : Hid (Below B w w19) := by
    have h1 : Below B w w12.drew := BE12.out.drew
    have z1 : B ≤ w12.drew.heap.size := by have : w12.drew.heap.size = w12.heap.size := rfl; have := hs12.out; omega
    have h2 := h1.trans (bb13.mono z1)
    have z2 := Nat.le_trans z1 bb13.size
    have h3 := h2.trans ((below_drewN w13 d14).mono z2)
    have h4 := h3.trans (hb15.mono z2)
    have z4 : B ≤ w15.heap.size := Nat.le_trans z2 hb15.size
    have h5 := h4.trans (bb17.mono z4)
    have z5 := Nat.le_trans z4 bb17.size
    have h6 := h5.trans (hb18.mono z5)
    exact h6.trans (hb19.mono (Nat.le_trans z5 hb18.size))
  clear hQN hN hS hS13 hS14 hS15 hS17 hS18 hS19 b13 be13 hs13 bb13 hb15 b17 be17 hs17 bb17 hb18 hb19 HWH HWI hdl S12 V12 V12' BE12 hs12 hp1 hp2
  generalize hact : Act.put _ (some 0) _ = act
  simp only [Act.put, List.setIfInBounds_toArray, List.set_cons_succ, List.set_cons_zero] at hact
  subst hact
  go_wp2
  go_ret
  exact ⟨rfl, BE19.out⟩
end Go.Proofs.YtaeghgnhpgkcdaaDoor
