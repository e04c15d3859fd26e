/- Slices of sectors that are built and grow; the statements' first line (alive). -/
import Derived.Test.YtngpmilojfbpmaaDoorSealN
import Derived.Deep.AppendLies
namespace Go.Proofs.YtngpmilojfbpmaaDoor
open Go Go.RowKit Go.Deep
set_option maxRecDepth 100000

theorem run_build_blk (x : List Int) (hx : x.length = 64) (w : World) : (Instr.buildSlice 67 1 #[(0, .agg (ints .u8 x).toArray)]).run Tryd.prog w = .ok (.slice (some ⟨w.heap.size, 0, none⟩) 1 1) (w.alloc (.cells (ints .u8 x).toArray 91)) := by
  have h : (Instr.buildSlice 67 1 #[(0, .agg (ints .u8 x).toArray)]).run Tryd.prog w = ((match Instr.fill (fun i => some (i * 64, 64)) (ints .u8 zB).toArray [(0, .agg (ints .u8 x).toArray)] with | some cells => (do pure (.slice (some (← newRow 91 cells)) 1 1)) | _ => stuck "buildSlice: a part of the wrong size" : Sem Value)).run Tryd.prog w := by kernel_rfl
  rw [h, fill_one _ (ints .u8 zB) (ints .u8 x) 0 0 64 _ _ rfl rfl (by rw [ints_length, hx]) (by rw [ints_length, zB_length]; omega), Instr.fill]
  have e : splice (ints .u8 zB) 0 (ints .u8 x) = ints .u8 x := by
    rw [splice_ints, List.take_zero, List.nil_append, Nat.zero_add, hx, List.drop_eq_nil_of_le (by rw [zB_length]; omega), List.append_nil]
  rw [e]
  rfl
def zBB : List Int := List.replicate 128 0
theorem zBB_length : zBB.length = 128 := rfl
theorem run_build_blk2 (x y : List Int) (hx : x.length = 64) (hy : y.length = 64) (w : World) : (Instr.buildSlice 67 2 #[(0, .agg (ints .u8 x).toArray), (1, .agg (ints .u8 y).toArray)]).run Tryd.prog w = .ok (.slice (some ⟨w.heap.size, 0, none⟩) 2 2) (w.alloc (.cells (ints .u8 (x ++ y)).toArray 91)) := by
  have h : (Instr.buildSlice 67 2 #[(0, .agg (ints .u8 x).toArray), (1, .agg (ints .u8 y).toArray)]).run Tryd.prog w = ((match Instr.fill (fun i => some (i * 64, 64)) (ints .u8 zBB).toArray [(0, .agg (ints .u8 x).toArray), (1, .agg (ints .u8 y).toArray)] with | some cells => (do pure (.slice (some (← newRow 91 cells)) 2 2)) | _ => stuck "buildSlice: a part of the wrong size" : Sem Value)).run Tryd.prog w := by kernel_rfl
  have e : splice (splice (ints .u8 zBB) 0 (ints .u8 x)) 64 (ints .u8 y) = ints .u8 (x ++ y) := by
    rw [splice_ints, List.take_zero, List.nil_append, Nat.zero_add, splice_at x _ y 64 hx, hx, hy, List.drop_drop, List.drop_eq_nil_of_le (by rw [zBB_length]; omega), List.append_nil]
  rw [h, fill_one _ (ints .u8 zBB) (ints .u8 x) 0 0 64 _ _ rfl rfl (by rw [ints_length, hx]) (by rw [ints_length, zBB_length]; omega), fill_one _ _ (ints .u8 y) 1 64 64 _ _ rfl rfl (by rw [ints_length, hy]) (by rw [splice_length (by rw [ints_length, ints_length, hx, zBB_length]; omega), ints_length, zBB_length]; omega), Instr.fill, e]
  rfl
section
variable {P : Program} {ops : Array Oper} {Q : Exit → Act → World → Prop} {S : World → Prop} {fuel : Nat} {listed : Array Bool} {a : Act} {w : World}
/-- A slice is built. -/
theorem lin_newrow (i : Nat) (t : TypeId) (cs : List Value) (q n : Nat) (d : Option Tmp) (hi : (ops[i]?.isSome && Region.wanted (opAt ops i) (yielded ops a.tmps)) = true) (hd : (opAt ops i).dst = d) (hq : Hid (w.heap.size = q))
    (hrun : (execOp a.eval (opAt ops i)).run P w = .ok (.value (.slice (some ⟨w.heap.size, 0, none⟩) n n)) (w.alloc (.cells cs.toArray t)))
    (h : ∀ w', Blk w' q t cs → Below q w w' → Hid (w'.heap.size = q + 1) → wpFrom P ops Q (i + 1) (a.put d (.slice (some ⟨q, 0, none⟩) n n)) w') : wpFrom P ops Q i a w := by
  obtain rfl := hq.out
  exact lin_value i _ d _ hi hd hrun (h _ (Blk.new w t cs) ((Below.refl _ _).alloc (Nat.le_refl _) _) (by unfold Hid; simp))
theorem reg_newrow (i : Nat) (t : TypeId) (cs : List Value) (q n : Nat) (d : Option Tmp) (hi : (ops[i]?.isSome && (Region.ready .any ops listed == [i]) && Region.wanted (opAt ops i) (yielded ops a.tmps)) = true) (hd : (opAt ops i).dst = d) (hq : Hid (w.heap.size = q))
    (hrun : (execOp a.eval (opAt ops i)).run P w = .ok (.value (.slice (some ⟨w.heap.size, 0, none⟩) n n)) (w.alloc (.cells cs.toArray t)))
    (h : ∀ w', Blk w' q t cs → Below q w w' → Hid (w'.heap.size = q + 1) → S w' ∧ wpAnyH P .any ops Q S fuel (listed.setIfInBounds i true) (a.put d (.slice (some ⟨q, 0, none⟩) n n)) w') : wpAnyH P .any ops Q S (fuel + 1) listed a w := by
  obtain rfl := hq.out
  obtain ⟨h1, h2⟩ := h _ (Blk.new w t cs) ((Below.refl _ _).alloc (Nat.le_refl _) _) (by unfold Hid; simp)
  exact reg_value i _ d _ hi hd hrun h1 h2
end
/-- A slice of n sectors of the call's own. -/
def OwnB (w : World) (base : Nat) (v : Value) (n : Nat) (l : List Int) : Prop := w.ownsRow base 91 64 v n (ints .u8 l)
theorem OwnB.len {w : World} {base n : Nat} {v : Value} {l : List Int} (h : OwnB w base v n l) : l.length = 64 * n := by have := h.1; rw [ints_length] at this; omega
theorem OwnB.in {w : World} {base n : Nat} {v : Value} {l : List Int} (h : OwnB w base v n l) : BlksIn w v n l := by
  have hl := h.len
  obtain ⟨h1, h2⟩ := h
  rcases h2 with ⟨rfl, hn0⟩ | ⟨g, cap, cur, rfl, _, hg, hc, _, hs, ht⟩
  · exact ⟨none, 0, by rw [hn0], by omega, hl, fun h => by omega⟩
  · refine ⟨some ⟨g, 0, none⟩, cap, rfl, hc, hl, fun _ => ⟨g, 0, rfl, (Array.getElem?_eq_some_iff.1 hg).1, fun j v hv => ?_⟩⟩
    rw [cell_of_row w g (0 + j) cur 91 (0, 0) hg, Nat.zero_add]
    rw [← ht, List.getElem?_take] at hv
    split at hv
    · simpa using hv
    · cases hv
theorem OwnB.row {w : World} {base n : Nat} {v : Value} {l : List Int} (h : OwnB w base v n l) : ∀ k, v.ownBlock = some k → base ≤ k ∧ k < w.heap.size := fun k hk => by
  rcases h.2 with ⟨rfl, _⟩ | ⟨g, cap, cur, rfl, hb, hg, _⟩
  · cases hk
  · cases hk; exact ⟨hb, (Array.getElem?_eq_some_iff.1 hg).1⟩
theorem OwnB.nil (w : World) (base : Nat) : OwnB w base (.slice none 0 0) 0 [] := ⟨rfl, .inl ⟨rfl, rfl⟩⟩
theorem OwnB.below {w w' : World} {base n : Nat} {v : Value} {l : List Int} (h : OwnB w base v n l) (hb : Below w.heap.size w w') : OwnB w' base v n l :=
  own_step (F := []) (F' := []) h (Step.of_below hb (Nat.le_refl _)) (fun g _ => by simp)
theorem blk_own {w : World} {G n base : Nat} {l : List Int} (h : Blk w G 91 (ints .u8 l)) (hl : l.length = 64 * n) (hb : base ≤ G) (hm : n ≤ 1000000000) : OwnB w base (.slice (some ⟨G, 0, none⟩) n n) n l := by
  refine ⟨by rw [ints_length]; omega, .inr ⟨G, n, (ints .u8 l).toArray, rfl, hb, h, Nat.le_refl _, by unfold maxLen; omega, by rw [List.size_toArray, ints_length]; omega, ?_⟩⟩
  show (ints .u8 l).take (n * 64) = _
  rw [List.take_of_length_le (by rw [ints_length]; omega)]
/-- append(dst, src...) of sectors. -/
theorem lin_appendblk {ops : Array Oper} {Q : Exit → Act → World → Prop} {a : Act} {w : World} (i : Nat) (d : Option Tmp) (hi : (ops[i]?.isSome) = true) (hgd : (opAt ops i).guard = none) (hd : (opAt ops i).dst = d) (s x : Operand)
    (ho : (opAt ops i).op = .call { callee := .builtin .append, args := #[s, x], argTypes := #[67, 67] }) (base : Nat) (v : Value) (n : Nat) (xs : List Int) (hs : a.eval s = v) (hown : OwnB w base v n xs)
    (u : Value) (m : Nat) (zs : List Int) (hx : a.eval x = u) (hu : BlksIn w u m zs) (hnil : NilOk u) (hb : n + m ≤ 1000000000) (hbase : base ≤ w.heap.size)
    (h : ∀ v' w', OwnB w' base v' (n + m) (xs ++ zs) → w.grownBy w' v.ownBlock → wpFrom Tryd.prog ops Q (i + 1) (a.put d v') w') : wpFrom Tryd.prog ops Q i a w := by
  subst hd
  refine ⟨?_⟩
  rw [drop_opAt hi]
  obtain ⟨i0, hi0, hz0, hz1, hz2⟩ := info_parts infoBlock3
  obtain ⟨sa, c, rfl, hc, hl, hp⟩ := hu
  cases sa with
  | none =>
    obtain ⟨h1, h2⟩ := hnil
    subst h1
    subst h2
    have hz : zs = [] := List.eq_nil_of_length_eq_zero (by omega)
    subst hz
    refine wpList_append_own_none hgd s x 67 ho base 91 i0 64 elemBlocks hi0 v _ _ hs hown (by rw [hx]) ?_
    rw [List.append_nil, Nat.add_zero] at h
    exact (h v w hown ⟨rfl, rfl, rfl, Nat.le_refl _, fun _ _ _ => rfl⟩).out
  | some ad =>
    refine wpList_append_own w hgd s x 67 ho base 91 i0 (.agg (ints .u8 zB).toArray) 64 64 elemBlocks hi0 hz0 hz1 hz2 (by show (ints .u8 zB).toArray.size = 64; rw [List.size_toArray, ints_length, zB_length]) (by decide) v _ _ hs hown ad m c (ints .u8 zs) hx (by rw [ints_length]; omega) ?_ (ints_one _ _) (by unfold maxLen; omega) (by omega) hbase ?_
    · intro j u hj
      have hj2 : j < zs.length := by have := (List.getElem?_eq_some_iff.1 hj).1; rwa [ints_length] at this
      obtain ⟨pb, po, e, _, hr⟩ := hp (by omega)
      obtain rfl := Option.some.inj e
      rw [Addr.add_mid]
      exact hr j u hj
    · intro v' w' h1 h2 _
      refine (h v' w' ?_ h2).out
      unfold OwnB
      rw [ints_append]
      exact h1
def rA : List Int := [97, 98]
def zs20 : List Int := zeros 20
def l1 : List Int := packF 3 7 rA
def l2 : List Int := packF 3 8 zs20
theorem rA_bytes : isBytes rA := by unfold isBytes rA; decide
theorem l1_length : l1.length = 64 * 1 := packF_length 3 7 rA
theorem l2_length : l2.length = 64 * 2 := packF_length 3 8 zs20
theorem l1_bytes : isBytes l1 := packF_bytes 3 7 rA_bytes
theorem l2_bytes : isBytes l2 := packF_bytes 3 8 (zeros_bytes 20)
theorem okA : okPack ((3 : Nat) : Int) ((7 : Nat) : Int) rA.length := by decide
theorem okZ : okPack ((3 : Nat) : Int) ((8 : Nat) : Int) zs20.length := by decide
theorem l1_get : getB l1 0 = l1 := by unfold getB; rw [Nat.mul_zero, List.drop_zero, List.take_of_length_le (by rw [l1_length]; omega)]
theorem l1_sec : l1 = sectorP (markP 3 7) (cutP (recB rA) 0) := by rw [← l1_get]; exact packF_get 3 7 rA (by decide)
theorem l2_sec : getB l2 1 = sectorP (markP 3 9) (cutP (recB zs20) 1) := packF_get 3 8 zs20 (by decide)
def badP (y : Int) : List Int := l1.set 20 y
theorem bad_length (y : Int) : (badP y).length = 64 := by unfold badP; rw [List.length_set, l1_length]
theorem bad_bytes (y : Int) (h : 0 ≤ y ∧ y ≤ 255) : isBytes (badP y) := fun x hx => by
  rcases List.mem_or_eq_of_mem_set hx with h1 | h1
  · exact l1_bytes x h1
  · rw [h1]; exact h
theorem bad_no (x y : Int) (hx : l1[20]? = some x) (hne : y ≠ x) : ¬ unpOk 3 7 (badP y) 1 := fun h => by
  have hs : sizeP (badP y) = 2 := by
    have h1 : sizeP l1 = 2 := size_pack (gen := 3) (num := 7) (rec := rA) (by decide) rfl
    have h2 : sizeP (badP y) = sizeP l1 := by unfold sizeP badP; rw [set_cut _ _ _ _ _ (.inr (by omega))]
    rw [h2, h1]
  have hr : recP (badP y) = rA := by
    have h1 : recP l1 = rA := rec_pack (gen := 3) (num := 7) (rec := rA) (by decide) (fun i _ => rfl)
    have hs1 : sizeP l1 = 2 := size_pack (gen := 3) (num := 7) (rec := rA) (by decide) rfl
    rw [← h1]
    unfold recP
    rw [hs, hs1]
    have e : ∀ l : List Int, l.length = 64 → ((dataK l (needN 2)).drop 2).take 2 = (l.drop 12).take 2 := fun l hl => by
      have h3 : needN 2 = 1 := rfl
      have h4 : getB l 0 = l := by unfold getB; rw [Nat.mul_zero, List.drop_zero, List.take_of_length_le (by omega)]
      rw [h3, dataK, dataK, List.nil_append, h4, List.drop_take, List.take_take, List.drop_drop]
      rfl
    rw [e _ (bad_length y), e _ l1_length]
    unfold badP
    rw [set_cut _ _ _ _ _ (.inr (by omega))]
  refine unp_other (rec := rA) (L := badP y) (gen := 3) (num := 7) (bad_length y) (fun e => ?_) h hr
  have h1 : (badP y)[20]? = some y := by unfold badP; rw [List.getElem?_set_self (by rw [l1_length]; omega)]
  have e' : badP y = l1 := e
  rw [e', hx] at h1
  exact hne (Option.some.inj h1).symm
theorem high_bad (y : Int) : highK (l1 ++ badP y) 2 = 3 := by
  have g0 : getB (l1 ++ badP y) 0 = l1 := by rw [getB_append (n := 1) l1_length (by omega), l1_get]
  have g1 : getB (l1 ++ badP y) 1 = badP y := by
    have h := getB_behind (a := l1) (b := badP y) (n := 1) (i := 0) l1_length
    rw [Nat.add_zero] at h
    rw [h]
    unfold getB
    rw [Nat.mul_zero, List.drop_zero, List.take_of_length_le (by rw [bad_length]; omega)]
  have a1 : genP l1 = 3 := by rw [l1_sec]; exact gen_sector (by omega)
  have a2 : endP l1 = 3 := by rw [l1_sec]; exact end_sector (cutP_le _ _) (by omega)
  have b1 : genP (badP y) = 3 := by
    rw [← a1]
    unfold genP badP
    have h := set_cut l1 20 0 8 y (.inr (by omega))
    rw [List.drop_zero, List.drop_zero] at h
    rw [h]
  have b2 : endP (badP y) = 3 := by rw [← a2]; unfold endP badP; rw [set_cut _ _ _ _ _ (.inl (by omega))]
  rw [highK, highK, highK, g0, g1, a1, a2, b1, b2]
  rfl
structure SA (G1 G2 Q : Nat) (bad : List Int) (w : World) : Prop where
  a : Blk w G1 91 (ints .u8 l1)
  b : Blk w G2 91 (ints .u8 l2)
  c : Blk w Q 91 (ints .u8 bad)
theorem SA.below {G1 G2 Q : Nat} {bad : List Int} {w w' : World} (h : SA G1 G2 Q bad w) (hb : Below w.heap.size w w') : SA G1 G2 Q bad w' := ⟨h.a.below hb h.a.lt, h.b.below hb h.b.lt, h.c.below hb h.c.lt⟩
theorem unp_alive : sizeP (l1 ++ l2) = 2 ∧ recP (l1 ++ l2) = rA ∧ unpOk 3 7 (l1 ++ l2) 3 := unp_pack (gen := 3) (num := 7) (rec := rA) (tail := l2) (n := 3) okA (by decide)
theorem bytes_app {a b : List Int} (ha : isBytes a) (hb : isBytes b) : isBytes (a ++ b) := fun x hx => by
  rcases List.mem_append.1 hx with h | h
  · exact ha x h
  · exact hb x h
end Go.Proofs.YtngpmilojfbpmaaDoor
