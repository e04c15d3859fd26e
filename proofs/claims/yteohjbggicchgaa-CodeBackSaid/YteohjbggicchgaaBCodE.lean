import Derived.Test.YteohjbggicchgaaBCodB
import Derived.Test.YteohjbggicchgaaBLevC
import Derived.Test.YteohjbggicchgaaBTrmD
import Derived.Deep.AppendSrc
import Derived.Test.YteohjbggicchgaaBGenT
import Derived.Test.YteohjbggicchgaaCodSh
import Derived.Lib.ItoaNum
namespace Go.Proofs.Yteohjbggicchgaa
open Go Go.RowKit
set_option maxRecDepth 100000
def RowB (m : Nat) (w : World) (v : Value) (zs : List Int) : Prop := w.ownsRow m 5 1 v zs.length (ints .u8 zs)
theorem RowB.nil (m : Nat) (w : World) : RowB m w (.slice none 0 0) [] := World.ownsRow_nil w m 5 1
theorem RowB.own {m : Nat} {w : World} {v : Value} {zs : List Int} (h : RowB m w v zs) : ∀ g, v.ownBlock = some g → m ≤ g ∧ g < w.heap.size := own_where h
theorem RowB.in {m : Nat} {w : World} {v : Value} {zs : List Int} (h : RowB m w v zs) : BytesIn w v zs := owns_bytes h
theorem RowB.nilok {m : Nat} {w : World} {v : Value} {zs : List Int} (h : RowB m w v zs) : NilOk v := owns_nilok h
theorem RowB.mono {m m' : Nat} {w : World} {v : Value} {zs : List Int} (h : RowB m w v zs) (hm : m' ≤ m) : RowB m' w v zs := by
 refine ⟨h.1, ?_⟩
 rcases h.2 with h1 | ⟨g, cap, cur, e, h2, h3⟩
 ·exact .inl h1
 ·exact .inr ⟨g, cap, cur, e, Nat.le_trans hm h2, h3⟩
theorem RowB.step {m : Nat} {w w' : World} {v : Value} {zs : List Int} {F F' : List Nat} (h : RowB m w v zs) (hs : Step F w F' w') (hF : ∀ g, v.ownBlock = some g → g ∉ F) : RowB m w' v zs := own_step h hs hF
theorem RowB.below {m : Nat} {w w' : World} {v : Value} {zs : List Int} (h : RowB m w v zs) (hb : Below w.heap.size w w') : RowB m w' v zs := RowB.step (F := []) h (Step.of_below hb (Nat.le_refl _)) (fun g _ hc => by cases hc)
theorem ownL_row {m : Nat} {w : World} {v : Value} {zs : List Int} (h : RowB m w v zs) : ∀ k ∈ ownL v, m ≤ k ∧ k < w.heap.size := fun k hk => h.own k (ownL_mem.1 hk)
theorem grew_of {w w' : World} {v v' : Value} (hg : w.grownBy w' v.ownBlock) (ha : v'.ownBlock = v.ownBlock ∨ v'.ownBlock = some w.heap.size) : Step (ownL v) w (ownL v') w' :=
 ⟨hg.os, hg.tape, hg.output, hg.size, fun k hk hn => hg.block k hk (fun e => hn (ownL_mem.2 e.symm)), fun k hk => by
  rcases ha with ha | ha
  ·exact .inl (ownL_mem.2 (ha ▸ ownL_mem.1 hk))
  ·refine .inr ?_
   have := ownL_mem.1 hk
   rw [ha] at this
   exact Nat.le_of_eq (Option.some.inj this)⟩
theorem Step.wide {F G G' : List Nat} {w w' : World} (h : Step G w G' w') (hG : ∀ k ∈ G, k ∈ F) : Step F w (F ++ G') w' :=
 ⟨h.os, h.tape, h.output, h.size, fun k hk hn => h.block k hk (fun hc => hn (hG k hc)), fun k hk => by
  rcases List.mem_append.1 hk with hk | hk
  ·exact .inl hk
  ·exact (h.fresh k hk).imp (hG k) id⟩
theorem Step.below_of {F F' : List Nat} {B : Nat} {w w' : World} (h : Step F w F' w') (hF : ∀ k ∈ F, B ≤ k) (hB : B ≤ w.heap.size) : Below B w w' :=
 ⟨h.os, h.tape, h.output, h.size, fun k hk => h.block k (Nat.lt_of_lt_of_le hk hB) (fun hc => by have := hF k hc; omega)⟩
theorem Step.after {F : List Nat} {w w1 w2 : World} {G : List Nat} (hb : Below w.heap.size w w1) (h : Step F w1 G w2) : Step F w G w2 := (Step.of_below hb (Nat.le_refl _)).trans h
theorem Step.on {F : List Nat} {w w1 w2 : World} {G : List Nat} (h : Step F w G w1) (hb : Below w1.heap.size w1 w2) : Step F w G w2 := h.trans (Step.of_below hb (Nat.le_refl _))
theorem run_append_room_str {P : Program} (w : World) (t u ty e : TypeId) (i : TypeInfo) (ht : P.underlying t = some (.slice e)) (hu : P.underlying u = some .string) (hi : P.info? e = some i) (hz : i.size = 1)
    (g sLen sCap : Nat) (cur : Array Value) (hg : w.heap[g]? = some (.cells cur e (0, 0))) (s : ByteArray) (hroom : sLen + s.size ≤ sCap) (hfit : sLen + s.size ≤ cur.size) :
    (Builtin.append_ #[t, u] ty #[.slice (some ⟨g, 0, none⟩) sLen sCap, .string s]).run P w =
      .ok (.slice (some ⟨g, 0, none⟩) (sLen + s.size) sCap) (w.setRow g (cur.toList.take sLen ++ byteCells s ++ cur.toList.drop (sLen + s.size)).toArray) := by
  have hf := (Src.ofString (P := P) w hu s).cells
  have hst := run_storeCells_at P g sLen e (byteCells s) 0 cur w hg (by simpa [byteCells_length] using hfit) (Src.ofString (P := P) w hu s).one
  simp only [Nat.add_zero, byteCells_length] at hst
  simp [Builtin.append_, run_underlying ht, run_underlying hu, sizeOf, typeInfo, hi, hz, Builtin.lenOf, hroom, hf, Addr.add_lit, hst]
theorem strUnd : Try.prog.underlying 9 = some .string := by kernel_rfl
theorem infoBy : (Try.prog.info? 5).map (fun i => (i.zero, i.size, i.bytes)) = some (some (.int .u8 0), 1, 1) := by kernel_rfl
theorem strB_ints (s : List UInt8) : byteCells ⟨s.toArray⟩ = ints .u8 (strB s) := by
 simp [byteCells, ints, strB, List.map_map]
theorem size_mk (s : List UInt8) : (⟨s.toArray⟩ : ByteArray).size = s.length := rfl
theorem RowB.appendS {m : Nat} {w : World} {v : Value} {zs : List Int} (h : RowB m w v zs) (s : List UInt8) (hn : zs.length + s.length ≤ 70368744177664) (hm : m ≤ w.heap.size) :
    ∃ v' w', (Builtin.append_ #[30, 9] 30 #[v, strT s]).run Try.prog w = .ok v' w' ∧ RowB m w' v' (zs ++ strB s) ∧ Step (ownL v) w (ownL v') w' := by
  obtain ⟨i0, hi0, hz0, hz1, hz2⟩ := info_parts infoBy
  have hB : strT s = .string ⟨s.toArray⟩ := rfl
  have hsz := size_mk s
  rw [hB]
  obtain ⟨S, hS⟩ : ∃ S : ByteArray, Hid ((⟨s.toArray⟩ : ByteArray) = S) := ⟨_, rfl⟩
  have hcells := strB_ints s
  rw [hS.out] at hsz hcells ⊢
  have hSL : (strB s).length = S.size := by rw [strB_len, hsz]
  have hlen : (ints .u8 (zs ++ strB s)).length = zs.length + S.size := by rw [ints_length, List.length_append, hSL]
  have hsrc := Src.ofString (P := Try.prog) w strUnd S
  have e0 : ints .u8 (zs ++ strB s) = ints .u8 zs ++ ints .u8 (strB s) := by simp [ints]
  have grown : ∀ (old : Nat), old < zs.length + S.size → RowB m (w.drew.alloc (.cells ((ints .u8 zs ++ byteCells S).toArray ++ Builtin.zeroCells (Value.int .u8 0).cells (grownCap w (zs.length + S.size) old 5 - (zs.length + S.size))) 5)) (.slice (some ⟨w.heap.size, 0, none⟩) (zs.length + S.size) (grownCap w (zs.length + S.size) old 5)) (zs ++ strB s) ∧ ∀ row,
      w.grownBy (w.drew.alloc (.cells ((ints .u8 zs ++ byteCells S).toArray ++ Builtin.zeroCells (Value.int .u8 0).cells (grownCap w (zs.length + S.size) old 5 - (zs.length + S.size))) 5)) row := by
    intro old ho
    have hge := grownCap_ge w (zs.length + S.size) old 5
    have hcm : grownCap w (zs.length + S.size) old 5 ≤ maxLen := grownCap_le_maxLen w _ old 5 (by unfold maxLen; omega)
    have hzl : (zs ++ strB s).length = zs.length + S.size := by rw [List.length_append, hSL]
    refine ⟨⟨by rw [hlen, hzl, Nat.mul_one], .inr ⟨w.heap.size, _, _, by rw [hzl], hm, heap_alloc_new w.drew _, by rw [hzl]; exact hge, hcm, ?_, ?_⟩⟩, fun row => ⟨rfl, rfl, rfl, by simp, fun k hk _ => heap_alloc_old w.drew _ hk⟩⟩
    · simp only [Array.size_append, List.size_toArray, size_zeroCells, List.length_append, ints_length, byteCells_length]
      rw [show (Value.int .u8 0).cells.size = 1 from rfl]
      omega
    · rw [Array.toList_append, hzl, Nat.mul_one, List.take_left' (by rw [List.length_append, ints_length, byteCells_length]), e0, hcells]
  rcases h with ⟨hl, ⟨rfl, hn0⟩ | ⟨g, cap, cur, rfl, hbg, hg, hnc, hcm, hcs, htake⟩⟩
  · obtain rfl : zs = [] := List.eq_nil_of_length_eq_zero hn0
    by_cases h0 : S.size = 0
    · have hs0 : strB s = [] := List.eq_nil_of_length_eq_zero (by omega)
      refine ⟨.slice none 0 0, w, ?_, by rw [hs0]; exact RowB.nil m w, Step.refl _ _⟩
      have hf : (Builtin.firstCells 1 0 (.string S)).run Try.prog w = .ok #[] w := by
        have := hsrc.cells
        rw [h0] at this
        have hb0 : byteCells S = [] := List.eq_nil_of_length_eq_zero (by rw [byteCells_length, h0])
        rw [this, hb0]
      simp [Builtin.append_, run_underlying Try.underlying30, run_underlying strUnd, sizeOf, typeInfo, hi0, hz1, Builtin.lenOf, h0, hf, Builtin.firstCells, loadCells, loadCellsFrom]
    · have hr := run_append_grow_src (P := Try.prog) w 30 9 30 5 i0 _ Try.underlying30 hi0 hz0 none 0 0 [] (by rw [hz1]; exact run_firstCells_none w.drew 1 0 0 0) (.string S) S.size (byteCells S) (by rw [hz1]; exact hsrc) (by omega) (by simp at hn ⊢; omega) (growslice_fits (by omega) (by rw [hz2]; simp at hn ⊢; omega))
      obtain ⟨g1, g2⟩ := grown 0 (by simp; omega)
      simp only [ints, List.map_nil, List.nil_append, List.length_nil, Nat.zero_add] at g1 g2 hr
      exact ⟨_, _, hr, g1, grew_of (g2 _) (.inr rfl)⟩
  · by_cases hroom : zs.length + S.size ≤ cap
    · have hr := run_append_room_str (P := Try.prog) w 30 9 30 5 i0 Try.underlying30 strUnd hi0 hz1 g zs.length cap cur hg S hroom (by omega)
      refine ⟨_, _, hr, ⟨by rw [hlen, List.length_append, hSL, Nat.mul_one], .inr ⟨g, cap, _, by rw [List.length_append, hSL], hbg, setRow_heap w g cur _ 5 _ hg, by rw [List.length_append, hSL]; exact hroom, hcm, ?_, ?_⟩⟩, grew_of (v := .slice (some ⟨g, 0, none⟩) zs.length cap) ⟨rfl, rfl, rfl, by simp, fun k _ hk => setRow_other w g k _ (fun e => hk (by simp [Value.ownBlock, e]))⟩ (.inl rfl)⟩
      · simp only [List.size_toArray, List.length_append, List.length_take, List.length_drop, Array.length_toList, byteCells_length]
        omega
      · rw [Nat.mul_one] at htake
        rw [List.length_append, hSL, Nat.mul_one, htake, hcells, e0]
        rw [List.take_left' (by rw [List.length_append, ints_length, ints_length, hSL])]
    · have holds : ∀ j u, (ints .u8 zs)[j]? = some u → w.cell? ((⟨g, 0, none⟩ : Addr).add j) = some u := World.ownsRow.cells (v := .slice (some ⟨g, 0, none⟩) zs.length cap) (g := g) ⟨hl, .inr ⟨g, cap, cur, rfl, hbg, hg, hnc, hcm, hcs, htake⟩⟩ rfl
      have hr := run_append_grow_src (P := Try.prog) w 30 9 30 5 i0 _ Try.underlying30 hi0 hz0 (some ⟨g, 0, none⟩) zs.length cap (ints .u8 zs) (by rw [hz1]; exact run_firstCells_some w.drew 1 zs.length _ _ _ _ (by rw [ints_length, Nat.mul_one]) (by simpa using holds)) (.string S) S.size (byteCells S) (by rw [hz1]; exact hsrc) (by omega) (by omega) (growslice_fits (by omega) (by rw [hz2]; omega))
      obtain ⟨g1, g2⟩ := grown cap (by omega)
      exact ⟨_, _, hr, g1, grew_of (g2 _) (.inr rfl)⟩
theorem RowB.append {m : Nat} {w : World} {v u : Value} {zs us : List Int} (h : RowB m w v zs) (hu : BytesIn w u us) (hnil : NilOk u) (hn : zs.length + us.length ≤ 70368744177664) (hm : m ≤ w.heap.size) :
    ∃ v' w', (Builtin.append_ #[30, 30] 30 #[v, u]).run Try.prog w = .ok v' w' ∧ RowB m w' v' (zs ++ us) ∧ Step (ownL v) w (ownL v') w' ∧ (v' = .slice none 0 0 → v = .slice none 0 0 ∧ us = []) := by
  obtain ⟨i0, hi0, hz0, hz1, hz2⟩ := info_parts infoBy
  obtain ⟨sa, c, rfl, hc, hp⟩ := hu
  cases sa with
  | none =>
    obtain ⟨h1, h2⟩ := hnil
    subst h2
    obtain rfl : us = [] := List.eq_nil_of_length_eq_zero h1
    have hs0 := Src.ofNil (P := Try.prog) w (size := 1) (tx := 30) Try.underlying30 0
    rcases id h with ⟨hl, ⟨rfl, hn0⟩ | ⟨g, cap, cur, rfl, hbg, hg, hnc, hcm, hcs, htake⟩⟩
    · refine ⟨.slice none 0 0, w, ?_, by rw [List.append_nil]; exact h, Step.refl _ _, fun _ => ⟨rfl, rfl⟩⟩
      simp [Builtin.append_, run_underlying Try.underlying30, sizeOf, typeInfo, hi0, hz1, Builtin.lenOf, Builtin.firstCells, loadCells, loadCellsFrom]
    · have hr := run_append_room_src (P := Try.prog) w 30 30 30 5 i0 Try.underlying30 hi0 g 0 zs.length cap (.slice none 0 0) 0 [] (by rw [hz1]; exact hs0) (by omega) (fun j hj => by simp at hj) (fun j hj => by simp at hj)
      exact ⟨_, _, hr, by rw [List.append_nil]; exact h, Step.refl _ _, fun e => by cases e⟩
  | some ad =>
    obtain ⟨v', w', e1, e2, e3, e4, e5⟩ := run_append_own_at w m 30 30 5 i0 _ 1 1 Try.underlying30 hi0 hz0 hz1 hz2 (by rfl) (by decide) v zs.length (ints .u8 zs) h ad us.length c (ints .u8 us) (by rw [ints_length, Nat.mul_one]) (fun j u hj => by
      have hl : j < us.length := by have := (List.getElem?_eq_some_iff.1 hj).1; rwa [ints_length] at this
      obtain ⟨pb, po, e, _, hr⟩ := hp (by omega)
      obtain rfl := Option.some.inj e
      rw [Addr.add_mid]
      exact hr j u hj) (ints_one _ _) (by unfold maxLen; omega) (by omega) hm
    refine ⟨v', w', e1, ?_, grew_of e3 e5, fun hv => ⟨(e4.1 hv).1, List.eq_nil_of_length_eq_zero (e4.1 hv).2⟩⟩
    unfold RowB
    rw [List.length_append]
    simpa [ints] using e2
section
variable {ops : Array Oper} {Q : Exit → Act → World → Prop} {S : World → Prop} {fuel : Nat} {listed : Array Bool} {a : Act} {w : World}
theorem lin_byte1 (i : Nat) (d1 d2 : Option Tmp) (x : Int) (v : Value) (zs : List Int) (m : Nat) (h : RowB m w v zs) (hn : zs.length + 1 ≤ 70368744177664) (hm : m ≤ w.heap.size)
    (hi : (ops[i]?.isSome && Region.wanted (opAt ops i) (yielded ops a.tmps)) = true) (hd : (opAt ops i).dst = d1) (hr1 : execOp a.eval (opAt ops i) = (Instr.buildSlice 30 1 #[(0, .int .u8 x)] >>= fun x => pure (.value x)))
    (hk : ∀ q : Nat, (ops[i + 1]?.isSome && Region.wanted (opAt ops (i + 1)) (yielded ops (a.put d1 (.slice (some ⟨q, 0, none⟩) 1 1)).tmps)) = true) (hd2 : (opAt ops (i + 1)).dst = d2)
    (hr2 : ∀ q : Nat, execOp (a.put d1 (.slice (some ⟨q, 0, none⟩) 1 1)).eval (opAt ops (i + 1)) = (Builtin.append_ #[30, 30] 30 #[v, .slice (some ⟨q, 0, none⟩) 1 1] >>= fun x => pure (.value x)))
    (hq : ∀ (q : Nat) v' w', RowB m w' v' (zs ++ [x]) → Step (ownL v) w (ownL v') w' → wpFrom Try.prog ops Q (i + 1 + 1) ((a.put d1 (.slice (some ⟨q, 0, none⟩) 1 1)).put d2 v') w') : wpFrom Try.prog ops Q i a w := by
  have hb : Below w.heap.size w (w.alloc (.cells (ints .u8 [x]).toArray 5)) := (Below.refl _ _).alloc (Nat.le_refl _) _
  refine lin_value i (.slice (some ⟨w.heap.size, 0, none⟩) 1 1) d1 (w.alloc (.cells (ints .u8 [x]).toArray 5)) hi hd (exec_of _ _ hr1 (by kernel_rfl)) ?_
  obtain ⟨v', w', e1, e2, e3, -⟩ := (h.below hb).append (bytes_blk (Blk.new w 5 (ints .u8 [x])) rfl) trivial (by simpa using hn) (Nat.le_trans hm hb.size)
  exact lin_value (i + 1) v' d2 w' (hk _) hd2 (exec_of _ _ (hr2 _) e1) (hq _ v' w' e2 (Step.after hb e3))
theorem lin_app (i : Nat) (d : Option Tmp) (v u : Value) (zs us : List Int) (m : Nat) (h : RowB m w v zs) (hu : BytesIn w u us) (hnil : NilOk u) (hn : zs.length + us.length ≤ 70368744177664) (hm : m ≤ w.heap.size)
    (hi : (ops[i]?.isSome && Region.wanted (opAt ops i) (yielded ops a.tmps)) = true) (hd : (opAt ops i).dst = d) (hr : execOp a.eval (opAt ops i) = (Builtin.append_ #[30, 30] 30 #[v, u] >>= fun x => pure (.value x)))
    (hq : ∀ v' w', RowB m w' v' (zs ++ us) → Step (ownL v) w (ownL v') w' → wpFrom Try.prog ops Q (i + 1) (a.put d v') w') : wpFrom Try.prog ops Q i a w := by
  obtain ⟨v', w', e1, e2, e3, -⟩ := h.append hu hnil hn hm
  exact lin_value i v' d w' hi hd (exec_of _ _ hr e1) (hq v' w' e2 e3)
theorem lin_appS (i : Nat) (d : Option Tmp) (v : Value) (zs : List Int) (s : List UInt8) (m : Nat) (h : RowB m w v zs) (hn : zs.length + s.length ≤ 70368744177664) (hm : m ≤ w.heap.size)
    (hi : (ops[i]?.isSome && Region.wanted (opAt ops i) (yielded ops a.tmps)) = true) (hd : (opAt ops i).dst = d) (hr : execOp a.eval (opAt ops i) = (Builtin.append_ #[30, 9] 30 #[v, strT s] >>= fun x => pure (.value x)))
    (hq : ∀ v' w', RowB m w' v' (zs ++ strB s) → Step (ownL v) w (ownL v') w' → wpFrom Try.prog ops Q (i + 1) (a.put d v') w') : wpFrom Try.prog ops Q i a w := by
  obtain ⟨v', w', e1, e2, e3⟩ := h.appendS s hn hm
  exact lin_value i v' d w' hi hd (exec_of _ _ hr e1) (hq v' w' e2 e3)
end
def Puts (m : Nat) (v : Value) (zs us : List Int) (w : World) (e : Ending) (w' : World) : Prop := ∃ v', e = .returned v' ∧ RowB m w' v' (zs ++ us) ∧ Step (ownL v) w (ownL v') w'
end Go.Proofs.Yteohjbggicchgaa
namespace Go.Proofs.Yteohjbggicchgaa
open Go Go.RowKit
set_option maxRecDepth 100000
def digS : Nat → Nat → List Int
 | 0, _ => []
 | s + 1, n => ((n / 256 ^ s % 256 : Nat) : Int) :: digS s n
def sizeN (n : Nat) : Nat := (Lib.bitLen n + 7) / 8
theorem digS_len : ∀ s n, (digS s n).length = s
 | 0, _ => rfl
 | s + 1, n => by rw [digS, List.length_cons, digS_len s n]
theorem digS_snoc : ∀ s n, digS (s + 1) n = digS s (n / 256) ++ [((n % 256 : Nat) : Int)]
 | 0, n => by simp [digS]
 | s + 1, n => by
  rw [digS, digS_snoc s n, digS, Nat.div_div_eq_div_mul, show 256 * 256 ^ s = 256 ^ (s + 1) by rw [Nat.pow_succ, Nat.mul_comm], List.cons_append]
theorem digs_S : ∀ f s n, s ≤ f → n < 256 ^ s → (n = 0 → s = 0) → (0 < s → 256 ^ (s - 1) ≤ n) → digs f n = digS s n
 | 0, s, n, hs, _, _, _ => by
  obtain rfl : s = 0 := by omega
  rfl
 | f + 1, s, n, hs, h1, h0, h2 => by
  rw [digs]
  by_cases hn : n = 0
  ·rw [if_pos hn, h0 hn, digS]
  ·rw [if_neg hn]
   match s, hs, h1, h0, h2 with
   | 0, _, h1, _, _ => simp at h1; omega
   | s + 1, hs, h1, h0, h2 =>
    rw [digS_snoc]
    have h3 := h2 (by omega)
    rw [Nat.add_sub_cancel] at h3
    rw [digs_S f s (n / 256) (by omega) (by rw [Nat.pow_succ] at h1; omega) (fun hz => ?_) (fun hp => ?_)]
    ·match s, h3 with
     | 0, _ => rfl
     | s + 1, h3 => rw [Nat.pow_succ] at h3; have := Nat.one_le_two_pow (n := 8 * s); rw [Nat.pow_mul] at this; omega
    ·match s, hp, h3 with
     | s + 1, _, h3 => rw [Nat.pow_succ] at h3; rw [Nat.add_sub_cancel]; omega
theorem sizeN_digs (n : Nat) (h : n < 2 ^ 64) : digs 8 n = digS (sizeN n) n ∧ sizeN n ≤ 8 := by
 unfold sizeN
 by_cases h0 : n = 0
 ·subst h0
  exact ⟨rfl, by decide⟩
 ·obtain ⟨a, b, c⟩ := Lib.bitLenAux_bounds 64 n h h0
  unfold Lib.bitLen
  have hL : Lib.bitLenAux 64 n ≤ 64 := Nat.le_of_not_lt fun hc => by
   have h1 : 2 ^ 64 ≤ 2 ^ (Lib.bitLenAux 64 n - 1) := Nat.pow_le_pow_right (by decide) (by omega)
   omega
  generalize Lib.bitLenAux 64 n = L at a b c hL
  refine ⟨digs_S 8 _ n (by omega) ?_ (fun h => absurd h h0) (fun _ => ?_), by omega⟩
  ·have e : (256 : Nat) ^ ((L + 7) / 8) = 2 ^ (8 * ((L + 7) / 8)) := by rw [Nat.pow_mul]
   rw [e]
   exact Nat.lt_of_lt_of_le c (Nat.pow_le_pow_right (by decide) (by omega))
  ·have e : (256 : Nat) ^ ((L + 7) / 8 - 1) = 2 ^ (8 * ((L + 7) / 8 - 1)) := by rw [Nat.pow_mul]
   rw [e]
   exact Nat.le_trans (Nat.pow_le_pow_right (by decide) (by omega)) b
theorem numB_S (n : Nat) (h : n < 2 ^ 64) : numB n = ((sizeN n : Nat) : Int) :: digS (sizeN n) n := by
 unfold numB
 rw [(sizeN_digs n h).1, digS_len]
theorem sizeN_le (n : Nat) (h : n < 2 ^ 64) : sizeN n ≤ 8 := (sizeN_digs n h).2
theorem numB_len (n : Nat) (h : n < 2 ^ 64) : (numB n).length ≤ 9 := by
 rw [numB_S n h, List.length_cons, digS_len]
 have := sizeN_le n h
 omega
theorem wrapU8 (m : Nat) : IntKind.u8.wrap (m : Int) = ((m % 256 : Nat) : Int) := by
 simp [IntKind.wrap, IntKind.bits, IntKind.signed]
theorem exec_shrC {P : Program} {a : Act} {w : World} {op : Oper} (ty ty2 : TypeId) (x y : Operand) (ho : op.op = .binOp .shr ty x y ty2) (p q : Nat) (hx : a.eval x = .int .i64 (p : Int)) (hy : a.eval y = .int .i64 (q : Int)) (hq : q ≤ 64) : (execOp a.eval op).run P w = .ok (.value (.int .i64 ((p / 2 ^ q : Nat) : Int))) w := by
 unfold execOp
 simp only [ho, hx, hy, eqGuard_shr, binOp_shr]
 rw [shift_shr_i64 _ _ _ (by omega) (by omega), Int.toNat_natCast]
 have e : (p : Int) / 2 ^ q = ((p / 2 ^ q : Nat) : Int) := by norm_cast
 rw [e]
 rfl
theorem exec_quoC {P : Program} {a : Act} {w : World} {op : Oper} (ty ty2 : TypeId) (x y : Operand) (ho : op.op = .binOp .quo ty x y ty2) (p q : Int) (hx : a.eval x = .int .i64 p) (hy : a.eval y = .int .i64 q) (hq : q ≠ 0) : (execOp a.eval op).run P w = .ok (.value (.int .i64 (IntKind.i64.wrap (p.tdiv q)))) w := by
 unfold execOp
 simp only [ho, hx, hy, eqGuard_quo, binOp_quo, Op.intDiv]
 simp [hq]
theorem ownL_nil : ownL (.slice none 0 0) = [] := rfl
set_option maxHeartbeats 4000000 in
theorem appNum_walk (n : Nat) (v : Value) (zs : List Int) (m : Nat) (w : World) (hr : RowB m w v zs) (hm : m ≤ w.heap.size) (hb : zs.length ≤ 70000000000000) (hn : n < 9223372036854775808) : Calls Try.prog 31 #[v, .int .i64 (n : Int)] w (Puts m v zs (numB n) w) := by
 obtain ⟨Z, hZ⟩ : ∃ Z, Hid (sizeN n = Z) := ⟨_, rfl⟩
 have Z8 : Hid (Z ≤ 8) := by have := sizeN_le n (by omega); rw [Hid]; have := hZ.out; omega
 have NB : Hid (numB n = ((Z : Nat) : Int) :: digS Z n) := by rw [Hid, numB_S n (by omega), hZ.out]
 have HL : Hid (Lib.bitLen n ≤ 64 ∧ (Lib.bitLen n + 7) / 8 = Z) := by have := hZ.out; have := Z8.out; unfold sizeN at *; rw [Hid]; omega
 have RB0 := Lib.hid hr
 have HM := Lib.hid hm
 have HB := Lib.hid hb
 clear hr hm hb
 go_enter Try.func31, Try.ntmps31
 go_upto_region 0 with (fail)
 refine lbeg (opsOf Try.f31 0) ?_
 refine lnow 0 (.slice none 0 0) (some 4) ?_
 refine ldn 1 ?_
 generalize hact : Act.put _ (some 4) _ = act
 simp only [Act.put, sA, sC, sZ] at hact
 subst hact
 go_upto_region 1 with (fail)
 refine lbeg (opsOf Try.f31 1) ?_
 refine lnow 0 (.int .i64 (n : Int)) (some 7) ?_
 have e64 : IntKind.u64.wrap (n : Int) = (n : Int) := by rw [IntKind.wrap]; simp [IntKind.bits, IntKind.signed]; omega
 refine lnow 1 (.int .u64 (IntKind.u64.wrap (n : Int))) (some 8) ?_
 rw [e64]
 clear e64
 refine lcal 2 60 #[.int .u64 (n : Int)] (some 9) _ (Try.bits_Len (n : Int) w (by omega) (by omega)) ?_
 rintro e w' ⟨rfl, hw'⟩
 obtain rfl := hw'.symm
 rw [Int.toNat_natCast]
 refine ⟨_, rfl, ?_⟩
 obtain ⟨L, hL⟩ : ∃ L, Hid (Lib.bitLen n = L) := ⟨_, rfl⟩
 rw [hL.out] at HL ⊢
 refine lnow 3 (.int .i64 (IntKind.i64.wrap ((L : Int) + 7))) (some 10) ?_
 rw [show IntKind.i64.wrap ((L : Int) + 7) = (L : Int) + 7 from IntWalk.i64_in _ (by have := HL.out; omega)]
 refine lnowP 4 (.int .i64 (IntKind.i64.wrap (((L : Int) + 7).tdiv 8))) (some 11) (exec_quoC 3 3 (.tmp 10) (.const (.int .i64 8)) (by kernel_rfl) ((L : Int) + 7) 8 (by kernel_rfl) (by kernel_rfl) (by decide)) ?_
 rw [show IntKind.i64.wrap (((L : Int) + 7).tdiv 8) = (Z : Int) by rw [Int.tdiv_eq_ediv_of_nonneg (by omega), IntWalk.i64_in _ (by have := HL.out; omega)]; have := HL.out; omega]
 refine lnow 5 (.int .i64 (Z : Int)) (some 5) ?_
 refine ldn 6 ?_
 generalize hact : Act.put _ (some 5) _ = act
 simp only [Act.put, sA, sC, sZ] at hact
 subst hact
 go_upto_region 2 with (fail)
 refine lbeg (opsOf Try.f31 2) ?_
 refine lnow 0 (v) (some 12) ?_
 refine lnow 1 (.int .i64 (Z : Int)) (some 13) ?_
 refine lnow 2 (.int .u8 (IntKind.u8.wrap (Z : Int))) (some 14) ?_
 rw [show IntKind.u8.wrap (Z : Int) = (Z : Int) by rw [wrapU8]; have := Z8.out; omega]
 refine lin_byte1 3 (some 15) (some 16) ((Z : Int)) (v) (zs) (m) RB0.out (by have := HB.out; omega) (HM.out) (by kernel_rfl) (by kernel_rfl) (by kernel_rfl) (fun _ => by kernel_rfl) (by kernel_rfl) (fun _ => by kernel_rfl) ?_
 intro q1 v1 w1 rw1 sw1
 refine lnow 5 (v1) (some 0) ?_
 refine ldn 6 ?_
 generalize hact : Act.put _ (some 0) _ = act
 simp only [Act.put, sA, sC, sZ] at hact
 subst hact
 have RB := Lib.hid rw1
 have ST := Lib.hid sw1
 clear rw1 sw1
 go_upto_region 3 with (fail)
 refine lbeg (opsOf Try.f31 3) ?_
 refine lnow 0 (.int .i64 (Z : Int)) (some 17) ?_
 refine lnow 1 (.int .i64 (IntKind.i64.wrap ((Z : Int) - 1))) (some 18) ?_
 rw [show IntKind.i64.wrap ((Z : Int) - 1) = (Z : Int) - 1 from IntWalk.i64_in _ (by have := Z8.out; omega)]
 refine lnow 2 (.int .i64 ((Z : Int) - 1)) (some 6) ?_
 refine ldn 3 ?_
 generalize hact : Act.put _ (some 6) _ = act
 simp only [Act.put, sA, sC, sZ] at hact
 subst hact
 go_wp2
 go_loopw [0, 6] (fun vv iv wr => ∃ (i : Nat) (v' : Value) (pre : List Int), i ≤ Z ∧ iv = .int .i64 ((i : Int) - 1) ∧ v' = vv ∧ Hid (RowB m wr v' (zs ++ [(Z : Int)] ++ pre)) ∧ Hid (pre ++ digS i n = digS Z n) ∧ Hid (Step (ownL v) w (ownL v') wr)) (fun _ iv _ => (intOf iv + 1).toNat)
 case atStart => exact ⟨Z, _, [], Nat.le_refl _, rfl, rfl, by rw [List.append_nil]; exact RB, rfl, ST⟩
 case round =>
  obtain ⟨i, v', pre, hi, rfl, rfl, RB, PR, ST⟩ := hrel
  rcases Nat.eq_zero_or_pos i with rfl | hp
  ·skip
   have c1 : ¬ ((((0 : Nat) : Int) - 1) ≥ 0) := by omega
   go_upto_region 4 with (fail)
   refine lbeg (opsOf Try.f31 4) ?_
   refine lnow 0 (.int .i64 (((0 : Nat) : Int) - 1)) (some 19) ?_
   refine lnow 1 (.bool (decide ((((0 : Nat) : Int) - 1) ≥ 0))) (some 20) ?_
   rw [decide_eq_false c1]
   refine ldn 2 ?_
   generalize hact : Act.put _ (some 20) _ = act
   simp only [Act.put, sA, sC, sZ] at hact
   subst hact
   go_upto_region 7 with (fail)
   refine lbeg (opsOf Try.f31 7) ?_
   refine lnow 0 (v') (some 31) ?_
   refine lnow 1 (v') (some 4) ?_
   refine ldn 2 ?_
   generalize hact : Act.put _ (some 4) _ = act
   simp only [Act.put, sA, sC, sZ] at hact
   subst hact
   go_wp2
   go_ret
   refine ⟨v', rfl, ?_, ST.out⟩
   have e : zs ++ numB n = zs ++ [(Z : Int)] ++ pre := by
    have := PR.out
    rw [digS, List.append_nil] at this
    rw [NB.out, this, List.append_assoc]
    rfl
   rw [e]
   exact RB.out
  obtain ⟨j, rfl⟩ : ∃ j, i = j + 1 := ⟨i - 1, by omega⟩
  have ej : ((j + 1 : Nat) : Int) - 1 = (j : Int) := by omega
  rw [ej]
  have c1 : (j : Int) ≥ 0 := by omega
  have Z9 := Z8.out
  go_upto_region 4 with (fail)
  refine lbeg (opsOf Try.f31 4) ?_
  refine lnow 0 (.int .i64 (j : Int)) (some 19) ?_
  refine lnow 1 (.bool (decide ((j : Int) ≥ 0))) (some 20) ?_
  rw [decide_eq_true c1]
  refine ldn 2 ?_
  generalize hact : Act.put _ (some 20) _ = act
  simp only [Act.put, sA, sC, sZ] at hact
  subst hact
  go_upto_region 6 with (fail)
  refine lbeg (opsOf Try.f31 6) ?_
  refine lnow 0 (v') (some 23) ?_
  refine lnow 1 (.int .i64 (n : Int)) (some 24) ?_
  refine lnow 2 (.int .i64 (j : Int)) (some 25) ?_
  refine lnow 3 (.int .i64 (IntKind.i64.wrap (8 * (j : Int)))) (some 26) ?_
  rw [show IntKind.i64.wrap (8 * (j : Int)) = ((8 * j : Nat) : Int) by rw [IntWalk.i64_in _ (by omega)]; omega]
  refine lnowP 4 (.int .i64 ((n / 2 ^ (8 * j) : Nat) : Int)) (some 27) (exec_shrC 3 3 (.tmp 24) (.tmp 26) (by kernel_rfl) n (8 * j) (by kernel_rfl) (by kernel_rfl) (by omega)) ?_
  refine lnow 5 (.int .u8 (IntKind.u8.wrap ((n / 2 ^ (8 * j) : Nat) : Int))) (some 28) ?_
  rw [show IntKind.u8.wrap ((n / 2 ^ (8 * j) : Nat) : Int) = ((n / 256 ^ j % 256 : Nat) : Int) by rw [wrapU8, Nat.pow_mul]]
  have PL : Hid (pre.length ≤ 8) := by have := congrArg List.length PR.out; rw [List.length_append, digS_len, digS_len] at this; rw [Hid]; omega
  refine lin_byte1 6 (some 29) (some 30) (((n / 256 ^ j % 256 : Nat) : Int)) (v') (zs ++ [(Z : Int)] ++ pre) (m) RB.out (by have := HB.out; have := PL.out; simp only [List.length_append, List.length_cons, List.length_nil]; omega) (Nat.le_trans HM.out ST.out.size) (by kernel_rfl) (by kernel_rfl) (by kernel_rfl) (fun _ => by kernel_rfl) (by kernel_rfl) (fun _ => by kernel_rfl) ?_
  intro q2 v2 w2 rw2 sw2
  refine lnow 8 (v2) (some 0) ?_
  refine ldn 9 ?_
  generalize hact : Act.put _ (some 0) _ = act
  simp only [Act.put, sA, sC, sZ] at hact
  subst hact
  have RB2 : Hid (RowB m w2 v2 (zs ++ [(Z : Int)] ++ (pre ++ [((n / 256 ^ j % 256 : Nat) : Int)]))) := by rw [Hid, ← List.append_assoc]; exact rw2
  have ST2 : Hid (Step (ownL v) w (ownL v2) w2) := ST.out.trans sw2
  have PR2 : Hid ((pre ++ [((n / 256 ^ j % 256 : Nat) : Int)]) ++ digS j n = digS Z n) := by rw [Hid, List.append_assoc, ← PR.out]; rfl
  clear rw2 sw2
  go_upto_region 5 with (fail)
  refine lbeg (opsOf Try.f31 5) ?_
  refine lnow 0 (.int .i64 (j : Int)) (some 21) ?_
  refine lnow 1 (.int .i64 (IntKind.i64.wrap ((j : Int) - 1))) (some 22) ?_
  rw [show IntKind.i64.wrap ((j : Int) - 1) = (j : Int) - 1 from IntWalk.i64_in _ (by omega)]
  refine lnow 2 (.int .i64 ((j : Int) - 1)) (some 6) ?_
  refine ldn 3 ?_
  generalize hact : Act.put _ (some 6) _ = act
  simp only [Act.put, sA, sC, sZ] at hact
  subst hact
  clear ej
  go_wp2
  go_roundw
  case rel => exact ⟨j, v2, _, by omega, rfl, rfl, RB2, PR2, ST2⟩
  case measure => simp [intOf]
set_option maxHeartbeats 4000000 in
theorem appText_walk (s : List UInt8) (v : Value) (zs : List Int) (m : Nat) (w : World) (hr : RowB m w v zs) (hm : m ≤ w.heap.size) (hb : zs.length + s.length ≤ 70000000000000) : Calls Try.prog 64 #[v, strT s] w (Puts m v zs (textB s) w) := by
 have RB0 := Lib.hid hr
 have HM := Lib.hid hm
 have HB := Lib.hid hb
 clear hr hm hb
 go_enter Try.func64, Try.ntmps64
 go_upto_region 0 with (fail)
 refine lbeg (opsOf Try.f64 0) ?_
 refine lnow 0 (.slice none 0 0) (some 4) ?_
 refine ldn 1 ?_
 generalize hact : Act.put _ (some 4) _ = act
 simp only [Act.put, sA, sC, sZ] at hact
 subst hact
 go_upto_region 1 with (fail)
 refine lbeg (opsOf Try.f64 1) ?_
 refine lnow 0 (v) (some 5) ?_
 refine lnow 1 (strT s) (some 6) ?_
 refine lnow 2 (.int .i64 (s.length : Int)) (some 7) ?_
 refine lcal 3 31 #[v, .int .i64 (s.length : Int)] (some 8) _ (appNum_walk s.length v zs m w RB0.out HM.out (by have := HB.out; omega) (by have := HB.out; omega)) ?_
 rintro e w1 ⟨v1, rfl, hr1, hs1⟩
 refine ⟨_, rfl, ?_⟩
 have NL := numB_len s.length (by have := HB.out; omega)
 refine lnow 4 (strT s) (some 9) ?_
 refine lin_appS 5 (some 10) v1 (zs ++ numB s.length) s m hr1 (by have := HB.out; rw [List.length_append]; omega) (Nat.le_trans HM.out hs1.size) (by kernel_rfl) (by kernel_rfl) (by kernel_rfl) ?_
 intro v2 w2 hr2 hs2
 refine lnow 6 (v2) (some 4) ?_
 refine ldn 7 ?_
 generalize hact : Act.put _ (some 4) _ = act
 simp only [Act.put, sA, sC, sZ] at hact
 subst hact
 have R2 := Lib.hid hr2
 have S2 := Lib.hid (hs1.trans hs2)
 clear hr1 hs1 hr2 hs2
 go_wp2
 go_ret
 exact ⟨v2, rfl, by unfold textB; rw [← List.append_assoc]; exact R2.out, S2.out⟩
end Go.Proofs.Yteohjbggicchgaa
namespace Go.Proofs.Yteohjbggicchgaa
open Go Go.RowKit
set_option maxRecDepth 100000
theorem wrapI8 (z : Int) : IntKind.u8.wrap z = z % 256 := by
 simp [IntKind.wrap, IntKind.bits, IntKind.signed]
def plusB (l : Lv) : List Int := l.p.map fun x => (x + 1) % 256
theorem plusB_take {l : Lv} (hl : l.p.length = 4) {i : Nat} (hi : i < 4) : (plusB l).take (i + 1) = (plusB l).take i ++ [(l.p.getD i 0 + 1) % 256] := by
 rw [List.take_add_one]
 have : (plusB l)[i]? = some ((l.p.getD i 0 + 1) % 256) := by
  unfold plusB
  rw [List.getElem?_map, List.getElem?_eq_getElem (by omega), List.getD_eq_getElem?_getD, List.getElem?_eq_getElem (by omega)]
  rfl
 rw [this]
 rfl
theorem plusB_len {l : Lv} (hl : l.p.length = 4) : (plusB l).length = 4 := by simp [plusB, hl]
theorem levelB_eq (l : Lv) : levelB l = [l.b % 256] ++ plusB l := rfl
theorem right_rng {l : Lv} (hl : l.p.length = 4) (h : rightL l = true) {i : Nat} (hi : i < 4) : -1 ≤ l.p.getD i 0 ∧ l.p.getD i 0 ≤ 100 := by
 have h1 := right_at h (i := i) (by omega)
 have h2 := right_b h
 omega
set_option maxHeartbeats 4000000 in
theorem appLevel_walk (l : Lv) (hl : l.p.length = 4) (hright : rightL l = true) (v : Value) (zs : List Int) (m : Nat) (w : World) (hr : RowB m w v zs) (hm : m ≤ w.heap.size) (hb : zs.length ≤ 70000000000000) : Calls Try.prog 65 #[v, .agg (ints .i64 l.zs).toArray] w (Puts m v zs (levelB l) w) := by
 obtain ⟨q, hq⟩ : ∃ q, Hid (w.heap.size = q) := ⟨_, rfl⟩
 have RB0 := Lib.hid hr
 have HM := Lib.hid hm
 have HB := Lib.hid hb
 have HL := Lib.hid hl
 have HR := Lib.hid hright
 have NQ : Hid (q ∉ ownL v) := fun hc => by have := (ownL_row RB0.out q hc).2; have := hq.out; omega
 clear hr hm hb hl hright
 go_enter Try.func65, Try.ntmps65
 go_upto_region 0 with (fail)
 refine lbeg (opsOf Try.f65 0) ?_
 refine lbox 0 80 (.tmp 1) (ints .i64 l.zs) q (some 3) hq ?_
 intro w1 b1 be1 hs1
 refine lnow 1 (.slice none 0 0) (some 4) ?_
 refine ldn 2 ?_
 generalize hact : Act.put _ (some 4) _ = act
 simp only [Act.put, sA, sC, sZ] at hact
 subst hact
 have BQ := Lib.hid b1
 have BE : Hid (Below w.heap.size w w1) := by rw [Hid, hq.out]; exact be1
 have S1 : Hid (q + 1 ≤ w1.heap.size) := Nat.le_of_eq hs1.out.symm
 have RB1 : Hid (RowB m w1 v zs) := RB0.out.below BE.out
 have M1 : Hid (m ≤ w1.heap.size) := Nat.le_trans HM.out BE.out.size
 clear b1 be1 hs1 RB0
 go_upto_region 1 with (fail)
 refine lbeg (opsOf Try.f65 1) ?_
 refine lnow 0 (v) (some 7) ?_
 refine lnow 1 (.pointer (some ⟨q, 0, none⟩)) (some 8) ?_
 refine lcl 2 (.int .i64 l.b) (some 9) 3 8 (q) 0 ((Blk.base BQ.out)) Try.underlying3 ?_
 refine lnow 3 (.int .u8 (IntKind.u8.wrap l.b)) (some 10) ?_
 rw [wrapI8]
 refine lin_byte1 4 (some 11) (some 12) (l.b % 256) (v) (zs) (m) RB1.out (by have := HB.out; omega) (M1.out) (by kernel_rfl) (by kernel_rfl) (by kernel_rfl) (fun _ => by kernel_rfl) (by kernel_rfl) (fun _ => by kernel_rfl) ?_
 intro q2 v2 w2 rw2 sw2
 refine lnow 6 (v2) (some 0) ?_
 refine ldn 7 ?_
 generalize hact : Act.put _ (some 0) _ = act
 simp only [Act.put, sA, sC, sZ] at hact
 subst hact
 have RB := Lib.hid rw2
 have ST := Lib.hid sw2
 clear rw2 sw2
 go_upto_region 2 with (fail)
 refine lbeg (opsOf Try.f65 2) ?_
 refine lnow 0 (.pointer (some ⟨q, 1, none⟩)) (some 13) ?_
 have BQ2 : Hid (Blk w2 q 80 (ints .i64 l.zs)) := ST.out.blk BQ.out NQ.out
 refine lrl 1 (ints .i64 l.p) (some 14) 78 13 q 1 (Blk.plus BQ2.out) Try.underlying78 (p4Size HL.out) ?_
 refine lnow 2 (.int .i64 0) (some 15) ?_
 refine ldn 3 ?_
 generalize hact : Act.put _ (some 15) _ = act
 simp only [Act.put, sA, sC, sZ] at hact
 subst hact
 clear BQ2
 go_wp2
 go_loopw [0, 15] (fun vv iv wr => ∃ (i : Nat) (v' : Value), i ≤ 4 ∧ iv = .int .i64 (i : Int) ∧ v' = vv ∧ Hid (RowB m wr v' (zs ++ ([l.b % 256] ++ (plusB l).take i))) ∧ Hid (Step (ownL v) w1 (ownL v') wr)) (fun _ iv _ => 4 - (intOf iv).toNat)
 case atStart => exact ⟨0, _, by omega, rfl, rfl, by rw [List.take_zero, List.append_nil]; exact RB, ST⟩
 case round =>
  obtain ⟨i, v', hi, rfl, rfl, RB, ST⟩ := hrel
  by_cases hlt : i < 4
  rotate_left
  ·skip
   obtain rfl : i = 4 := by omega
   have c1 : ¬ (((4 : Nat) : Int) < 4) := by omega
   go_upto_region 3 with (fail)
   refine lbeg (opsOf Try.f65 3) ?_
   refine lnow 0 (.bool (decide (((4 : Nat) : Int) < 4))) (some 16) ?_
   rw [decide_eq_false c1]
   refine ldn 1 ?_
   generalize hact : Act.put _ (some 16) _ = act
   simp only [Act.put, sA, sC, sZ] at hact
   subst hact
   go_upto_region 7 with (fail)
   refine lbeg (opsOf Try.f65 7) ?_
   refine lnow 0 (v') (some 25) ?_
   refine lnow 1 (v') (some 4) ?_
   refine ldn 2 ?_
   generalize hact : Act.put _ (some 4) _ = act
   simp only [Act.put, sA, sC, sZ] at hact
   subst hact
   have PT : Hid ((plusB l).take 4 = plusB l) := List.take_of_length_le (by rw [plusB_len HL.out]; omega)
   go_wp2
   go_ret
   refine ⟨v', rfl, ?_, Step.after BE.out ST.out⟩
   have := RB.out
   rw [PT.out, ← levelB_eq] at this
   exact this
  have c1 : (i : Int) < 4 := by omega
  go_upto_region 3 with (fail)
  refine lbeg (opsOf Try.f65 3) ?_
  refine lnow 0 (.bool (decide ((i : Int) < 4))) (some 16) ?_
  rw [decide_eq_true c1]
  refine ldn 1 ?_
  generalize hact : Act.put _ (some 16) _ = act
  simp only [Act.put, sA, sC, sZ] at hact
  subst hact
  obtain ⟨x, hx⟩ : ∃ x, Hid (l.p.getD i 0 = x) := ⟨_, rfl⟩
  have RX : Hid (-1 ≤ x ∧ x ≤ 100) := by have := right_rng HL.out HR.out hlt; rw [hx.out] at this; exact this
  have TK : Hid ((plusB l).take (i + 1) = (plusB l).take i ++ [(x + 1) % 256]) := by rw [Hid, plusB_take HL.out hlt, hx.out]
  go_upto_region 4 with (fail)
  refine lbeg (opsOf Try.f65 4) ?_
  refine lnowP 0 (.int .i64 (l.p.getD i 0)) (some 17) (exec_index 78 3 (.tmp 14) (.tmp 15) (by kernel_rfl) 4 .i64 Try.underlying78 Try.underlying3 (by kernel_rfl) l.p HL.out (by kernel_rfl) i (by kernel_rfl) hlt) ?_
  rw [hx.out]
  refine lnow 1 (.int .i64 x) (some 6) ?_
  refine ldn 2 ?_
  generalize hact : Act.put _ (some 6) _ = act
  simp only [Act.put, sA, sC, sZ] at hact
  subst hact
  go_upto_region 5 with (fail)
  refine lbeg (opsOf Try.f65 5) ?_
  refine lnow 0 (v') (some 18) ?_
  refine lnow 1 (.int .i64 x) (some 19) ?_
  refine lnow 2 (.int .i64 (IntKind.i64.wrap (x + 1))) (some 20) ?_
  rw [show IntKind.i64.wrap (x + 1) = x + 1 from IntWalk.i64_in _ (by have := RX.out; omega)]
  refine lnow 3 (.int .u8 (IntKind.u8.wrap (x + 1))) (some 21) ?_
  rw [wrapI8]
  refine lin_byte1 4 (some 22) (some 23) ((x + 1) % 256) (v') (zs ++ ([l.b % 256] ++ (plusB l).take i)) (m) RB.out (by have := HB.out; simp only [List.length_append, List.length_cons, List.length_nil, List.length_take]; omega) (Nat.le_trans M1.out ST.out.size) (by kernel_rfl) (by kernel_rfl) (by kernel_rfl) (fun _ => by kernel_rfl) (by kernel_rfl) (fun _ => by kernel_rfl) ?_
  intro q3 v3 w3 rw3 sw3
  refine lnow 6 (v3) (some 0) ?_
  refine ldn 7 ?_
  generalize hact : Act.put _ (some 0) _ = act
  simp only [Act.put, sA, sC, sZ] at hact
  subst hact
  have RB3 : Hid (RowB m w3 v3 (zs ++ ([l.b % 256] ++ (plusB l).take (i + 1)))) := by rw [Hid, TK.out, ← List.append_assoc, ← List.append_assoc]; rw [← List.append_assoc] at rw3; exact rw3
  have ST3 := Lib.hid (ST.out.trans sw3)
  clear rw3 sw3 TK
  go_wp2
  go_roundw
  case rel => exact ⟨i + 1, v3, by omega, by go_num, rfl, RB3, ST3⟩
  case measure => simp [intOf]; omega
end Go.Proofs.Yteohjbggicchgaa
