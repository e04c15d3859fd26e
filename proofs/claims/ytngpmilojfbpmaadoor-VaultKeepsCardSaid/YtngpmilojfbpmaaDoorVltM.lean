/- Maps whose keys are digests: laws on the model's map, in the words of lists of keys and of values. -/
import Derived.Test.YtngpmilojfbpmaaDoorSealE
import Derived.Maps.OwnSet
import Derived.Maps.RangeRun
import Derived.DeepKeys5
import Derived.Test.YtngpmilojfbpmaaDoorAreaH
import Derived.Lib.AppendZeros
import Derived.Laws.Cover3
namespace Go.Proofs.YtngpmilojfbpmaaDoor
open Go Go.RowKit Go.ChangeMaps Go.MapKept
open Go.Maps (Keyed)
set_option maxRecDepth 100000

def kval (k : List Int) : Value := .agg (ints .u8 k).toArray
def goodK (k : List Int) : Prop := k.length = 32 ∧ isBytes k
theorem kval_inj {a b : List Int} (h : kval a = kval b) : a = b := by
  unfold kval at h
  have h1 : ints .u8 a = ints .u8 b := by simpa using h
  exact (List.map_inj_right (fun x y hxy => by cases hxy; rfl)).1 h1
theorem laidOutV : laidOutB Tryd.prog = true := by kernel_rfl
theorem digKeyed : Keyed Tryd.prog 35 := Keyed.of_law (deep_law_gate laidOutV (of_decide_eq_true (by kernel_rfl)) (of_decide_eq_true (by kernel_rfl)) (by kernel_rfl) (by kernel_rfl))
theorem digUnder : Tryd.prog.underlying 35 = some (.array 32 5) := by kernel_rfl
theorem byteUnder : Tryd.prog.underlying 5 = some (.int .u8) := by kernel_rfl
theorem digCells : Tryd.prog.cellsOf 35 = 32 := by kernel_rfl
theorem byteCells : Tryd.prog.cellsOf 5 = 1 := by kernel_rfl
theorem digType : Tryd.prog.keyType 35 = true := by kernel_rfl
theorem mapM_some {α β : Type} {f : α → Option β} : ∀ (l : List α), (∀ x ∈ l, ∃ y, f x = some y) → ∃ ys, l.mapM f = some ys
  | [], _ => ⟨[], rfl⟩
  | x :: l, h => by
    obtain ⟨y, hy⟩ := h x (by simp)
    obtain ⟨ys, hys⟩ := mapM_some l (fun z hz => h z (List.mem_cons_of_mem _ hz))
    exact ⟨y :: ys, by simp [List.mapM_cons, hy, hys]⟩
theorem kval_key {k : List Int} (hk : goodK k) : ∃ l, keyOf Tryd.prog 35 (kval k) = some l := by
  have hf : (kval k).formed Tryd.prog 35 = true := by
    unfold kval Value.formed
    rw [digUnder]
    simp [ints_length, hk.1, digCells]
  have hl : ∀ D, ∃ ls, Tryd.prog.keyLits (D + 2) 35 (ints .u8 k) = some ls := fun D => by
    have hm : ∀ i ∈ List.range 32, ∃ y, Tryd.prog.keyLits (D + 1) 5 (((ints .u8 k).drop (i * Tryd.prog.cellsOf 5)).take (Tryd.prog.cellsOf 5)) = some y := fun i hi => by
      have hi2 : i < k.length := by rw [hk.1]; exact List.mem_range.1 hi
      have hb := hk.2 _ (List.getElem_mem hi2)
      refine ⟨[.int .u8 k[i]], ?_⟩
      rw [byteCells, Nat.mul_one, ints, ← List.map_drop, List.drop_eq_getElem_cons hi2]
      simp only [List.map_cons, List.take_succ_cons, List.take_zero, Program.keyLits, byteUnder]
      have hw : (Lit.int .u8 k[i]).wf = true := by
        show (decide (IntKind.u8.min ≤ k[i]) && decide (k[i] ≤ IntKind.u8.max)) = true
        rw [decide_eq_true (show IntKind.u8.min ≤ k[i] from hb.1), decide_eq_true (show k[i] ≤ IntKind.u8.max from hb.2)]
        rfl
      simp [hw]
    obtain ⟨ys, hys⟩ := mapM_some _ hm
    refine ⟨ys.flatten, ?_⟩
    unfold Program.keyLits
    rw [digUnder]
    simp only [ints_length, hk.1, digCells, if_true, hys]
    rfl
  obtain ⟨ls, h2⟩ := hl (Tryd.prog.types.size - 1)
  have hs : Tryd.prog.types.size - 1 + 2 = Tryd.prog.types.size + 1 := by kernel_rfl
  rw [hs] at h2
  refine ⟨.string (keyBytes ls), ?_⟩
  unfold keyOf
  rw [digUnder]
  simp only [digType, hf, Bool.and_self, if_true]
  have : (kval k).cells.toList = ints .u8 k := by simp [kval, Value.cells]
  rw [this, h2]
  rfl

/-- Block mb is a map with the keys ks, in order, and the values vs. -/
def Mp (w : World) (mb : Nat) (ks : List (List Int)) (vs : List Value) : Prop :=
  ∃ es clock, w.heap[mb]? = some (.map es clock) ∧ Stamped es clock ∧ es.toList.map (·.key) = ks.map kval ∧ es.toList.map (·.val) = vs ∧ ∀ k ∈ ks, goodK k
section
variable {w w' : World} {mb : Nat} {ks : List (List Int)} {vs : List Value}
theorem Mp.lt (h : Mp w mb ks vs) : mb < w.heap.size := by
  obtain ⟨es, clock, hb, _⟩ := h
  exact (Array.getElem?_eq_some_iff.1 hb).1
theorem Mp.same (h : Mp w mb ks vs) (hb : w'.heap[mb]? = w.heap[mb]?) : Mp w' mb ks vs := by
  obtain ⟨es, clock, h1, h2⟩ := h
  exact ⟨es, clock, hb.trans h1, h2⟩
theorem Mp.len (h : Mp w mb ks vs) : vs.length = ks.length := by
  obtain ⟨es, clock, _, _, h1, h2, _⟩ := h
  have e1 := congrArg List.length h1
  have e2 := congrArg List.length h2
  simp at e1 e2
  omega
theorem Mp.good (h : Mp w mb ks vs) : ∀ k ∈ ks, goodK k := by
  obtain ⟨es, clock, _, _, _, _, h1⟩ := h
  exact h1
theorem Mp.nodup (h : Mp w mb ks vs) : ks.Nodup := by
  obtain ⟨es, clock, _, h1, h2, _⟩ := h
  have h3 := h1.2.2
  rw [h2] at h3
  exact (List.pairwise_map.1 h3).imp (fun h e => h (by rw [e]))
theorem Mp.find {es : Array MapEntry} (h2 : es.toList.map (·.key) = ks.map kval) (h3 : es.toList.map (·.val) = vs) (hg : ∀ k ∈ ks, goodK k) {k : List Int} (hk : goodK k) (w : World) :
    ((Instr.findKey 35 (kval k) es.toList).run Tryd.prog w = .ok none w ∧ k ∉ ks ∧ ∀ e ∈ es.toList, e.key ≠ kval k) ∨ ∃ (j : Nat) (v : Value), (Instr.findKey 35 (kval k) es.toList).run Tryd.prog w = .ok (some (j, v)) w ∧ ks[j]? = some k ∧ vs[j]? = some v := by
  obtain ⟨l, hl⟩ := kval_key hk
  have hall : ∀ e ∈ es.toList, ∃ l, keyOf Tryd.prog 35 e.key = some l := fun e he => by
    have : e.key ∈ ks.map kval := by rw [← h2]; exact List.mem_map.2 ⟨e, he, rfl⟩
    obtain ⟨k', hk', e1⟩ := List.mem_map.1 this
    rw [← e1]
    exact kval_key (hg k' hk')
  rcases digKeyed.find w hl es.toList hall with ⟨h4, h5⟩ | ⟨j, e, h4, h5, h6⟩
  · refine .inl ⟨h4, fun hc => ?_, h5⟩
    have : kval k ∈ es.toList.map (·.key) := by rw [h2]; exact List.mem_map.2 ⟨k, hc, rfl⟩
    obtain ⟨e, he, e1⟩ := List.mem_map.1 this
    exact h5 e he e1
  · refine .inr ⟨j, e.val, h4, ?_, ?_⟩
    · have e1 : (es.toList.map (·.key))[j]? = some (kval k) := by rw [List.getElem?_map, h5]; simp [h6]
      rw [h2, List.getElem?_map] at e1
      cases hkj : ks[j]? with
      | none => rw [hkj] at e1; cases e1
      | some k' => rw [hkj] at e1; rw [kval_inj (Option.some.inj e1)]
    · rw [← h3, List.getElem?_map, h5]; rfl
/-- m[k], and v, ok := m[k]. -/
theorem Mp.lookup (h : Mp w mb ks vs) {t e : TypeId} (ht : Tryd.prog.underlying t = some (.map 35 e)) {z : Value} (hz : ∀ w, (zeroValue e).run Tryd.prog w = .ok z w) {k : List Int} (hk : goodK k) (c : Bool) :
    ((Instr.lookup t (.map (some mb)) (kval k) c).run Tryd.prog w = .ok (if c then .tuple #[z, .bool false] else z) w ∧ k ∉ ks) ∨ ∃ (j : Nat) (v : Value), (Instr.lookup t (.map (some mb)) (kval k) c).run Tryd.prog w = .ok (if c then .tuple #[v, .bool true] else v) w ∧ ks[j]? = some k ∧ vs[j]? = some v := by
  obtain ⟨es, clock, hb, hs, h2, h3, hg⟩ := h
  obtain ⟨l, hl⟩ := kval_key hk
  rcases Mp.find h2 h3 hg hk w with ⟨h4, h5, -⟩ | ⟨j, v, h4, h5, h6⟩
  · exact .inl ⟨by simp [Instr.lookup, run_underlying ht, MapKept.run_getObj_map hb, digKeyed.check w _ hl, h4, hz, Result.andThen], h5⟩
  · exact .inr ⟨j, v, by simp [Instr.lookup, run_underlying ht, MapKept.run_getObj_map hb, digKeyed.check w _ hl, h4, Result.andThen], h5, h6⟩
theorem upd_setBlock {b : Nat} {o : Obj} (o' : Obj) (_hb : w.heap[b]? = some o) : Upd b w (setBlock w b o') := by
  refine ⟨rfl, rfl, rfl, by simp [setBlock], fun k _ hne => ?_⟩
  simp [setBlock, Ne.symm hne]
/-- m[k] = v, a new key. -/
theorem Mp.update (h : Mp w mb ks vs) {t e : TypeId} (ht : Tryd.prog.underlying t = some (.map 35 e)) {k : List Int} (hk : goodK k) (hn : k ∉ ks) (v : Value) :
    ∃ w', (Instr.mapUpdate t (.map (some mb)) (kval k) v).run Tryd.prog w = .ok () w' ∧ Mp w' mb (ks ++ [k]) (vs ++ [v]) ∧ Upd mb w w' := by
  obtain ⟨es, clock, hb, hs, h2, h3, hg⟩ := h
  obtain ⟨l, hl⟩ := kval_key hk
  rcases Mp.find h2 h3 hg hk w with ⟨h4, h5, h6⟩ | ⟨j, v', h4, h5, h6⟩
  · refine ⟨setBlock w mb (.map (es.push ⟨kval k, v, clock⟩) (clock + 1)), by simp [Instr.mapUpdate, run_underlying ht, MapKept.run_getObj_map hb, digKeyed.check w false hl, h4, MapKept.run_setObj_map _ hb, Result.andThen, setBlock], ⟨_, _, heap_setBlock_same hb _, stamped_push hs h6, ?_, ?_, ?_⟩, upd_setBlock _ hb⟩
    · simp [h2]
    · simp [h3]
    · intro k' hk'
      rcases List.mem_append.1 hk' with h | h
      · exact hg k' h
      · obtain rfl : k' = k := by simpa using h
        exact hk
  · exact absurd (List.mem_of_getElem? h5) hn
/-- m[k] = v, a key that is there with just this value. -/
theorem Mp.update_same (h : Mp w mb ks vs) {t e : TypeId} (ht : Tryd.prog.underlying t = some (.map 35 e)) {k : List Int} (hk : goodK k) (hn : k ∈ ks) (v : Value) (hv : ∀ x ∈ vs, x = v) :
    ∃ w', (Instr.mapUpdate t (.map (some mb)) (kval k) v).run Tryd.prog w = .ok () w' ∧ Mp w' mb ks vs ∧ Upd mb w w' := by
  obtain ⟨es, clock, hb, hs, h2, h3, hg⟩ := h
  obtain ⟨l, hl⟩ := kval_key hk
  rcases Mp.find h2 h3 hg hk w with ⟨h4, h5, h6⟩ | ⟨j, v', h4, h5, h6⟩
  · exact absurd hn h5
  · have hj : ∃ e0, es.toList[j]? = some e0 := by
      rw [← h3, List.getElem?_map] at h6
      cases h7 : es.toList[j]? with
      | none => rw [h7] at h6; cases h6
      | some e0 => exact ⟨e0, rfl⟩
    obtain ⟨e0, he0⟩ := hj
    have k0 : e0.key = kval k := by
      have : (es.toList.map (·.key))[j]? = some e0.key := by rw [List.getElem?_map, he0]; rfl
      rw [h2, List.getElem?_map, h5] at this
      exact (Option.some.inj this).symm
    have v0 : e0.val = v := hv _ (by rw [← h3]; exact List.mem_map.2 ⟨e0, List.mem_of_getElem? he0, rfl⟩)
    have hja : es[j]? = some e0 := by simpa using he0
    have hsame : (es.modify j (fun e' => { e' with key := kval k, val := v })) = es := by
      apply Array.ext'
      rw [Array.toList_modify]
      apply List.ext_getElem?
      intro i
      rw [List.getElem?_modify]
      by_cases hij : j = i
      · subst hij
        rw [he0]
        simp [← k0, ← v0]
      · simp [hij]
    refine ⟨setBlock w mb (.map es clock), ?_, ⟨es, clock, heap_setBlock_same hb _, hs, h2, h3, hg⟩, upd_setBlock _ hb⟩
    simp [Instr.mapUpdate, run_underlying ht, MapKept.run_getObj_map hb, digKeyed.check w false hl, h4, hja, k0, digKeyed.stays w hl, MapKept.run_setObj_map _ hb, Result.andThen, setBlock]
    rw [hsame]
end
end Go.Proofs.YtngpmilojfbpmaaDoor
/- Package vault: bytes of entries: Grow, Concat, pack, unpack, bytes.Equal. -/
namespace Go.Proofs.YtngpmilojfbpmaaDoor
open Go Go.RowKit
set_option maxRecDepth 100000

def GrowPost (w : World) (e : Ending) (w' : World) : Prop := ∃ g cap, e = .returned (.slice (some ⟨g, 0, none⟩) 0 cap) ∧ w'.ownsRow w.heap.size 5 1 (.slice (some ⟨g, 0, none⟩) 0 cap) 0 [] ∧ Below w.heap.size w w'
theorem run_cut_zero (g n c : Nat) (hc : 0 < c) (w : World) : (Instr.sliceAt 22 (.slice (some ⟨g, 0, none⟩) n c) none (some (.int .i64 0)) none).run Tryd.prog w = .ok (.slice (some ⟨g, 0, none⟩) 0 c) w := by
  have hz : (sizeOf (Tryd.prog.elem 22)).run Tryd.prog w = .ok 1 w := by kernel_rfl
  have he : Tryd.prog.underlying 22 = some (.slice (Tryd.prog.elem 22)) := by kernel_rfl
  show (Instr.slice 22 (.slice (some ⟨g, 0, none⟩) n c) none (some (.int .i64 0)) none).run Tryd.prog w = _
  rw [run_slice_h w 22 _ _ _ he .i64 0 (by omega) (by omega), hz]
  simp only [Result.andThen_ok, sliced]
  rw [if_neg (by omega), Option.map_some, Addr.add_mid]
  rfl
set_option maxHeartbeats 1000000 in
theorem grow_walk (n : Nat) (h0 : 0 < n) (hn : n ≤ 5000) (w : World) : Calls Tryd.prog 92 #[.slice none 0 0, .int .i64 (n : Int)] w (GrowPost w) := by
  have n0 : 0 < n := h0
  have q0 : ¬ (n : Int) < 0 := by omega
  have q1 : (0 : Int) < (n : Int) := by omega
  go_enter Tryd.func92, Tryd.ntmps92
  go_upto_region 5 with (fail)
  refine lin_begin (opsOf Tryd.f92 5) (by kernel_rfl) ?_
  refine lin_now 0 (.slice none 0 0) (some 17) (by kernel_rfl) (by kernel_rfl) (by kernel_rfl) ?_
  refine lin_now 1 (.slice none 0 0) (some 18) (by kernel_rfl) (by kernel_rfl) (by kernel_rfl) ?_
  refine lin_now 2 (.int .i64 0) (some 19) (by kernel_rfl) (by kernel_rfl) (by kernel_rfl) ?_
  refine lin_now 3 (.slice none 0 0) (some 20) (by kernel_rfl) (by kernel_rfl) (by kernel_rfl) ?_
  refine lin_now 4 (.int .i64 (n : Int)) (some 21) (by kernel_rfl) (by kernel_rfl) (by kernel_rfl) ?_
  obtain ⟨i0, hi0, hz0, hz1, hz2⟩ := info_parts infoByte5
  have happ := Lib.run_append_nil_zeros (P := Tryd.prog) w 22 3 22 5 i0 (.int .u8 0) .i64 .i64 Tryd.underlying22 Tryd.underlying3 hi0 hz0 n n0 (by rw [hz1]; omega) (by omega) (by rw [hz2]; omega)
  obtain ⟨c, hc⟩ : ∃ c, Hid (grownCap w n 0 5 = c) := ⟨_, rfl⟩
  have hcn : n ≤ c := by rw [← hc.out]; exact grownCap_ge w n 0 5
  have hcm : c ≤ maxLen := by rw [← hc.out]; exact grownCap_le_maxLen w n 0 5 (by unfold maxLen; omega)
  rw [hc.out] at happ
  refine lin_value 5 (.slice (some ⟨w.heap.size, 0, none⟩) n c) (some 22) _ (by kernel_rfl) (by kernel_rfl) (exec_of (Builtin.append_ #[22, 3] 22 #[.slice none 0 0, .int .i64 (n : Int)]) _ (by kernel_rfl) happ) ?_
  have O1 : Hid ((w.drew.alloc (.cells (Builtin.zeroCells (Value.int .u8 0).cells n ++ Builtin.zeroCells (Value.int .u8 0).cells (c - n)) 5)).ownsRow w.heap.size 5 1 (.slice (some ⟨w.heap.size, 0, none⟩) 0 c) 0 []) := ⟨rfl, .inr ⟨w.heap.size, c, _, rfl, Nat.le_refl _, heap_alloc_last w.drew _, Nat.zero_le _, hcm, by rw [Array.size_append, size_zeroCells, size_zeroCells]; show n * 1 + (c - n) * 1 = c * 1; omega, by rw [Nat.zero_mul, List.take_zero]⟩⟩
  have B1 : Hid (Below w.heap.size w (w.drew.alloc (.cells (Builtin.zeroCells (Value.int .u8 0).cells n ++ Builtin.zeroCells (Value.int .u8 0).cells (c - n)) 5))) := (below_drewN w 1).trans ((Below.refl _ w.drew).alloc (Nat.le_refl _) _)
  clear happ
  generalize w.drew.alloc (.cells (Builtin.zeroCells (Value.int .u8 0).cells n ++ Builtin.zeroCells (Value.int .u8 0).cells (c - n)) 5) = w1 at O1 B1 ⊢
  obtain ⟨g, hg⟩ : ∃ g, Hid (w.heap.size = g) := ⟨_, rfl⟩
  rw [hg.out]
  refine lin_now 6 (.slice none 0 0) (some 23) (by kernel_rfl) (by kernel_rfl) (by kernel_rfl) ?_
  refine lin_now 7 (.int .i64 0) (some 24) (by kernel_rfl) (by kernel_rfl) (by kernel_rfl) ?_
  refine lin_now 8 (.slice (some ⟨g, 0, none⟩) 0 c) (some 25) (by kernel_rfl) (by kernel_rfl) (exec_of (Instr.sliceAt 22 (.slice (some ⟨g, 0, none⟩) n c) none (some (.int .i64 0)) none) _ (by kernel_rfl) (run_cut_zero g n c (by omega) w1)) ?_
  refine lin_now 9 (.slice (some ⟨g, 0, none⟩) 0 c) (some 0) (by kernel_rfl) (by kernel_rfl) (by kernel_rfl) ?_
  refine lin_done 10 (by kernel_rfl) ?_
  generalize hact : Act.put _ (some 0) _ = act
  simp only [Act.put, List.setIfInBounds_toArray, List.set_cons_succ, List.set_cons_zero] at hact
  subst hact
  go_wp2
  go_ret
  refine ⟨g, c, rfl, ?_, B1.out⟩
  have := O1.out
  rw [hg.out] at this ⊢
  exact this
def szK (m : Nat) : Nat → Nat
  | 0 => 0
  | 1 => 32
  | _ => 32 + m
def preK (xs ys : List Int) : Nat → List Int
  | 0 => []
  | 1 => xs
  | _ => xs ++ ys
set_option maxHeartbeats 2000000 in
theorem concat_walk (rb : Nat) (v1 v2 : Value) (xs ys : List Int) (w : World) (hr : Blk w rb 22 [v1, v2]) (h1 : BytesIn w v1 xs) (n1 : NilOk v1) (h2 : BytesIn w v2 ys) (n2 : NilOk v2) (hx : xs.length = 32) (hy : ys.length ≤ 1000) :
    Calls Tryd.prog 70 #[.slice (some ⟨rb, 0, none⟩) 2 2] w (CopyPost (xs ++ ys) w) := by
  obtain ⟨B, hB⟩ : ∃ B, Hid (w.heap.size = B) := ⟨_, rfl⟩
  obtain ⟨m, hm⟩ : ∃ m, Hid (ys.length = m) := ⟨_, rfl⟩
  have H1 := Lib.hid h1
  have N1 := Lib.hid n1
  have H2 := Lib.hid h2
  have N2 := Lib.hid n2
  obtain ⟨a1, c1, rfl, -, -⟩ := h1
  obtain ⟨a2, c2, rfl, -, -⟩ := h2
  rw [hx] at hr H1 N1
  rw [hm.out] at hr hy H2 N2
  have HX := Lib.hid hx
  have RW0 : Hid (∀ wr : World, Below w.heap.size w wr → wr.cell? ⟨rb, 0 + 0, none⟩ = some (.slice a1 32 c1)) := fun wr hb => (hr.below hb hr.lt).cell rfl
  have RW1 : Hid (∀ wr : World, Below w.heap.size w wr → wr.cell? ⟨rb, 0 + 1, none⟩ = some (.slice a2 m c2)) := fun wr hb => (hr.below hb hr.lt).cell rfl
  have HL0 : Hid ((preK xs ys 0).length + xs.length ≤ 70368744177664) := by unfold Hid; rw [hx]; show 0 + 32 ≤ _; omega
  have HL1 : Hid ((preK xs ys 1).length + ys.length ≤ 70368744177664) := by unfold Hid; rw [hm.out]; show xs.length + m ≤ _; omega
  have r0 := RW0.out w (Below.refl _ _)
  have r1 := RW1.out w (Below.refl _ _)
  clear hr n1 n2 hx
  go_enter Tryd.func70, Tryd.ntmps70
  go_wp2
  go_loopw [11, 3] (fun iv sv wr => ∃ k : Nat, k ≤ 2 ∧ iv = .int .i64 (k : Int) ∧ sv = .int .i64 ((szK m k : Nat) : Int) ∧ w = wr) (fun iv _ _ => 2 - (intOf iv).toNat)
  case atStart => exact ⟨0, by omega, rfl, rfl, rfl⟩
  case round =>
    obtain ⟨k, hk, rfl, rfl, rfl⟩ := hrel
    by_cases k0 : k = 0
    · subst k0
      have e0 : ((szK m 0 : Nat) : Int) = 0 := rfl
      rw [e0]
      go_wp2
      exact ⟨⟨1, by omega, by go_num, by go_num, by trivial⟩, by simp [intOf]⟩
    · by_cases k1 : k = 1
      · subst k1
        have e0 : ((szK m 1 : Nat) : Int) = 32 := rfl
        have q2 : ¬ (32 : Int) + (m : Int) < 0 := by omega
        rw [e0]
        go_wp2
        exact ⟨⟨2, by omega, by go_num, by go_num, by trivial⟩, by simp [intOf]⟩
      · obtain rfl : k = 2 := by omega
        have e0 : ((szK m 2 : Nat) : Int) = ((32 + m : Nat) : Int) := rfl
        rw [e0]
        obtain ⟨sz, hsz⟩ : ∃ sz, Hid (32 + m = sz) := ⟨_, rfl⟩
        rw [hsz.out]
        have s0 : 0 < sz := by have := hsz.out; omega
        have s1 : sz ≤ 5000 := by have := hsz.out; omega
        go_wp2_with fail
        refine (grow_walk sz s0 s1 w).mono ?_
        rintro e w1 ⟨g, cap, rfl, ho, hb⟩
        have O1 := Lib.hid ho
        have B1 := Lib.hid hb
        clear ho hb r0 r1
        rw [hB.out] at O1
        have SZ1 : Hid (B ≤ w1.heap.size) := by unfold Hid; have := B1.out.size; have := hB.out; omega
        go_wp2
        go_loopw [27, 6] (fun iv a6 wr => ∃ (i : Nat) (av : Value), i ≤ 2 ∧ iv = .int .i64 (i : Int) ∧ av = a6 ∧ wr.ownsRow B 5 1 av (preK xs ys i).length (ints .u8 (preK xs ys i)) ∧ Below B w wr ∧ Below w.heap.size w wr ∧ B ≤ wr.heap.size) (fun iv _ _ => 2 - (intOf iv).toNat)
        case atStart => exact ⟨0, _, by omega, rfl, rfl, O1.out, B1.out.mono (Nat.le_of_eq hB.out.symm), B1.out, SZ1.out⟩
        case round =>
          clear O1 B1 SZ1
          obtain ⟨i, av, hi, rfl, rfl, how, hbel, hbx, hsz'⟩ := hrel
          have OW := Lib.hid how
          have BE := Lib.hid hbel
          have BEX := Lib.hid hbx
          have SZ := Lib.hid hsz'
          clear how hbel hbx hsz'
          by_cases i0 : i = 0
          · subst i0
            go_upto_region 12 with (fail)
            refine lin_begin (opsOf Tryd.f70 12) (by kernel_rfl) ?_
            refine lin_now 0 (.pointer (some ⟨rb, 0 + 0, none⟩)) (some 29) (by kernel_rfl) (by kernel_rfl) (exec_indexAt 75 (.tmp 25) (.tmp 27) (by kernel_rfl) _ _ _ (by kernel_rfl) (by kernel_rfl) (run_at_part rb 0 2 2 0 (by omega) _)) ?_
            refine lin_now 1 (.slice a1 32 c1) (some 30) (by kernel_rfl) (by kernel_rfl) (exec_load_cell 22 (.tmp 29) (by kernel_rfl) rb (0 + 0) (by kernel_rfl) _ (RW0.out _ BEX.out) _ Tryd.underlying22 rfl) ?_
            refine lin_now 2 (.slice a1 32 c1) (some 8) (by kernel_rfl) (by kernel_rfl) (by kernel_rfl) ?_
            refine lin_done 3 (by kernel_rfl) ?_
            generalize hact : Act.put _ (some 8) _ = act
            simp only [Act.put, List.setIfInBounds_toArray, List.set_cons_succ, List.set_cons_zero] at hact
            subst hact
            go_upto_region 13 with (fail)
            refine lin_begin (opsOf Tryd.f70 13) (by kernel_rfl) ?_
            refine lin_now 0 (av) (some 31) (by kernel_rfl) (by kernel_rfl) (by kernel_rfl) ?_
            refine lin_now 1 (.slice a1 32 c1) (some 32) (by kernel_rfl) (by kernel_rfl) (by kernel_rfl) ?_
            refine lin_appendb 2 (some 33) (by kernel_rfl) (by kernel_rfl) (by kernel_rfl) (.tmp 31) (.tmp 32) (by kernel_rfl) B av (preK xs ys 0) (by kernel_rfl) OW.out _ xs (by kernel_rfl) (H1.out.below BEX.out (Nat.le_refl _)) N1.out HL0.out SZ.out ?_
            intro v3 w3 h3 g3
            refine lin_now 3 (v3) (some 6) (by kernel_rfl) (by kernel_rfl) (by kernel_rfl) ?_
            refine lin_done 4 (by kernel_rfl) ?_
            have BE3 : Hid (Below B w w3) := BE.out.grown g3 SZ.out (fun q hq => by have := owns_row OW.out q hq; omega)
            have BX3 : Hid (Below w.heap.size w w3) := BEX.out.grown g3 (by rw [hB.out]; exact SZ.out) (fun q hq => by have := owns_row OW.out q hq; have := hB.out; omega)
            have SZ3 : Hid (B ≤ w3.heap.size) := by unfold Hid; have := BE3.out.size; have := hB.out; omega
            have O3 : Hid (w3.ownsRow B 5 1 v3 (preK xs ys 1).length (ints .u8 (preK xs ys 1))) := h3
            clear h3 g3 OW BE BEX SZ
            generalize hact : Act.put _ (some 6) _ = act
            simp only [Act.put, List.setIfInBounds_toArray, List.set_cons_succ, List.set_cons_zero] at hact
            subst hact
            go_wp2
            exact ⟨⟨1, v3, by omega, by go_num, rfl, O3.out, BE3.out, BX3.out, SZ3.out⟩, by simp [intOf]⟩
          · by_cases i1 : i = 1
            · subst i1
              go_upto_region 12 with (fail)
              refine lin_begin (opsOf Tryd.f70 12) (by kernel_rfl) ?_
              refine lin_now 0 (.pointer (some ⟨rb, 0 + 1, none⟩)) (some 29) (by kernel_rfl) (by kernel_rfl) (exec_indexAt 75 (.tmp 25) (.tmp 27) (by kernel_rfl) _ _ _ (by kernel_rfl) (by kernel_rfl) (run_at_part rb 0 2 2 1 (by omega) _)) ?_
              refine lin_now 1 (.slice a2 m c2) (some 30) (by kernel_rfl) (by kernel_rfl) (exec_load_cell 22 (.tmp 29) (by kernel_rfl) rb (0 + 1) (by kernel_rfl) _ (RW1.out _ BEX.out) _ Tryd.underlying22 rfl) ?_
              refine lin_now 2 (.slice a2 m c2) (some 8) (by kernel_rfl) (by kernel_rfl) (by kernel_rfl) ?_
              refine lin_done 3 (by kernel_rfl) ?_
              generalize hact : Act.put _ (some 8) _ = act
              simp only [Act.put, List.setIfInBounds_toArray, List.set_cons_succ, List.set_cons_zero] at hact
              subst hact
              go_upto_region 13 with (fail)
              refine lin_begin (opsOf Tryd.f70 13) (by kernel_rfl) ?_
              refine lin_now 0 (av) (some 31) (by kernel_rfl) (by kernel_rfl) (by kernel_rfl) ?_
              refine lin_now 1 (.slice a2 m c2) (some 32) (by kernel_rfl) (by kernel_rfl) (by kernel_rfl) ?_
              refine lin_appendb 2 (some 33) (by kernel_rfl) (by kernel_rfl) (by kernel_rfl) (.tmp 31) (.tmp 32) (by kernel_rfl) B av (preK xs ys 1) (by kernel_rfl) OW.out _ ys (by kernel_rfl) (H2.out.below BEX.out (Nat.le_refl _)) N2.out HL1.out SZ.out ?_
              intro v3 w3 h3 g3
              refine lin_now 3 (v3) (some 6) (by kernel_rfl) (by kernel_rfl) (by kernel_rfl) ?_
              refine lin_done 4 (by kernel_rfl) ?_
              have BE3 : Hid (Below B w w3) := BE.out.grown g3 SZ.out (fun q hq => by have := owns_row OW.out q hq; omega)
              have BX3 : Hid (Below w.heap.size w w3) := BEX.out.grown g3 (by rw [hB.out]; exact SZ.out) (fun q hq => by have := owns_row OW.out q hq; have := hB.out; omega)
              have SZ3 : Hid (B ≤ w3.heap.size) := by unfold Hid; have := BE3.out.size; have := hB.out; omega
              have O3 : Hid (w3.ownsRow B 5 1 v3 (preK xs ys 2).length (ints .u8 (preK xs ys 2))) := h3
              clear h3 g3 OW BE BEX SZ
              generalize hact : Act.put _ (some 6) _ = act
              simp only [Act.put, List.setIfInBounds_toArray, List.set_cons_succ, List.set_cons_zero] at hact
              subst hact
              go_wp2
              exact ⟨⟨2, v3, by omega, by go_num, rfl, O3.out, BE3.out, BX3.out, SZ3.out⟩, by simp [intOf]⟩
            · obtain rfl : i = 2 := by omega
              go_wp2
              go_ret
              exact ⟨av, rfl, by rw [hB.out]; exact OW.out, BEX.out⟩
theorem own_base {w : World} {base base' n : Nat} {v : Value} {xs : List Value} (h : w.ownsRow base 5 1 v n xs) (hb : base' ≤ base) : w.ownsRow base' 5 1 v n xs := by
  refine ⟨h.1, ?_⟩
  rcases h.2 with h1 | ⟨g, cap, cur, e, h2, h3⟩
  · exact .inl h1
  · exact .inr ⟨g, cap, cur, e, Nat.le_trans hb h2, h3⟩
theorem run_build_row2 (a : Option Addr) (n c : Nat) (a2 : Option Addr) (n2 c2 : Nat) (w : World) : (Instr.buildSlice 75 2 #[(0, .slice a n c), (1, .slice a2 n2 c2)]).run Tryd.prog w = .ok (.slice (some ⟨w.heap.size, 0, none⟩) 2 2) (w.alloc (.cells [.slice a n c, .slice a2 n2 c2].toArray 22)) := by kernel_rfl
theorem blk_bytes {w : World} {b n : Nat} {t : TypeId} {zs : List Int} (h : Blk w b t (ints .u8 zs)) (hn : zs.length = n) : BytesIn w (.slice (some ⟨b, 0, none⟩) n n) zs :=
  ⟨_, n, by rw [hn], by omega, fun _ => ⟨b, 0, rfl, h.lt, h.whole⟩⟩
set_option maxHeartbeats 1000000 in
theorem pack_walk (k : List Int) (v : Value) (zs : List Int) (w : World) (hk : goodK k) (hv : BytesIn w v zs) (hn : NilOk v) (hl : zs.length ≤ 1000) : Calls Tryd.prog 39 #[kval k, v] w (CopyPost (k ++ zs) w) := by
  show Calls Tryd.prog 39 #[.agg (ints .u8 k).toArray, v] w (CopyPost (k ++ zs) w)
  obtain ⟨q, hq⟩ : ∃ q, Hid (w.heap.size = q) := ⟨_, rfl⟩
  obtain ⟨va, vc, rfl, -, -⟩ := id hv
  obtain ⟨m, hm⟩ : ∃ m, Hid (zs.length = m) := ⟨_, rfl⟩
  rw [hm.out] at hv hn ⊢
  have HV := Lib.hid hv
  have HN := Lib.hid hn
  have HK := Lib.hid hk
  have HL := Lib.hid hl
  clear hv hn hk hl
  go_enter Tryd.func39, Tryd.ntmps39
  go_upto_region 0 with (fail)
  refine lin_begin (opsOf Tryd.f39 0) (by kernel_rfl) ?_
  refine lin_box 0 35 (.tmp 0) (ints .u8 k) (q) (some 2) (by kernel_rfl) (by kernel_rfl) (by kernel_rfl) (by kernel_rfl) hq ?_
  intro w1 b1 be1 hs1
  refine lin_now 1 (.slice none 0 0) (some 4) (by kernel_rfl) (by kernel_rfl) (by kernel_rfl) ?_
  refine lin_done 2 (by kernel_rfl) ?_
  generalize hact : Act.put _ (some 4) _ = act
  simp only [Act.put, List.setIfInBounds_toArray, List.set_cons_succ, List.set_cons_zero] at hact
  subst hact
  go_upto_region 1 with (fail)
  refine lin_begin (opsOf Tryd.f39 1) (by kernel_rfl) ?_
  refine lin_now 0 (.slice (some ⟨q, 0, none⟩) 32 32) (some 5) (by kernel_rfl) (by kernel_rfl) (exec_of (Instr.sliceAt 35 (.pointer (some ⟨q, 0, none⟩)) none none none) _ (by kernel_rfl) (by kernel_rfl)) ?_
  refine lin_now 1 (.slice va m vc) (some 6) (by kernel_rfl) (by kernel_rfl) (by kernel_rfl) ?_
  refine lin_newrow 2 22 [.slice (some ⟨q, 0, none⟩) 32 32, .slice va m vc] (q + 1) 2 (some 7) (by kernel_rfl) (by kernel_rfl) hs1 (exec_of (Instr.buildSlice 75 2 #[(0, .slice (some ⟨q, 0, none⟩) 32 32), (1, .slice va m vc)]) _ (by kernel_rfl) (run_build_row2 _ _ _ _ _ _ _)) ?_
  intro w2 b2 be2 hs2
  have BL : Hid (Below w.heap.size w w2) := by rw [Hid, hq.out]; exact be1.trans (be2.mono (by omega))
  refine lin_call 3 70 #[.slice (some ⟨q + 1, 0, none⟩) 2 2] (some 8) _ (by kernel_rfl) (by kernel_rfl) (by kernel_rfl) (concat_walk (q + 1) _ _ k zs _ b2 (blk_bytes (b1.below be2 (by omega)) HK.out.1) trivial (HV.out.below BL.out (Nat.le_refl _)) HN.out HK.out.1 HL.out) ?_
  rintro e w3 ⟨v3, rfl, ho, hb⟩
  refine ⟨_, rfl, ?_⟩
  refine lin_now 4 (v3) (some 4) (by kernel_rfl) (by kernel_rfl) (by kernel_rfl) ?_
  refine lin_done 5 (by kernel_rfl) ?_
  have O3 : Hid (w3.ownsRow w.heap.size 5 1 v3 (k ++ zs).length (ints .u8 (k ++ zs))) := own_base ho BL.out.size
  have B3 : Hid (Below w.heap.size w w3) := BL.out.trans (hb.mono BL.out.size)
  clear ho hb b1 be1 hs1 b2 be2 hs2
  generalize hact : Act.put _ (some 4) _ = act
  simp only [Act.put, List.setIfInBounds_toArray, List.set_cons_succ, List.set_cons_zero] at hact
  subst hact
  go_wp2
  go_ret
  exact ⟨v3, rfl, O3.out, B3.out⟩
end Go.Proofs.YtngpmilojfbpmaaDoor
/- Package vault: unpack, and what a vault is in memory; hold. -/
namespace Go.Proofs.YtngpmilojfbpmaaDoor
open Go Go.RowKit
set_option maxRecDepth 100000

theorem results_cell_tmp2 {P : Program} {fn : Func} {p q r : Tmp} {ty : TypeId} (h : fn.results = #[.cell p ty, .tmp q, .tmp r]) (tmps : Array Value) (w : World) (g : Nat) (t : TypeId) (cs : Array Value) (fr : Nat × Nat) (d : TypeDesc) (v u : Value)
    (hp : tmps.getD p undef = .pointer (some ⟨g, 0, none⟩)) (hq : tmps.getD q undef = v) (hr : tmps.getD r undef = u) (hg : w.heap[g]? = some (.cells cs t fr))
    (hu : P.underlying ty = some d) (hd : (match d with | .struct _ | .array _ _ => true | _ => false) = true) (hi : (P.info? ty).map (·.size) = some cs.size) :
    (results fn tmps).run P w = .ok (.tuple #[.agg cs, v, u]) w := by
  have hp' : tmps[p]?.getD undef = .pointer (some ⟨g, 0, none⟩) := by simpa using hp
  have hq' : tmps[q]?.getD undef = v := by simpa using hq
  have hr' : tmps[r]?.getD undef = u := by simpa using hr
  simp [results, h, hp', hq', hr', asAddr, run_loadVar_row w g t ty cs fr d hg hu hd hi]
theorem exec_skip {P : Program} {a : Act} {w w' : World} {op : Oper} (s : Sem Unit) (h : execOp a.eval op = (s >>= fun _ => pure .skip)) (hr : s.run P w = .ok () w') : (execOp a.eval op).run P w = .ok .skip w' := by
  rw [h, Sem.run_bind, hr]
  rfl
theorem blk_goodK {k : List Int} (hk : k.length = 32) : (Tryd.prog.info? 35).map (·.size) = some (ints .u8 k).length := by rw [ints_length, hk]; exact infoDigest
def nilUnp : Ending := .returned (.tuple #[kval z32, .slice none 0 0, .bool false])
set_option maxHeartbeats 1000000 in
theorem vunp_no (a : Option Addr) (n c : Nat) (w : World) (h : n < 32 ∨ 1032 < n) : Calls Tryd.prog 66 #[.slice a n c] w fun e w' => e = nilUnp ∧ Below w.heap.size w w' := by
  show Calls Tryd.prog 66 #[.slice a n c] w fun e w' => e = .returned (.tuple #[.agg (ints .u8 z32).toArray, .slice none 0 0, .bool false]) ∧ Below w.heap.size w w'
  obtain ⟨B, hB⟩ : ∃ B, Hid (w.heap.size = B) := ⟨_, rfl⟩
  go_enter Tryd.func66, Tryd.ntmps66
  go_upto_region 0 with (fail)
  refine lin_begin (opsOf Tryd.f66 0) (by kernel_rfl) ?_
  refine lin_alloc 0 35 (ints .u8 z32) (B) (some 2) (by kernel_rfl) (by kernel_rfl) (by kernel_rfl) zeroDig hB ?_
  intro w1 b1 be1 hs1
  refine lin_now 1 (.slice none 0 0) (some 3) (by kernel_rfl) (by kernel_rfl) (by kernel_rfl) ?_
  refine lin_now 2 (.bool false) (some 4) (by kernel_rfl) (by kernel_rfl) (by kernel_rfl) ?_
  refine lin_done 3 (by kernel_rfl) ?_
  have BL : Hid (Below w.heap.size w w1) := by rw [Hid, hB.out]; exact be1
  have B1 := Lib.hid b1
  clear b1 be1 hs1
  generalize hact : Act.put _ (some 4) _ = act
  simp only [Act.put, List.setIfInBounds_toArray, List.set_cons_succ, List.set_cons_zero] at hact
  subst hact
  have key : (Code.region 2 #[] false = Code.region 2 #[] false) := rfl
  clear key
  by_cases hlo : n < 32
  · have q1 : (n : Int) < 32 := by omega
    go_upto_region 2 with (fail)
    refine lin_begin (opsOf Tryd.f66 2) (by kernel_rfl) ?_
    refine lin_now 0 (.agg (ints .u8 z32).toArray) (some 13) (by kernel_rfl) (by kernel_rfl) (by kernel_rfl) ?_
    refine lin_put 1 35 (.tmp 2) (.tmp 13) B _ (ints .u8 z32) (ints .u8 z32) (by kernel_rfl) (by kernel_rfl) (by kernel_rfl) (by kernel_rfl) (by kernel_rfl) B1.out rfl (blk_goodK z32_length) (ints_oneCell _ _) ?_
    intro w2 b2 u2
    refine lin_now 2 (.slice none 0 0) (some 3) (by kernel_rfl) (by kernel_rfl) (by kernel_rfl) ?_
    refine lin_now 3 (.bool false) (some 4) (by kernel_rfl) (by kernel_rfl) (by kernel_rfl) ?_
    refine lin_done 4 (by kernel_rfl) ?_
    have BL2 : Hid (Below w.heap.size w w2) := u2.below BL.out (Nat.le_of_eq hB.out) BL.out.size
    have B2 := Lib.hid b2
    clear b2 u2 B1 BL
    generalize hact : Act.put _ (some 4) _ = act
    simp only [Act.put, List.setIfInBounds_toArray, List.set_cons_succ, List.set_cons_zero] at hact
    subst hact
    go_wp2
    refine bodyPost_ret (v := .tuple #[.agg (ints .u8 z32).toArray, .slice none 0 0, .bool false]) ?_ rfl ⟨rfl, BL2.out⟩
    exact results_cell_tmp2 (g := B) (t := 35) (cs := (ints .u8 z32).toArray) (fr := (0, 0)) Tryd.results66 _ _ _ _ _ rfl rfl rfl B2.out Tryd.underlying35 rfl (blk_goodK z32_length)
  · have q1 : ¬ (n : Int) < 32 := by omega
    have q2 : (1032 : Int) < (n : Int) := by omega
    go_upto_region 2 with (fail)
    refine lin_begin (opsOf Tryd.f66 2) (by kernel_rfl) ?_
    refine lin_now 0 (.agg (ints .u8 z32).toArray) (some 13) (by kernel_rfl) (by kernel_rfl) (by kernel_rfl) ?_
    refine lin_put 1 35 (.tmp 2) (.tmp 13) B _ (ints .u8 z32) (ints .u8 z32) (by kernel_rfl) (by kernel_rfl) (by kernel_rfl) (by kernel_rfl) (by kernel_rfl) B1.out rfl (blk_goodK z32_length) (ints_oneCell _ _) ?_
    intro w2 b2 u2
    refine lin_now 2 (.slice none 0 0) (some 3) (by kernel_rfl) (by kernel_rfl) (by kernel_rfl) ?_
    refine lin_now 3 (.bool false) (some 4) (by kernel_rfl) (by kernel_rfl) (by kernel_rfl) ?_
    refine lin_done 4 (by kernel_rfl) ?_
    have BL2 : Hid (Below w.heap.size w w2) := u2.below BL.out (Nat.le_of_eq hB.out) BL.out.size
    have B2 := Lib.hid b2
    clear b2 u2 B1 BL
    generalize hact : Act.put _ (some 4) _ = act
    simp only [Act.put, List.setIfInBounds_toArray, List.set_cons_succ, List.set_cons_zero] at hact
    subst hact
    go_wp2
    refine bodyPost_ret (v := .tuple #[.agg (ints .u8 z32).toArray, .slice none 0 0, .bool false]) ?_ rfl ⟨rfl, BL2.out⟩
    exact results_cell_tmp2 (g := B) (t := 35) (cs := (ints .u8 z32).toArray) (fr := (0, 0)) Tryd.results66 _ _ _ _ _ rfl rfl rfl B2.out Tryd.underlying35 rfl (blk_goodK z32_length)
theorem run_tail_at (pb po len cap c : Nat) (h1 : c ≤ len) (w : World) : (Instr.sliceAt 22 (.slice (some ⟨pb, po, none⟩) len cap) (some (.int .i64 (c : Int))) none none).run Tryd.prog w = .ok (.slice (tailAddr pb po cap c) (len - c) (cap - c)) w := run_slice_tail pb po len cap c h1 w
theorem tail_nil {F : List Nat} {pb po n c : Nat} {rec : List Int} {w w' : World} (hc : rec.length ≤ c) (hp : pb < w.heap.size) (hF : pb ∉ F) (hr : w.rangeAt pb po (ints .u8 rec)) (hn : rec.length = n) (h1 : 32 ≤ n) (hb : Below w.heap.size w w') : BytesOff F w' (.slice (tailAddr pb po c 32) (n - 32) (c - 32)) (rec.drop 32) ∧ NilOk (.slice (tailAddr pb po c 32) (n - 32) (c - 32)) := by
  subst hn
  refine ⟨⟨tailAddr pb po c 32, c - 32, by rw [List.length_drop], by rw [List.length_drop]; omega, fun hp2 => ?_⟩, ?_⟩
  · rw [List.length_drop] at hp2
    refine ⟨pb, po + 32, by unfold tailAddr; rw [if_neg (by omega)], hF, Nat.lt_of_lt_of_le hp hb.size, fun j v hv => ?_⟩
    rw [hb.cell (p := ⟨pb, po + 32 + j, none⟩) hp, Nat.add_assoc]
    rw [← ints_drop, List.getElem?_drop] at hv
    exact hr (32 + j) v hv
  · unfold tailAddr
    split <;> trivial
set_option maxHeartbeats 1000000 in
theorem vunp_ok (F : List Nat) (v : Value) (rec : List Int) (w : World) (h : BytesOff F w v rec) (h1 : 32 ≤ rec.length) (h2 : rec.length ≤ 1032) : Calls Tryd.prog 66 #[v] w fun e w' => ∃ u, e = .returned (.tuple #[kval (rec.take 32), u, .bool true]) ∧ (BytesOff F w' u (rec.drop 32) ∧ NilOk u) ∧ Below w.heap.size w w' := by
  show Calls Tryd.prog 66 #[v] w fun e w' => ∃ u, e = .returned (.tuple #[.agg (ints .u8 (rec.take 32)).toArray, u, .bool true]) ∧ (BytesOff F w' u (rec.drop 32) ∧ NilOk u) ∧ Below w.heap.size w w'
  obtain ⟨B, hB⟩ : ∃ B, Hid (w.heap.size = B) := ⟨_, rfl⟩
  obtain ⟨a, c, rfl, hc, hp⟩ := h
  obtain ⟨n, hn⟩ : ∃ n, Hid (rec.length = n) := ⟨_, rfl⟩
  rw [hn.out] at hc hp h1 h2 ⊢
  obtain ⟨pb, po, rfl, hpF, hpb, hr⟩ := hp (by omega)
  have HPF := Lib.hid hpF
  clear hp hpF
  have q1 : ¬ (n : Int) < 32 := by omega
  have q2 : ¬ (1032 : Int) < (n : Int) := by omega
  have HR := Lib.hid hr
  have HPB : Hid (pb < w.heap.size) := hpb
  clear hr hpb
  obtain ⟨k, hk⟩ : ∃ k, Hid (rec.take 32 = k) := ⟨_, rfl⟩
  have HKL : Hid (k.length = 32) := by unfold Hid; rw [← hk.out, List.length_take, hn.out]; omega
  rw [hk.out]
  have RK : Hid (∀ wr : World, Below w.heap.size w wr → wr.rangeAt pb po (ints .u8 k)) := fun wr hb j v hv => by
    have hv2 : (ints .u8 rec)[j]? = some v := by
      rw [← hk.out, ← ints_take, List.getElem?_take] at hv
      split at hv
      · exact hv
      · cases hv
    rw [hb.cell (p := ⟨pb, po + j, none⟩) HPB.out]
    exact HR.out j v hv2
  go_enter Tryd.func66, Tryd.ntmps66
  go_upto_region 0 with (fail)
  refine lin_begin (opsOf Tryd.f66 0) (by kernel_rfl) ?_
  refine lin_alloc 0 35 (ints .u8 z32) (B) (some 2) (by kernel_rfl) (by kernel_rfl) (by kernel_rfl) zeroDig hB ?_
  intro w1 b1 be1 hs1
  refine lin_now 1 (.slice none 0 0) (some 3) (by kernel_rfl) (by kernel_rfl) (by kernel_rfl) ?_
  refine lin_now 2 (.bool false) (some 4) (by kernel_rfl) (by kernel_rfl) (by kernel_rfl) ?_
  refine lin_done 3 (by kernel_rfl) ?_
  have BL : Hid (Below w.heap.size w w1) := by rw [Hid, hB.out]; exact be1
  have B1 := Lib.hid b1
  clear b1 be1 hs1
  generalize hact : Act.put _ (some 4) _ = act
  simp only [Act.put, List.setIfInBounds_toArray, List.set_cons_succ, List.set_cons_zero] at hact
  subst hact
  go_upto_region 3 with (fail)
  refine region_begin (opsOf Tryd.f66 3) (fun _ => True) (by kernel_rfl) (by kernel_rfl) 8 (by kernel_rfl) ?_
  intro Q' hQN hN
  refine reg_now 0 (.slice (some ⟨pb, po, none⟩) n c) (some 14) hQN trivial (by kernel_rfl) (by kernel_rfl) (fun w => by kernel_rfl) ?_
  refine reg_now 1 (.pointer (some ⟨pb, po, none⟩)) (some 15) hQN trivial (by kernel_rfl) (by kernel_rfl) (fun w => exec_of (Instr.arrayAt 35 (.slice (some ⟨pb, po, none⟩) n c)) _ (by kernel_rfl) (run_arrayAt _ _ _ _ _ _ _ digUnder h1)) ?_
  refine reg_now 3 (.slice (some ⟨pb, po, none⟩) n c) (some 17) hQN trivial (by kernel_rfl) (by kernel_rfl) (fun w => by kernel_rfl) ?_
  refine reg_now 4 (.slice (tailAddr pb po c 32) (n - 32) (c - 32)) (some 18) hQN trivial (by kernel_rfl) (by kernel_rfl) (fun w => exec_of (Instr.sliceAt 22 (.slice (some ⟨pb, po, none⟩) n c) (some (.int .i64 32)) none none) _ (by kernel_rfl) (run_tail_at pb po n c 32 h1 w)) ?_
  refine reg_value 2 (.agg (ints .u8 k).toArray) (some 16) w1.drew (by kernel_rfl) (by kernel_rfl) (exec_load_mid 35 (.tmp 15) (by kernel_rfl) pb po (by kernel_rfl) (ints .u8 k) _ (RK.out _ BL.out.drew) digUnder rfl (blk_goodK HKL.out)) trivial ?_
  refine reg_store 5 (w1.drew.setCells B 0 (ints .u8 k)) (by kernel_rfl) (by kernel_rfl) (exec_store_mid 35 (.tmp 2) (.tmp 16) (by kernel_rfl) B 0 (ints .u8 k) (by kernel_rfl) (by kernel_rfl) (B1.out.drew.there 0 _ (by rw [ints_length, ints_length, HKL.out, z32_length]; omega)) (blk_goodK HKL.out) (ints_oneCell _ _)) trivial ?_
  have b2 : Blk (w1.drew.setCells B 0 (ints .u8 k)) B 35 (ints .u8 k) := B1.out.drew.setWhole _ (by rw [ints_length, ints_length, HKL.out, z32_length])
  have u2 : Upd B w1.drew (w1.drew.setCells B 0 (ints .u8 k)) := (Upd.refl B w1.drew).setCells _ 0
  generalize w1.drew.setCells B 0 (ints .u8 k) = w2 at b2 u2 ⊢
  refine reg_now 6 (.slice (tailAddr pb po c 32) (n - 32) (c - 32)) (some 3) hQN trivial (by kernel_rfl) (by kernel_rfl) (fun w => by kernel_rfl) ?_
  refine reg_now 7 (.bool true) (some 4) hQN trivial (by kernel_rfl) (by kernel_rfl) (fun w => by kernel_rfl) ?_
  refine reg_done (by kernel_rfl) (hN _ _ ?_)
  have BL2 : Hid (Below w.heap.size w w2) := u2.below BL.out.drew (Nat.le_of_eq hB.out) BL.out.drew.size
  have B2 := Lib.hid b2
  clear b2 u2 B1 BL hQN hN
  generalize hact : Act.put _ (some 4) _ = act
  simp only [Act.put, List.setIfInBounds_toArray, List.set_cons_succ, List.set_cons_zero] at hact
  subst hact
  go_wp2
  refine bodyPost_ret (v := .tuple #[.agg (ints .u8 k).toArray, .slice (tailAddr pb po c 32) (n - 32) (c - 32), .bool true]) ?_ rfl ⟨_, rfl, ?_, BL2.out⟩
  · exact results_cell_tmp2 (g := B) (t := 35) (cs := (ints .u8 k).toArray) (fr := (0, 0)) Tryd.results66 _ _ _ _ _ rfl rfl rfl B2.out Tryd.underlying35 rfl (blk_goodK HKL.out)
  · exact tail_nil (by rw [hn.out]; exact hc) HPB.out HPF.out HR.out hn.out h1 BL2.out
end Go.Proofs.YtngpmilojfbpmaaDoor
/- Package vault: what a vault is in memory; hold. -/
namespace Go.Proofs.YtngpmilojfbpmaaDoor
open Go Go.RowKit
set_option maxRecDepth 100000

/-- An entry: its key's bytes, and its value. -/
abbrev Ent := List Int × List Int
def keysF (es : List Ent) : List Int := (es.map (·.1)).flatten
def vfoot (vb mb : Nat) (kv : Value) : List Nat := vb :: mb :: kv.ownBlock.toList
def vcells (d : Nat) (ap : Option Addr) (kv : Value) (mb : Nat) : List Value := [.pointer (some ⟨d, 0, none⟩), .pointer ap, kv, .map (some mb)]
/-- At vb lies a vault; its own blocks are vfoot, and all else off which its values lie is G. -/
structure Vm (w : World) (G : List Nat) (vb d : Nat) (ap : Option Addr) (kv : Value) (mb : Nat) (es : List Ent) : Prop where
  hb : Blk w vb 73 (vcells d ap kv mb)
  hk : w.ownsRow 0 35 32 kv es.length (ints .u8 (keysF es))
  hm : ∃ vs, Mp w mb (es.map (·.1)) vs ∧ ∀ (i : Nat) (v : Value) (e : Ent), vs[i]? = some v → es[i]? = some e → BytesOff (vfoot vb mb kv ++ G) w v e.2 ∧ NilOk v
  n1 : ∀ g, kv.ownBlock = some g → g ≠ vb
  n2 : ∀ k ∈ vfoot vb mb kv, k ∉ G
  sh : ∀ e ∈ es, e.2.length ≤ 1000 ∧ isBytes e.2
section
variable {w w' : World} {G G' : List Nat} {vb d : Nat} {ap : Option Addr} {kv : Value} {mb : Nat} {es : List Ent}
theorem Vm.mlt (h : Vm w G vb d ap kv mb es) : mb < w.heap.size := by
  obtain ⟨vs, h1, _⟩ := h.hm
  exact h1.lt
theorem Vm.lt (h : Vm w G vb d ap kv mb es) : ∀ k ∈ vfoot vb mb kv, k < w.heap.size := fun k hk => by
  simp only [vfoot, List.mem_cons, Option.mem_toList] at hk
  rcases hk with rfl | rfl | hk
  · exact h.hb.lt
  · exact h.mlt
  · exact (h.hk.lt k hk).2
theorem Vm.good (h : Vm w G vb d ap kv mb es) : ∀ e ∈ es, goodK e.1 := fun e he => by
  obtain ⟨vs, h1, _⟩ := h.hm
  exact h1.good e.1 (List.mem_map.2 ⟨e, he, rfl⟩)
theorem Vm.nodup (h : Vm w G vb d ap kv mb es) : (es.map (·.1)).Nodup := by
  obtain ⟨vs, h1, _⟩ := h.hm
  exact h1.nodup
theorem Mp.notcells {b : Nat} {t : TypeId} {cs : List Value} {ks : List (List Int)} {vs : List Value} (h : Mp w mb ks vs) (hb : Blk w b t cs) : b ≠ mb := fun e => by
  obtain ⟨es, clock, h1, _⟩ := h
  subst e
  unfold Blk at hb
  rw [hb] at h1
  cases h1
theorem Mp.notrow {base n s : Nat} {t : TypeId} {v : Value} {xs : List Value} {ks : List (List Int)} {vs : List Value} (h : Mp w mb ks vs) (ho : w.ownsRow base t s v n xs) : ∀ g, v.ownBlock = some g → g ≠ mb := fun g hg e => by
  obtain ⟨es, clock, h1, _⟩ := h
  rcases ho.2 with ⟨rfl, _⟩ | ⟨g', cap, cur, rfl, _, h2, _⟩
  · cases hg
  · obtain rfl : g' = g := by simpa [Value.ownBlock] using hg
    subst e
    rw [h2] at h1
    cases h1
/-- What is off the vault's own blocks has changed. -/
theorem Vm.step (h : Vm w G vb d ap kv mb es) (hs : Step G w G' w') : Vm w' G' vb d ap kv mb es := by
  obtain ⟨vs, h1, h2⟩ := h.hm
  have hmem : ∀ k, k ∈ vfoot vb mb kv → k ∉ G := h.n2
  refine ⟨hs.blk h.hb (hmem vb (by simp [vfoot])), own_step h.hk hs (fun g hg => hmem g (by simp [vfoot, hg])), ⟨vs, h1.same (hs.block mb h1.lt (hmem mb (by simp [vfoot]))), fun i v e hv he => ⟨(h2 i v e hv he).1.step hs.left, (h2 i v e hv he).2⟩⟩, h.n1, fun k hk => hs.off (h.lt k hk) (hmem k hk), h.sh⟩
theorem Vm.below (h : Vm w G vb d ap kv mb es) (hb : Below w.heap.size w w') : Vm w' G vb d ap kv mb es := h.step (Step.of_below hb (Nat.le_refl _))
theorem Vm.c0 (h : Vm w G vb d ap kv mb es) : w.cell? ⟨vb, 0, none⟩ = some (.pointer (some ⟨d, 0, none⟩)) := h.hb.cell rfl
theorem Vm.c1 (h : Vm w G vb d ap kv mb es) : w.cell? ⟨vb, 1, none⟩ = some (.pointer ap) := h.hb.cell rfl
theorem Vm.c2 (h : Vm w G vb d ap kv mb es) : w.cell? ⟨vb, 2, none⟩ = some kv := h.hb.cell rfl
theorem Vm.c3 (h : Vm w G vb d ap kv mb es) : w.cell? ⟨vb, 3, none⟩ = some (.map (some mb)) := h.hb.cell rfl
/-- The area's pointer is changed. -/
theorem Vm.setArea (h : Vm w G vb d ap kv mb es) (ap' : Option Addr) : Vm (w.setCell ⟨vb, 1, none⟩ (.pointer ap')) G vb d ap' kv mb es := by
  obtain ⟨vs, h1, h2⟩ := h.hm
  have hu : Upd vb w (w.setCell ⟨vb, 1, none⟩ (.pointer ap')) := (Upd.refl vb w).setCell 1 _
  have hs : Step (vfoot vb mb kv ++ G) w (vfoot vb mb kv ++ G) (w.setCell ⟨vb, 1, none⟩ (.pointer ap')) := Step.of_upd hu (by simp [vfoot])
  exact ⟨h.hb.set 1 _, own_upd h.hk hu h.n1, ⟨vs, h1.same (hu.block mb h1.lt (Ne.symm (h1.notcells h.hb))), fun i v e hv he => ⟨(h2 i v e hv he).1.step hs, (h2 i v e hv he).2⟩⟩, h.n1, h.n2, h.sh⟩
theorem keysF_snoc (es : List Ent) (k zs : List Int) : keysF (es ++ [(k, zs)]) = keysF es ++ k := by simp [keysF]
/-- An entry more. -/
theorem Vm.held (h : Vm w G vb d ap kv mb es) (hG : ∀ k ∈ G, k < w.heap.size) {w6 W7 W8 W9 W10 : World} (hb6 : Below w.heap.size w w6) {g n cap : Nat} {k zs : List Int} {cv : Value} {vs : List Value} (hn : es.length = n)
    (ho : W7.ownsRow 0 35 32 (.slice (some ⟨g, 0, none⟩) (n + 1) cap) (n + 1) (ints .u8 (keysF es) ++ ints .u8 k)) (hg : w6.grownBy W7 kv.ownBlock) (hat : kv.ownBlock = some g ∨ g = w6.heap.size)
    (hu8 : Upd vb W7 W8) (hb8 : Blk W8 vb 73 (vcells d ap (.slice (some ⟨g, 0, none⟩) (n + 1) cap) mb)) (hb9 : Below W8.heap.size W8 W9) (hc : W9.ownsRow W8.heap.size 5 1 cv zs.length (ints .u8 zs))
    (hvs : Mp w mb (es.map (·.1)) vs) (hve : ∀ (i : Nat) (v : Value) (e : Ent), vs[i]? = some v → es[i]? = some e → BytesOff (vfoot vb mb kv ++ G) w v e.2 ∧ NilOk v)
    (hm : Mp W10 mb (es.map (·.1) ++ [k]) (vs ++ [cv])) (hu10 : Upd mb W9 W10) (hz : zs.length ≤ 1000 ∧ isBytes zs) :
    Vm W10 G vb d ap (.slice (some ⟨g, 0, none⟩) (n + 1) cap) mb (es ++ [(k, zs)]) ∧ Step (vfoot vb mb kv) w (vfoot vb mb (.slice (some ⟨g, 0, none⟩) (n + 1) cap)) W10 := by
  have vlt := h.lt
  have s6 := hb6.size
  have s7 := hg.size
  have s8 := hu8.size
  have gvb : g ≠ vb := by
    rcases hat with e | e
    · exact h.n1 g e
    · have := h.hb.lt; omega
  have gmb : g ≠ mb := by
    rcases hat with e | e
    · exact hvs.notrow h.hk g e
    · have := h.mlt; omega
  have vmb : vb ≠ mb := hvs.notcells h.hb
  have gG : g ∉ G := by
    rcases hat with e | e
    · exact h.n2 g (by simp [vfoot, e])
    · intro hc; have := hG g hc; omega
  have gl8 : g < W8.heap.size := by have := (ho.lt g rfl).2; omega
  have e1 : ∀ x, x ∈ vfoot vb mb (.slice (some ⟨g, 0, none⟩) (n + 1) cap) ↔ x = vb ∨ x = mb ∨ x = g := fun x => by simp [vfoot, Value.ownBlock]
  have s0 : Step (vfoot vb mb kv) w (vfoot vb mb (.slice (some ⟨g, 0, none⟩) (n + 1) cap)) W8 := by
    refine ⟨hu8.os.trans (hg.os.trans hb6.os), hu8.tape.trans (hg.tape.trans hb6.tape), hu8.output.trans (hg.output.trans hb6.output), by omega, fun x hx hxF => ?_, fun x hx => ?_⟩
    · have h1 : x ≠ vb := fun e => hxF (by simp [vfoot, e])
      have h2 : some x ≠ kv.ownBlock := fun e => hxF (by simp [vfoot, ← e])
      rw [hu8.block x (by omega) h1, hg.block x (by omega) h2, hb6.block x hx]
    · rcases (e1 x).1 hx with rfl | rfl | rfl
      · exact .inl (by simp [vfoot])
      · exact .inl (by simp [vfoot])
      · rcases hat with e | e
        · exact .inl (by simp [vfoot, e])
        · exact .inr (by omega)
  have s9 : Step (vfoot vb mb (.slice (some ⟨g, 0, none⟩) (n + 1) cap)) W8 (vfoot vb mb (.slice (some ⟨g, 0, none⟩) (n + 1) cap)) W9 := Step.of_below hb9 (Nat.le_refl _)
  have s10 : Step (vfoot vb mb (.slice (some ⟨g, 0, none⟩) (n + 1) cap)) W9 (vfoot vb mb (.slice (some ⟨g, 0, none⟩) (n + 1) cap)) W10 := Step.of_upd hu10 (by simp [vfoot])
  have sA := s0.trans (s9.trans s10)
  have hvl : vs.length = es.length := by rw [hvs.len, List.length_map]
  refine ⟨⟨hu10.blk (hb8.below hb9 hb8.lt) vmb, ?_, ⟨vs ++ [cv], by simpa using hm, fun i v e hv he => ?_⟩, fun g' hg' => ?_, fun x hx => ?_, fun e he => ?_⟩, sA⟩
  · have o8 := own_upd ho hu8 (fun g' hg' => by obtain rfl : g = g' := by simpa [Value.ownBlock] using hg'
                                                exact gvb)
    have o9 := own_step (F := []) (F' := []) o8 (Step.of_below hb9 (Nat.le_refl _)) (fun g' _ => by simp)
    have o10 := own_upd o9 hu10 (fun g' hg' => by obtain rfl : g = g' := by simpa [Value.ownBlock] using hg'
                                                  exact gmb)
    rw [keysF_snoc, ints_append, List.length_append, hn]
    exact o10
  · by_cases hi : i < es.length
    · rw [List.getElem?_append_left (by omega)] at hv he
      obtain ⟨h1, h2⟩ := hve i v e hv he
      exact ⟨h1.step sA.right, h2⟩
    · have hi2 : i = es.length := by
        have := (List.getElem?_eq_some_iff.1 he).1
        simp at this
        omega
      subst hi2
      rw [List.getElem?_append_right (by omega), Nat.sub_self] at he
      rw [List.getElem?_append_right (by omega), hvl, Nat.sub_self] at hv
      obtain rfl := Option.some.inj he
      obtain rfl := Option.some.inj hv
      refine ⟨BytesOff.step (F := vfoot vb mb (.slice (some ⟨g, 0, none⟩) (n + 1) cap) ++ G) (owns_off hc (fun x hx => ?_)) s10.right, owns_nilok hc⟩
      rcases List.mem_append.1 hx with h1 | h1
      · rcases (e1 x).1 h1 with rfl | rfl | rfl
        · exact hb8.lt
        · have := h.mlt; omega
        · exact gl8
      · have := hG x h1; omega
  · obtain rfl : g = g' := by simpa [Value.ownBlock] using hg'
    exact gvb
  · rcases (e1 x).1 hx with rfl | rfl | rfl
    · exact h.n2 _ (by simp [vfoot])
    · exact h.n2 _ (by simp [vfoot])
    · exact gG
  · rcases List.mem_append.1 he with h1 | h1
    · exact h.sh e h1
    · obtain rfl : e = (k, zs) := by simpa using h1
      exact hz
end
theorem run_build_dig (x : List Int) (hx : x.length = 32) (w : World) : (Instr.buildSlice 33 1 #[(0, .agg (ints .u8 x).toArray)]).run Tryd.prog w = .ok (.slice (some ⟨w.heap.size, 0, none⟩) 1 1) (w.alloc (.cells (ints .u8 x).toArray 35)) := by
  have h : (Instr.buildSlice 33 1 #[(0, .agg (ints .u8 x).toArray)]).run Tryd.prog w = ((match Instr.fill (fun i => some (i * 32, 32)) (ints .u8 z32).toArray [(0, .agg (ints .u8 x).toArray)] with | some cells => (do pure (.slice (some (← newRow 35 cells)) 1 1)) | _ => stuck "buildSlice: a part of the wrong size" : Sem Value)).run Tryd.prog w := by kernel_rfl
  rw [h, fill_one _ (ints .u8 z32) (ints .u8 x) 0 0 32 _ _ rfl rfl (by rw [ints_length, hx]) (by rw [ints_length, z32_length]; omega), Instr.fill]
  have e : splice (ints .u8 z32) 0 (ints .u8 x) = ints .u8 x := by
    rw [splice_ints, List.take_zero, List.nil_append, Nat.zero_add, hx, List.drop_eq_nil_of_le (by rw [z32_length]; omega), List.append_nil]
  rw [e]
  rfl
theorem infoDigV : (Tryd.prog.info? 35).map (fun i => (i.zero, i.size, i.bytes)) = some (some (.agg (ints .u8 (List.replicate 32 0)).toArray), 32, 32) := by kernel_rfl
theorem elemDigV : Tryd.prog.underlying 33 = some (.slice 35) := by kernel_rfl
def HoldPost (G : List Nat) (vb d : Nat) (ap : Option Addr) (kv : Value) (mb : Nat) (es : List Ent) (k zs : List Int) (w : World) (e : Ending) (w' : World) : Prop :=
  ∃ kv', e = .returned (.tuple #[]) ∧ Vm w' G vb d ap kv' mb (es ++ [(k, zs)]) ∧ Step (vfoot vb mb kv) w (vfoot vb mb kv') w'
set_option maxHeartbeats 2000000 in
theorem hold_walk (G : List Nat) (vb d : Nat) (ap : Option Addr) (kv : Value) (mb : Nat) (es : List Ent) (k zs : List Int) (u : Value) (w : World) (h : Vm w G vb d ap kv mb es) (hG : ∀ k ∈ G, k < w.heap.size) (hc : es.length ≤ 100000) (hk : goodK k) (hnk : k ∉ es.map (·.1)) (hu : BytesOff (vfoot vb mb kv) w u zs) (hnil : NilOk u) (hz : zs.length ≤ 1000 ∧ isBytes zs) :
    Calls Tryd.prog 41 #[.pointer (some ⟨vb, 0, none⟩), kval k, u] w (HoldPost G vb d ap kv mb es k zs w) := by
  show Calls Tryd.prog 41 #[.pointer (some ⟨vb, 0, none⟩), .agg (ints .u8 k).toArray, u] w (HoldPost G vb d ap kv mb es k zs w)
  obtain ⟨B, hB⟩ : ∃ B, Hid (w.heap.size = B) := ⟨_, rfl⟩
  obtain ⟨n, hn⟩ : ∃ n, Hid (es.length = n) := ⟨_, rfl⟩
  have HV := Lib.hid h
  have HG := Lib.hid hG
  have HK := Lib.hid hk
  have HU := Lib.hid hu
  have HNI := Lib.hid hnil
  have HZ := Lib.hid hz
  have HNK := Lib.hid hnk
  rw [hn.out] at hc
  clear h hG hk hu hnil hz hnk
  have KS : Hid ((Tryd.prog.info? 35).map (·.size) = some (ints .u8 k).length) := blk_goodK HK.out.1
  go_enter Tryd.func41, Tryd.ntmps41
  go_upto_region 0 with (fail)
  refine lin_begin (opsOf Tryd.f41 0) (by kernel_rfl) ?_
  refine lin_box 0 35 (.tmp 1) (ints .u8 k) (B) (some 4) (by kernel_rfl) (by kernel_rfl) (by kernel_rfl) (by kernel_rfl) hB ?_
  intro w1 b1 be1 hs1
  refine lin_done 1 (by kernel_rfl) ?_
  have BL1 : Hid (Below w.heap.size w w1) := by rw [Hid, hB.out]; exact be1
  have B1 := Lib.hid b1
  have S1 := Lib.hid hs1
  clear b1 be1 hs1
  generalize hact : Act.put _ (some 4) _ = act
  simp only [Act.put, List.setIfInBounds_toArray, List.set_cons_succ, List.set_cons_zero] at hact
  subst hact
  have hVB : vb < B := by rw [← hB.out]; exact HV.out.hb.lt
  go_upto_region 1 with (fail)
  refine region_begin (opsOf Tryd.f41 1) (fun w => Blk w B 35 (ints .u8 k)) (by kernel_rfl) (by kernel_rfl) 11 (by kernel_rfl) ?_
  intro Q' hQN hN
  have B2 : Hid (Below w.heap.size w w1.drew) := BL1.out.drew
  have X : Blk w1.drew B 35 (ints .u8 k) := B1.out.drew
  have S2 : Hid (w1.drew.heap.size = B + 1) := S1.out
  generalize w1.drew = w2 at B2 X S2 ⊢
  refine reg_now 0 (.pointer (some ⟨vb, 0, none⟩)) (some 6) hQN X (by kernel_rfl) (by kernel_rfl) (fun w => by kernel_rfl) ?_
  refine reg_now 1 (.pointer (some ⟨vb, 0, none⟩)) (some 7) hQN X (by kernel_rfl) (by kernel_rfl) (fun w => by kernel_rfl) ?_
  refine reg_now 2 (.pointer (some ⟨vb, 0, none⟩)) (some 8) hQN X (by kernel_rfl) (by kernel_rfl) (fun w => by kernel_rfl) ?_
  refine reg_now 3 (.pointer (some ⟨vb, 2, none⟩)) (some 9) hQN X (by kernel_rfl) (by kernel_rfl) (fun w => by kernel_rfl) ?_
  refine reg_nowIf 5 (.agg (ints .u8 k).toArray) (some 11) hQN X (by kernel_rfl) (by kernel_rfl) (fun w hw => exec_load_mid 35 (.tmp 4) (by kernel_rfl) B 0 (by kernel_rfl) (ints .u8 k) _ hw.whole digUnder rfl KS.out) ?_
  have hrow := run_build_dig k HK.out.1 w2
  have b3 : Blk (w2.alloc (.cells (ints .u8 k).toArray 35)) w2.heap.size 35 (ints .u8 k) := Blk.new _ _ _
  have X3 : Blk (w2.alloc (.cells (ints .u8 k).toArray 35)) B 35 (ints .u8 k) := X.alloc _
  have B3 : Hid (Below w.heap.size w (w2.alloc (.cells (ints .u8 k).toArray 35))) := B2.out.trans ((Below.refl _ _).alloc (by rw [S2.out, hB.out]; omega) _)
  have S3 : Hid ((w2.alloc (.cells (ints .u8 k).toArray 35)).heap.size = B + 2) := by unfold Hid; simp [S2.out]
  rw [S2.out] at hrow b3
  generalize w2.alloc (.cells (ints .u8 k).toArray 35) = w3 at hrow b3 X3 B3 S3
  have c2 : ∀ wr : World, Below w.heap.size w wr → wr.cell? ⟨vb, 2, none⟩ = some kv := fun wr hb => (HV.out.below hb).c2
  refine reg_swap (w' := w3) 4 6 kv (.slice (some ⟨B + 1, 0, none⟩) 1 1) (some 10) (some 12) X X3 (by kernel_rfl) (by decide) (by kernel_rfl) (by kernel_rfl) (exec_load_cell 33 (.tmp 9) (by kernel_rfl) vb 2 (by kernel_rfl) _ (c2 _ B2.out) _ Tryd.underlying33 rfl) (exec_of (Instr.buildSlice 33 1 #[(0, .agg (ints .u8 k).toArray)]) _ (by kernel_rfl) hrow) (exec_of (Instr.buildSlice 33 1 #[(0, .agg (ints .u8 k).toArray)]) _ (by kernel_rfl) hrow) (exec_load_cell 33 (.tmp 9) (by kernel_rfl) vb 2 (by kernel_rfl) _ (c2 _ B3.out) _ Tryd.underlying33 rfl) (fun d hd => by cases hd; decide) ?_
  obtain ⟨i0, hi0, hz0, hz1, hz2⟩ := info_parts infoDigV
  obtain ⟨g, cap, W7, hr7, ho7, hg7, hat7, hlt7⟩ := run_append_lies (P := Tryd.prog) w3 33 33 0 35 i0 _ 32 32 elemDigV hi0 hz0 hz1 hz2 (by rw [show (Value.agg (ints .u8 (List.replicate 32 0)).toArray).cells = (ints .u8 (List.replicate 32 0)).toArray from rfl, List.size_toArray, ints_length, List.length_replicate]) (by decide) kv n (ints .u8 (keysF es)) (by rw [← hn.out]; exact (HV.out.below B3.out).hk) ⟨B + 1, 0, none⟩ 1 1 (ints .u8 k) (by rw [ints_length, HK.out.1]) (fun j u hj => by rw [Addr.add_mid]; exact b3.whole j u hj) (ints_one _ _) (by omega) (by unfold maxLen; omega) (by omega) (Nat.zero_le _) _ rfl
  have kvne : ∀ g, kv.ownBlock = some g → g ≠ vb ∧ g < B := fun g hg => ⟨HV.out.n1 g hg, by rw [← hB.out]; exact (HV.out.hk.lt g hg).2⟩
  have X7 : Blk W7 B 35 (ints .u8 k) := by unfold Blk; rw [hg7.block B X3.lt (fun e => by have := (kvne B e.symm).2; omega)]; exact X3
  have V7 : Blk W7 vb 73 (vcells d ap kv mb) := by unfold Blk; rw [hg7.block vb (by rw [S3.out]; omega) (fun e => (kvne vb e.symm).1 rfl)]; exact (HV.out.below B3.out).hb
  refine reg_value 7 (.slice (some ⟨g, 0, none⟩) (n + 1) cap) (some 13) W7 (by kernel_rfl) (by kernel_rfl) (exec_of (Builtin.append_ #[33, 33] 33 #[kv, .slice (some ⟨B + 1, 0, none⟩) 1 1]) _ (by kernel_rfl) hr7) X7 ?_
  refine reg_now 8 (.pointer (some ⟨vb, 0, none⟩)) (some 14) hQN X7 (by kernel_rfl) (by kernel_rfl) (fun w => by kernel_rfl) ?_
  refine reg_now 9 (.pointer (some ⟨vb, 2, none⟩)) (some 15) hQN X7 (by kernel_rfl) (by kernel_rfl) (fun w => by kernel_rfl) ?_
  have V8 : Blk (W7.setCell ⟨vb, 2, none⟩ (.slice (some ⟨g, 0, none⟩) (n + 1) cap)) vb 73 (vcells d ap (.slice (some ⟨g, 0, none⟩) (n + 1) cap) mb) := V7.set 2 _
  have X8 : Blk (W7.setCell ⟨vb, 2, none⟩ (.slice (some ⟨g, 0, none⟩) (n + 1) cap)) B 35 (ints .u8 k) := X7.other (a := ⟨vb, 2, none⟩) (show B ≠ vb by omega) _
  have U8 : Upd vb W7 (W7.setCell ⟨vb, 2, none⟩ (.slice (some ⟨g, 0, none⟩) (n + 1) cap)) := (Upd.refl vb W7).setCell 2 _
  refine reg_store 10 (W7.setCell ⟨vb, 2, none⟩ (.slice (some ⟨g, 0, none⟩) (n + 1) cap)) (by kernel_rfl) (by kernel_rfl) (exec_store_cell 33 (.tmp 15) (.tmp 13) (by kernel_rfl) vb 2 _ (by kernel_rfl) (by kernel_rfl) _ _ V7 (by simp [vcells]) (by kernel_rfl) rfl rfl) X8 ?_
  refine reg_done (by kernel_rfl) (hN _ _ ?_)
  generalize W7.setCell ⟨vb, 2, none⟩ (.slice (some ⟨g, 0, none⟩) (n + 1) cap) = W8 at V8 X8 U8 ⊢
  obtain ⟨vs, hvs, hve⟩ := HV.out.hm
  have HVS := Lib.hid hvs
  have HVE := Lib.hid hve
  have HO7 := Lib.hid ho7
  have HG7 := Lib.hid hg7
  have HAT := Lib.hid hat7
  have HV8 := Lib.hid V8
  have HX8 := Lib.hid X8
  have HU8 := Lib.hid U8
  have M8 : Hid (Mp W8 mb (es.map (·.1)) vs) := by
    refine (hvs.same (B3.out.block mb hvs.lt)).same ?_
    have l3 : mb < w3.heap.size := Nat.lt_of_lt_of_le hvs.lt B3.out.size
    rw [U8.block mb (Nat.lt_of_lt_of_le l3 hg7.size) (Ne.symm (hvs.notcells HV.out.hb)), hg7.block mb l3 (fun e => hvs.notrow HV.out.hk mb e.symm rfl)]
  have UB8 : Hid (BytesIn W8 u zs) := by
    obtain ⟨ua, uc, e1, e2, e3⟩ := HU.out
    refine ⟨ua, uc, e1, e2, fun hp => ?_⟩
    obtain ⟨pb, po, h1, h2, h3, h4⟩ := e3 hp
    have l3 : pb < w3.heap.size := Nat.lt_of_lt_of_le h3 B3.out.size
    refine ⟨pb, po, h1, ?_, fun j v hv => ?_⟩
    · have := hg7.size; have := U8.size; omega
    · have ne1 : pb ≠ vb := fun e => h2 (by simp [vfoot, e])
      have ne2 : some pb ≠ kv.ownBlock := fun e => h2 (by simp [vfoot, ← e])
      rw [World.cell?_of_block (w := w) (a := ⟨pb, po + j, none⟩) ((U8.block pb (Nat.lt_of_lt_of_le l3 hg7.size) ne1).trans ((hg7.block pb l3 ne2).trans (B3.out.block pb h3)))]
      exact h4 j v hv
  clear hvs hve ho7 hg7 hat7 hlt7 V8 X8 U8 V7 X7 kvne c2 hrow b3 X3 X B2 S2 S3 hr7 hQN hN hi0 hz0 hz1 hz2 B1 BL1 S1
  generalize hact : Act.put _ none undef = act
  simp only [Act.put, List.setIfInBounds_toArray, List.set_cons_succ, List.set_cons_zero] at hact
  subst hact
  go_upto_region 2 with (fail)
  refine region_begin (opsOf Tryd.f41 2) (fun w => Blk w B 35 (ints .u8 k) ∧ w.cell? ⟨vb, 3, none⟩ = some (.map (some mb))) (by kernel_rfl) (by kernel_rfl) 8 (by kernel_rfl) ?_
  intro Q' hQN hN
  have X9 : Blk W8.drew B 35 (ints .u8 k) ∧ W8.drew.cell? ⟨vb, 3, none⟩ = some (.map (some mb)) := ⟨HX8.out.drew, HV8.out.drew.cell rfl⟩
  have B8 : Hid (Below W8.heap.size W8 W8.drew) := (Below.refl _ _).drew
  have E8 : Hid (W8.drew.heap.size = W8.heap.size) := rfl
  generalize W8.drew = W8' at X9 B8 E8 ⊢
  refine reg_now 0 (.pointer (some ⟨vb, 0, none⟩)) (some 16) hQN X9 (by kernel_rfl) (by kernel_rfl) (fun w => by kernel_rfl) ?_
  refine reg_now 1 (.pointer (some ⟨vb, 0, none⟩)) (some 17) hQN X9 (by kernel_rfl) (by kernel_rfl) (fun w => by kernel_rfl) ?_
  refine reg_now 2 (.pointer (some ⟨vb, 3, none⟩)) (some 18) hQN X9 (by kernel_rfl) (by kernel_rfl) (fun w => by kernel_rfl) ?_
  refine reg_nowIf 3 (.map (some mb)) (some 19) hQN X9 (by kernel_rfl) (by kernel_rfl) (fun w hw => exec_load_cell 71 (.tmp 18) (by kernel_rfl) vb 3 (by kernel_rfl) _ hw.2 _ Tryd.underlying71 rfl) ?_
  refine reg_nowIf 4 (.agg (ints .u8 k).toArray) (some 20) hQN X9 (by kernel_rfl) (by kernel_rfl) (fun w hw => exec_load_mid 35 (.tmp 4) (by kernel_rfl) B 0 (by kernel_rfl) (ints .u8 k) _ hw.1.whole digUnder rfl KS.out) ?_
  refine reg_now 5 (u) (some 21) hQN X9 (by kernel_rfl) (by kernel_rfl) (fun w => by kernel_rfl) ?_
  refine reg_call 6 61 #[u] (some 22) _ (by kernel_rfl) (by kernel_rfl) (by kernel_rfl) (cloneb_walk u zs _ (UB8.out.below B8.out (Nat.le_refl _)) HNI.out (by have := HZ.out.1; omega)) ?_
  rintro e W9 ⟨cv, rfl, hoc, hbc⟩
  have B9 : Below W8.heap.size W8 W9 := B8.out.trans (by rw [← E8.out]; exact hbc)
  have X10 : Blk W9 B 35 (ints .u8 k) ∧ W9.cell? ⟨vb, 3, none⟩ = some (.map (some mb)) := ⟨HX8.out.below B9 HX8.out.lt, (HV8.out.below B9 HV8.out.lt).cell rfl⟩
  refine ⟨_, rfl, X10, ?_⟩
  have M9 : Mp W9 mb (es.map (·.1)) vs := M8.out.same (B9.block mb M8.out.lt)
  obtain ⟨W10, hr10, m10, u10⟩ := M9.update Tryd.underlying71 HK.out HNK.out cv
  have vmb : vb ≠ mb := M9.notcells (HV8.out.below B9 HV8.out.lt)
  have bmb : B ≠ mb := M9.notcells X10.1
  have X11 : Blk W10 B 35 (ints .u8 k) ∧ W10.cell? ⟨vb, 3, none⟩ = some (.map (some mb)) := ⟨u10.blk X10.1 bmb, (u10.blk (HV8.out.below B9 HV8.out.lt) vmb).cell rfl⟩
  refine reg_store 7 W10 (by kernel_rfl) (by kernel_rfl) (exec_skip (Instr.mapUpdate 71 (.map (some mb)) (kval k) cv) (by kernel_rfl) hr10) X11 ?_
  refine reg_done (by kernel_rfl) (hN _ _ ?_)
  have hfin := HV.out.held HG.out B3.out hn.out HO7.out HG7.out HAT.out HU8.out HV8.out B9 (by rw [← E8.out]; exact hoc) HVS.out HVE.out m10 u10 HZ.out
  have F1 := Lib.hid hfin.1
  have F2 := Lib.hid hfin.2
  clear hfin hr10 m10 u10 X11 X10 M9 vmb bmb hoc hbc B9 X9 B8 E8 UB8 M8 HX8 HV8 HU8 HAT HG7 HO7 HVS HVE hQN hN
  generalize hact : Act.put _ none undef = act
  simp only [Act.put, List.setIfInBounds_toArray, List.set_cons_succ, List.set_cons_zero] at hact
  subst hact
  go_wp2
  go_end0
  exact ⟨_, rfl, F1.out, F2.out⟩
end Go.Proofs.YtngpmilojfbpmaaDoor
