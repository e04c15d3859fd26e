/- The statements' own helpers of layer 6: key, entries, and the reference's Same (of lists that are one). -/
import Derived.Test.YtngpmilojfbpmaaDoorVltK
import Derived.Test.YtngpmilojfbpmaaDoorGenF
import Derived.Test.YtngpmilojfbpmaaDoorDskM
namespace Go.Proofs.YtngpmilojfbpmaaDoor
open Go Go.RowKit
set_option maxRecDepth 100000

def keyL (c : Int) : List Int := c :: 0 :: 9 :: List.replicate 29 0
theorem keyL_good {c : Int} (h : 0 ≤ c ∧ c ≤ 255) : goodK (keyL c) := ⟨rfl, fun x hx => by
  rcases List.mem_cons.1 hx with rfl | hx
  · exact h
  · rcases List.mem_cons.1 hx with rfl | hx
    · omega
    · rcases List.mem_cons.1 hx with rfl | hx
      · omega
      · have := (List.mem_replicate.1 hx).2; omega⟩
theorem keyL_inj {a b : Int} (h : keyL a = keyL b) : a = b := by cases h; rfl
theorem run_build_key (c : Int) (w : World) : (Instr.build 35 #[(0, .int .u8 c), (1, .int .u8 0), (2, .int .u8 9)]).run Tryd.prog w = .ok (.agg (ints .u8 (keyL c)).toArray) w := by kernel_rfl
theorem key_infoD (c : Int) : (Tryd.prog.info? 35).map (·.size) = some (ints .u8 (keyL c)).length := infoDigest
theorem v6key_walk (c : Int) (w : World) : Calls Tryd.prog 24 #[.int .u8 c] w fun e w' => e = .returned (kval (keyL c)) ∧ Below w.heap.size w w' := by
  show Calls Tryd.prog 24 #[.int .u8 c] w fun e w' => e = .returned (.agg (ints .u8 (keyL c)).toArray) ∧ Below w.heap.size w w'
  obtain ⟨B, hB⟩ : ∃ B, Hid (w.heap.size = B) := ⟨_, rfl⟩
  go_enter Tryd.func24, Tryd.ntmps24
  go_upto_region 0 with (fail)
  refine lin_begin (opsOf Tryd.f24 0) (by kernel_rfl) ?_
  refine lin_alloc 0 35 (ints .u8 z32) (B) (some 2) (by kernel_rfl) (by kernel_rfl) (by kernel_rfl) zeroDig hB ?_
  intro w1 b1 be1 hs1
  refine lin_done 1 (by kernel_rfl) ?_
  have BL1 : Hid (Below w.heap.size w w1) := by rw [Hid, hB.out]; exact be1
  have B1 := Lib.hid b1
  clear b1 be1 hs1
  generalize hact : Act.put _ (some 2) _ = act
  simp only [Act.put, List.setIfInBounds_toArray, List.set_cons_succ, List.set_cons_zero] at hact
  subst hact
  go_upto_region 1 with (fail)
  refine lin_begin (opsOf Tryd.f24 1) (by kernel_rfl) ?_
  refine lin_now 0 (.int .u8 c) (some 3) (by kernel_rfl) (by kernel_rfl) (by kernel_rfl) ?_
  refine lin_now 1 (.agg (ints .u8 (keyL c)).toArray) (some 4) (by kernel_rfl) (by kernel_rfl) (exec_of (Instr.build 35 #[(0, .int .u8 c), (1, .int .u8 0), (2, .int .u8 9)]) _ (by kernel_rfl) (run_build_key c _)) ?_
  refine lin_put 2 35 (.tmp 2) (.tmp 4) B _ (ints .u8 z32) (ints .u8 (keyL c)) (by kernel_rfl) (by kernel_rfl) (by kernel_rfl) (by kernel_rfl) (by kernel_rfl) B1.out rfl (key_infoD c) (ints_oneCell _ _) ?_
  intro w2 b2 u2
  refine lin_done 3 (by kernel_rfl) ?_
  have BL2 : Hid (Below w.heap.size w w2) := u2.below BL1.out (Nat.le_of_eq hB.out) BL1.out.size
  have B2 := Lib.hid b2
  clear b2 u2 B1 BL1
  generalize hact : Act.put _ none undef = act
  simp only [Act.put, List.setIfInBounds_toArray, List.set_cons_succ, List.set_cons_zero] at hact
  subst hact
  go_wp2
  refine bodyPost_ret (v := .agg (ints .u8 (keyL c)).toArray) ?_ rfl ⟨rfl, BL2.out⟩
  exact results_cell_row (g := B) (t := 35) (cs := (ints .u8 (keyL c)).toArray) (fr := (0, 0)) Tryd.results24 _ _ _ rfl B2.out Tryd.underlying35 rfl (by rw [List.size_toArray]; exact key_infoD c)
/-- Entries in a row, off some blocks. -/
def EntsOff (G : List Nat) (w : World) (v : Value) (es : List Ent) : Prop :=
  ∃ a cap, v = .slice a es.length cap ∧ es.length ≤ cap ∧ (0 < es.length → ∃ pb po, a = some ⟨pb, po, none⟩ ∧ pb ∉ G ∧ pb < w.heap.size ∧
    ∀ (i : Nat) (e : Ent), es[i]? = some e → w.rangeAt pb (po + 33 * i) (ints .u8 e.1) ∧ ∃ u, w.cell? ⟨pb, po + 33 * i + 32, none⟩ = some u ∧ BytesOff G w u e.2 ∧ NilOk u)
theorem EntsOff.step {G G' : List Nat} {w w' : World} {v : Value} {es : List Ent} (h : EntsOff G w v es) (hs : Step G w G' w') : EntsOff G' w' v es := by
  obtain ⟨a, cap, h1, h2, h3⟩ := h
  refine ⟨a, cap, h1, h2, fun hp => ?_⟩
  obtain ⟨pb, po, h4, h5, h6, h7⟩ := h3 hp
  have hc : ∀ o, w'.cell? ⟨pb, o, none⟩ = w.cell? ⟨pb, o, none⟩ := fun o => World.cell?_of_block (w := w) (a := ⟨pb, o, none⟩) (hs.block pb h6 h5)
  refine ⟨pb, po, h4, hs.off h6 h5, Nat.lt_of_lt_of_le h6 hs.size, fun i e he => ?_⟩
  obtain ⟨h8, u, h9, h10, h11⟩ := h7 i e he
  exact ⟨fun j x hx => by rw [hc]; exact h8 j x hx, u, by rw [hc]; exact h9, h10.step hs, h11⟩
theorem EntsOff.below {G : List Nat} {w w' : World} {v : Value} {es : List Ent} (h : EntsOff G w v es) (hb : Below w.heap.size w w') : EntsOff G w' v es := h.step (Step.of_below hb (Nat.le_refl _))
theorem EntsOff.sub {F G : List Nat} {w : World} {v : Value} {es : List Ent} (h : EntsOff F w v es) (hs : ∀ k ∈ G, k ∈ F) : EntsOff G w v es := by
  obtain ⟨a, cap, h1, h2, h3⟩ := h
  refine ⟨a, cap, h1, h2, fun hp => ?_⟩
  obtain ⟨pb, po, h4, h5, h6, h7⟩ := h3 hp
  refine ⟨pb, po, h4, fun hc => h5 (hs pb hc), h6, fun i e he => ?_⟩
  obtain ⟨h8, u, h9, h10, h11⟩ := h7 i e he
  exact ⟨h8, u, h9, h10.sub hs, h11⟩
theorem EntsOff.take {G : List Nat} {w : World} {a : Option Addr} {n cap K : Nat} {es : List Ent} (h : EntsOff G w (.slice a n cap) es) (hK : K ≤ es.length) : EntsOff G w (.slice a K cap) (es.take K) := by
  obtain ⟨a', cap', h1, h2, h3⟩ := h
  obtain ⟨rfl, rfl, rfl⟩ := Value.slice.inj h1
  have hl : (es.take K).length = K := by rw [List.length_take]; omega
  refine ⟨a, cap, by rw [hl], by omega, fun hp => ?_⟩
  obtain ⟨pb, po, h4, h5, h6, h7⟩ := h3 (by omega)
  refine ⟨pb, po, h4, h5, h6, fun i e he => h7 i e ?_⟩
  rw [List.getElem?_take] at he
  split at he
  · exact he
  · cases he
def ecells : List Ent → List Value → List Value
  | e :: es, v :: vs => ints .u8 e.1 ++ v :: ecells es vs
  | _, _ => []
theorem ecells_length : ∀ (es : List Ent) (vs : List Value), vs.length = es.length → (∀ e ∈ es, e.1.length = 32) → (ecells es vs).length = es.length * 33
  | [], [], _, _ => rfl
  | [], _ :: _, h, _ => by simp at h
  | _ :: _, [], h, _ => by simp at h
  | e :: es, v :: vs, h, h32 => by
    have ih := ecells_length es vs (by simpa using h) (fun x hx => h32 x (List.mem_cons_of_mem _ hx))
    rw [ecells, List.length_append, List.length_cons, ih, ints_length, h32 e (by simp), List.length_cons]
    omega
theorem ecells_at : ∀ (es : List Ent) (vs : List Value) (i : Nat) (e : Ent) (v : Value), vs.length = es.length → (∀ e ∈ es, e.1.length = 32) → es[i]? = some e → vs[i]? = some v → ∃ r, (ecells es vs).drop (33 * i) = ints .u8 e.1 ++ v :: r
  | [], _, i, e, v, _, _, h, _ => by simp at h
  | _ :: _, [], i, e, v, h, _, _, _ => by simp at h
  | e0 :: es, v0 :: vs, i, e, v, h, h32, he, hv => by
    cases i with
    | zero =>
      obtain rfl : e0 = e := by simpa using he
      obtain rfl : v0 = v := by simpa using hv
      exact ⟨ecells es vs, rfl⟩
    | succ i =>
      obtain ⟨r, hr⟩ := ecells_at es vs i e v (by simpa using h) (fun x hx => h32 x (List.mem_cons_of_mem _ hx)) (by simpa using he) (by simpa using hv)
      refine ⟨r, ?_⟩
      have hl : (ints .u8 e0.1 ++ [v0]).length = 33 := by rw [List.length_append, ints_length, h32 e0 (by simp)]; rfl
      rw [← hr, ecells, show 33 * (i + 1) = 33 + 33 * i by omega, ← List.drop_drop]
      congr 1
      rw [show ints .u8 e0.1 ++ v0 :: ecells es vs = (ints .u8 e0.1 ++ [v0]) ++ ecells es vs by simp, List.drop_append_of_le_length (by omega), List.drop_of_length_le (by omega), List.nil_append]
theorem ecells_snoc : ∀ (es : List Ent) (vs : List Value) (e : Ent) (v : Value), vs.length = es.length → ecells (es ++ [e]) (vs ++ [v]) = ecells es vs ++ (ints .u8 e.1 ++ [v])
  | [], [], e, v, _ => by simp [ecells]
  | [], _ :: _, _, _, h => by simp at h
  | _ :: _, [], _, _, h => by simp at h
  | e0 :: es, v0 :: vs, e, v, h => by
    rw [List.cons_append, List.cons_append, ecells, ecells, ecells_snoc es vs e v (by simpa using h)]
    simp
/-- Entries in a row of the call's own. -/
def OwnE (w : World) (B : Nat) (ov : Value) (es : List Ent) : Prop :=
  ∃ vs, w.ownsRow B 38 33 ov es.length (ecells es vs) ∧ vs.length = es.length ∧ (∀ e ∈ es, e.1.length = 32) ∧ ∀ (i : Nat) (v : Value) (e : Ent), vs[i]? = some v → es[i]? = some e → (∀ F : List Nat, (∀ k ∈ F, k < B ∨ ov.ownBlock = some k) → BytesOff F w v e.2) ∧ NilOk v
theorem OwnE.below {w w' : World} {B : Nat} {ov : Value} {es : List Ent} (h : OwnE w B ov es) (hb : Below w.heap.size w w') : OwnE w' B ov es := by
  obtain ⟨vs, h1, h2, h3, h4⟩ := h
  exact ⟨vs, own_step (F := []) (F' := []) h1 (Step.of_below hb (Nat.le_refl _)) (fun g _ => by simp), h2, h3, fun i v e hv he => ⟨fun F hF => ((h4 i v e hv he).1 F hF).step (Step.of_below hb (Nat.le_refl _)), (h4 i v e hv he).2⟩⟩
theorem OwnE.off {w : World} {B : Nat} {ov : Value} {es : List Ent} (h : OwnE w B ov es) {G : List Nat} (hG : ∀ k ∈ G, k < B) : EntsOff G w ov es := by
  obtain ⟨vs, ⟨h0, h1⟩, h2, h3, h4⟩ := h
  rcases h1 with ⟨rfl, hn⟩ | ⟨g, cap, cur, rfl, hg, hb, hc, hm, hs, ht⟩
  · exact ⟨none, 0, by rw [hn], by omega, fun hp => by omega⟩
  · refine ⟨some ⟨g, 0, none⟩, cap, rfl, hc, fun _ => ⟨g, 0, rfl, fun hc => by have := hG g hc; omega, (Array.getElem?_eq_some_iff.1 hb).1, fun i e he => ?_⟩⟩
    have hil := (List.getElem?_eq_some_iff.1 he).1
    obtain ⟨v, hv⟩ : ∃ v, vs[i]? = some v := ⟨_, List.getElem?_eq_getElem (by omega)⟩
    obtain ⟨r, hr⟩ := ecells_at es vs i e v h2 h3 he hv
    have hcell : ∀ j x, (ints .u8 e.1 ++ v :: r)[j]? = some x → w.cell? ⟨g, 33 * i + j, none⟩ = some x := fun j x hx => by
      rw [cell_of_row w g (33 * i + j) cur 38 (0, 0) hb]
      rw [← hr, List.getElem?_drop, ← ht, List.getElem?_take] at hx
      split at hx
      · simpa using hx
      · cases hx
    have h32 : e.1.length = 32 := h3 e (List.mem_of_getElem? he)
    refine ⟨fun j x hx => ?_, v, ?_, (h4 i v e hv he).1 G (fun k hk => .inl (hG k hk)), (h4 i v e hv he).2⟩
    · rw [Nat.zero_add]
      refine hcell j x ?_
      have hj := (List.getElem?_eq_some_iff.1 hx).1
      rw [List.getElem?_append_left hj]
      exact hx
    · rw [Nat.zero_add]
      refine hcell 32 v ?_
      rw [List.getElem?_append_right (by rw [ints_length]; omega), ints_length, h32]
      rfl
theorem infoEnt : (Tryd.prog.info? 38).map (fun i => (i.zero, i.size, i.bytes)) = some (some (.agg ((ints .u8 (List.replicate 32 0)) ++ [Value.slice none 0 0]).toArray), 33, 56) := by kernel_rfl
theorem elemEnt : Tryd.prog.underlying 32 = some (.slice 38) := by kernel_rfl
theorem run_at_ent (B off n cap m : Nat) (hm : m < n) (w : World) : (Instr.indexAt 32 (.slice (some ⟨B, off, none⟩) n cap) (.int .i64 (m : Int))).run Tryd.prog w = .ok (.pointer (some ⟨B, off + 33 * m, none⟩)) w := by
  rw [run_indexAt_slice w 32 _ _ _ _ _ (show Tryd.prog.underlying 32 = some (.slice (Tryd.prog.elem 32)) by kernel_rfl)]
  have hz : (sizeOf (Tryd.prog.elem 32)).run Tryd.prog w = .ok 33 w := by kernel_rfl
  rw [if_pos (by omega), hz, Result.andThen_ok, Addr.add_mid, Int.toNat_natCast, Nat.mul_comm]
/-- One more. -/
theorem OwnE.snoc {w w2 w3 : World} {B : Nat} {ov : Value} {es : List Ent} {e : Ent} {v : Value} {g n cap : Nat} (h : OwnE w B ov es) (hB : B ≤ w.heap.size) (hn : es.length = n) (hb : Below w.heap.size w w2) {vs : List Value} (hvl : vs.length = es.length) (hve : ∀ (i : Nat) (v : Value) (e : Ent), vs[i]? = some v → es[i]? = some e → (∀ F : List Nat, (∀ k ∈ F, k < B ∨ ov.ownBlock = some k) → BytesOff F w v e.2) ∧ NilOk v)
    (hv : ∀ F : List Nat, (∀ k ∈ F, k < w.heap.size ∨ w2.heap.size ≤ k) → BytesOff F w2 v e.2) (hnl : NilOk v) (he : e.1.length = 32) (ho : w3.ownsRow B 38 33 (.slice (some ⟨g, 0, none⟩) (n + 1) cap) (n + 1) (ecells es vs ++ (ints .u8 e.1 ++ [v]))) (hg : w2.grownBy w3 ov.ownBlock) (hat : ov.ownBlock = some g ∨ g = w2.heap.size) : OwnE w3 B (.slice (some ⟨g, 0, none⟩) (n + 1) cap) (es ++ [e]) := by
  have h32 : ∀ x ∈ es, x.1.length = 32 := by obtain ⟨_, _, _, h, _⟩ := h; exact h
  have hol : ∀ k, ov.ownBlock = some k → k < w.heap.size := by obtain ⟨_, h1, _⟩ := h; exact fun k hk => (h1.lt k hk).2
  have hsz := hb.size
  have sF : ∀ F : List Nat, Step (F ++ ov.ownBlock.toList) w2 (F ++ ov.ownBlock.toList) w3 := fun F => ⟨hg.os, hg.tape, hg.output, hg.size, fun k hk hkF => hg.block k hk (fun e => hkF (List.mem_append_right _ (by rw [← e]; simp))), fun k hk => .inl hk⟩
  refine ⟨vs ++ [v], by rw [ecells_snoc es vs e v hvl, List.length_append, hn]; exact ho, by simp [hvl], fun x hx => ?_, fun i v' e' hv' he' => ?_⟩
  · rcases List.mem_append.1 hx with h1 | h1
    · exact h32 x h1
    · obtain rfl : x = e := by simpa using h1
      exact he
  · by_cases hi : i < es.length
    · rw [List.getElem?_append_left (by omega)] at hv' he'
      obtain ⟨h1, h2⟩ := hve i v' e' hv' he'
      refine ⟨fun F hF => ?_, h2⟩
      have hA : BytesOff ((F ++ ov.ownBlock.toList).filter (fun k => decide (k < B ∨ ov.ownBlock = some k))) w v' e'.2 := h1 _ (fun k hk => by simpa using (List.mem_filter.1 hk).2)
      have hC := ((hA.step (Step.of_below hb (Nat.le_refl _))).more (G := F ++ ov.ownBlock.toList) (fun k hk => by
        by_cases hd : k < B ∨ ov.ownBlock = some k
        · exact .inl (List.mem_filter.2 ⟨hk, by simpa using hd⟩)
        · right
          rcases List.mem_append.1 hk with h3 | h3
          · rcases hF k h3 with h4 | h4
            · exact absurd (.inl h4) hd
            · obtain rfl : g = k := by simpa [Value.ownBlock] using h4
              rcases hat with h5 | h5
              · exact absurd (.inr h5) hd
              · omega
          · exact absurd (.inr (by simpa using h3)) hd))
      exact (hC.step (sF F)).sub (fun k hk => List.mem_append_left _ hk)
    · have hi2 : i = es.length := by
        have := (List.getElem?_eq_some_iff.1 he').1
        simp at this
        omega
      subst hi2
      rw [List.getElem?_append_right (by omega), Nat.sub_self] at he'
      rw [List.getElem?_append_right (by omega), hvl, Nat.sub_self] at hv'
      obtain rfl := Option.some.inj he'
      obtain rfl := Option.some.inj hv'
      refine ⟨fun F hF => ((hv (F ++ ov.ownBlock.toList) (fun k hk => ?_)).step (sF F)).sub (fun k hk => List.mem_append_left _ hk), hnl⟩
      rcases List.mem_append.1 hk with h3 | h3
      · rcases hF k h3 with h4 | h4
        · exact .inl (by omega)
        · obtain rfl : g = k := by simpa [Value.ownBlock] using h4
          rcases hat with h5 | h5
          · exact .inl (hol _ h5)
          · exact .inr (by omega)
      · exact .inl (hol k (by simpa using h3))
theorem run_build_ent32 (x0 x1 x2 x3 x4 x5 x6 x7 x8 x9 x10 x11 x12 x13 x14 x15 x16 x17 x18 x19 x20 x21 x22 x23 x24 x25 x26 x27 x28 x29 x30 x31 : Int) (a : Option Addr) (n c : Nat) (w : World) : (Instr.build 38 #[(0, .agg (ints .u8 [x0, x1, x2, x3, x4, x5, x6, x7, x8, x9, x10, x11, x12, x13, x14, x15, x16, x17, x18, x19, x20, x21, x22, x23, x24, x25, x26, x27, x28, x29, x30, x31]).toArray), (1, .slice a n c)]).run Tryd.prog w = .ok (.agg (ints .u8 [x0, x1, x2, x3, x4, x5, x6, x7, x8, x9, x10, x11, x12, x13, x14, x15, x16, x17, x18, x19, x20, x21, x22, x23, x24, x25, x26, x27, x28, x29, x30, x31] ++ [Value.slice a n c]).toArray) w := by kernel_rfl
theorem run_build_ents32 (x0 x1 x2 x3 x4 x5 x6 x7 x8 x9 x10 x11 x12 x13 x14 x15 x16 x17 x18 x19 x20 x21 x22 x23 x24 x25 x26 x27 x28 x29 x30 x31 : Int) (a : Option Addr) (n c : Nat) (w : World) : (Instr.buildSlice 32 1 #[(0, .agg (ints .u8 [x0, x1, x2, x3, x4, x5, x6, x7, x8, x9, x10, x11, x12, x13, x14, x15, x16, x17, x18, x19, x20, x21, x22, x23, x24, x25, x26, x27, x28, x29, x30, x31] ++ [Value.slice a n c]).toArray)]).run Tryd.prog w = .ok (.slice (some ⟨w.heap.size, 0, none⟩) 1 1) (w.alloc (.cells (ints .u8 [x0, x1, x2, x3, x4, x5, x6, x7, x8, x9, x10, x11, x12, x13, x14, x15, x16, x17, x18, x19, x20, x21, x22, x23, x24, x25, x26, x27, x28, x29, x30, x31] ++ [Value.slice a n c]).toArray 38)) := by kernel_rfl
theorem run_build_ent (x : List Int) (hx : x.length = 32) (a : Option Addr) (n c : Nat) (w : World) : (Instr.build 38 #[(0, .agg (ints .u8 x).toArray), (1, .slice a n c)]).run Tryd.prog w = .ok (.agg (ints .u8 x ++ [Value.slice a n c]).toArray) w :=
  match x, hx with
  | [x0, x1, x2, x3, x4, x5, x6, x7, x8, x9, x10, x11, x12, x13, x14, x15, x16, x17, x18, x19, x20, x21, x22, x23, x24, x25, x26, x27, x28, x29, x30, x31], _ => run_build_ent32 x0 x1 x2 x3 x4 x5 x6 x7 x8 x9 x10 x11 x12 x13 x14 x15 x16 x17 x18 x19 x20 x21 x22 x23 x24 x25 x26 x27 x28 x29 x30 x31 a n c w
theorem run_build_ents (x : List Int) (hx : x.length = 32) (a : Option Addr) (n c : Nat) (w : World) : (Instr.buildSlice 32 1 #[(0, .agg (ints .u8 x ++ [Value.slice a n c]).toArray)]).run Tryd.prog w = .ok (.slice (some ⟨w.heap.size, 0, none⟩) 1 1) (w.alloc (.cells (ints .u8 x ++ [Value.slice a n c]).toArray 38)) :=
  match x, hx with
  | [x0, x1, x2, x3, x4, x5, x6, x7, x8, x9, x10, x11, x12, x13, x14, x15, x16, x17, x18, x19, x20, x21, x22, x23, x24, x25, x26, x27, x28, x29, x30, x31], _ => run_build_ents32 x0 x1 x2 x3 x4 x5 x6 x7 x8 x9 x10 x11 x12 x13 x14 x15 x16 x17 x18 x19 x20 x21 x22 x23 x24 x25 x26 x27 x28 x29 x30 x31 a n c w
end Go.Proofs.YtngpmilojfbpmaaDoor
/- The statements' own helpers of layer 6: entries, and the reference's Same (of lists that are one). -/
namespace Go.Proofs.YtngpmilojfbpmaaDoor
open Go Go.RowKit
set_option maxRecDepth 100000

theorem run_build_noent (w : World) : (Instr.buildSlice 32 0 #[]).run Tryd.prog w = .ok (.slice (some ⟨w.heap.size, 0, none⟩) 0 0) (w.alloc (.cells #[] 38)) := by kernel_rfl
def EnPost (es : List Ent) (w : World) (e : Ending) (w' : World) : Prop := ∃ v, e = .returned v ∧ OwnE w' w.heap.size v es ∧ Below w.heap.size w w' ∧ NilOk v
set_option maxHeartbeats 4000000 in
theorem entries_walk (G : List Nat) (vb d : Nat) (ap : Option Addr) (kv : Value) (mb : Nat) (es : List Ent) (w : World) (h : Vm w G vb d ap kv mb es) (hm : es.length ≤ 5000) : Calls Tryd.prog 15 #[.pointer (some ⟨vb, 0, none⟩)] w (EnPost es w) := by
  obtain ⟨B, hB⟩ : ∃ B, Hid (w.heap.size = B) := ⟨_, rfl⟩
  obtain ⟨n, hn⟩ : ∃ n, Hid (es.length = n) := ⟨_, rfl⟩
  have HV := Lib.hid h
  unfold EnPost
  rw [hB.out]
  rw [hn.out] at hm
  have GE : Hid (∀ e ∈ es, goodK e.1) := h.good
  have GSH : Hid (∀ e ∈ es, e.2.length ≤ 1000 ∧ isBytes e.2) := h.sh
  have GND : Hid ((es.map (·.1)).Nodup) := h.nodup
  have KL : Hid ((es.map (·.1)).length = n) := by unfold Hid; rw [List.length_map]; exact hn.out
  have K32 : Hid (∀ k ∈ es.map (·.1), k.length = 32) := fun k hk => by
    obtain ⟨e, he, rfl⟩ := List.mem_map.1 hk
    exact (h.good e he).1
  clear h
  go_enter Tryd.func15, Tryd.ntmps15
  go_upto_region 1 with (fail)
  refine lin_begin (opsOf Tryd.f15 1) (by kernel_rfl) ?_
  have hmk := run_build_noent w
  have B1 : Hid (Below w.heap.size w (w.alloc (.cells #[] 38))) := (Below.refl _ _).alloc (Nat.le_refl _) _
  have O1 : Hid (OwnE (w.alloc (.cells #[] 38)) B (.slice (some ⟨w.heap.size, 0, none⟩) 0 0) []) := ⟨[], ⟨rfl, .inr ⟨w.heap.size, 0, #[], rfl, Nat.le_of_eq hB.out.symm, heap_alloc_last w _, Nat.le_refl _, by unfold maxLen; omega, rfl, rfl⟩⟩, rfl, fun e he => by simp at he, fun i v e hv => by simp at hv⟩
  have S1 : Hid ((w.alloc (.cells #[] 38)).heap.size = B + 1) := by unfold Hid; simp [hB.out]
  rw [hB.out] at hmk O1
  generalize w.alloc (.cells #[] 38) = w1 at hmk B1 O1 S1
  refine lin_value 0 (.slice (some ⟨B, 0, none⟩) 0 0) (some 8) w1 (by kernel_rfl) (by kernel_rfl) (exec_of (Instr.buildSlice 32 0 #[]) _ (by kernel_rfl) hmk) ?_
  refine lin_now 1 (.slice (some ⟨B, 0, none⟩) 0 0) (some 3) (by kernel_rfl) (by kernel_rfl) (by kernel_rfl) ?_
  refine lin_done 2 (by kernel_rfl) ?_
  clear hmk
  generalize hact : Act.put _ (some 3) _ = act
  simp only [Act.put, List.setIfInBounds_toArray, List.set_cons_succ, List.set_cons_zero] at hact
  subst hact
  have V1 := Lib.hid (HV.out.below B1.out)
  go_wp2_with fail
  refine (vkeys_walk V1.out (by rw [hn.out]; omega)).mono ?_
  rintro e w2 ⟨kl, rfl, hko, hkb⟩
  have B2 : Hid (Below w.heap.size w w2) := B1.out.trans (hkb.mono B1.out.size)
  have O2 : Hid (OwnE w2 B (.slice (some ⟨B, 0, none⟩) 0 0) []) := O1.out.below hkb
  have KIN := Lib.hid hko.in
  obtain ⟨ka, kc, ekl⟩ := row_slice hko
  rw [KL.out] at ekl
  have KB0 : Hid (∀ k, kl.ownBlock = some k → k ≠ B) := fun k hk e => by have := (hko.lt k hk).1; have := S1.out; omega
  subst ekl
  have KB : Hid (∀ k, (match ka with | some a => some a.block | none => none) = some k → k ≠ B) := by intro k hk; exact KB0.out k (by cases ka with | none => simp at hk | some a => simpa [Value.ownBlock] using hk)
  clear hko hkb O1 V1
  go_wp2
  go_loopw [5, 3] (fun iv ov wr => ∃ (i : Nat) (oa : Option Addr) (oc : Nat), i ≤ n ∧ iv = .int .i64 (i : Int) ∧ ov = .slice oa i oc ∧ OwnE wr B (.slice oa i oc) (es.take i) ∧ NilOk (.slice oa i oc) ∧ Below w.heap.size w wr ∧ Upd B w2 wr ∧ Hid (∀ k, (Value.slice oa i oc).ownBlock = some k → k = B ∨ w2.heap.size ≤ k)) (fun iv _ _ => n - (intOf iv).toNat)
  case atStart => exact ⟨0, _, _, Nat.zero_le _, rfl, rfl, O2.out, trivial, B2.out, Upd.refl _ _, fun k hk => .inl (by simpa [Value.ownBlock] using hk.symm)⟩
  case round =>
    obtain ⟨i, oa, oc, hi, rfl, rfl, how, hnl, hbe, hb2, hob⟩ := hrel
    have OW := Lib.hid how
    have NL := Lib.hid hnl
    have BW := Lib.hid hbe
    have BX := Lib.hid hb2
    have OB : Hid (∀ k, (Value.slice oa i oc).ownBlock = some k → k = B ∨ w2.heap.size ≤ k) := hob.out
    clear how hnl hbe hb2 hob O2 B2 B1
    by_cases hlt : i < n
    · have r1 : (i : Int) < (n : Int) := by omega
      obtain ⟨pb, po, k, rfl, hpb, hki, hr⟩ := KIN.out.part K32.out KL.out hlt
      obtain ⟨e0, he0⟩ : ∃ e, es[i]? = some e := ⟨_, List.getElem?_eq_getElem (by rw [hn.out]; exact hlt)⟩
      have ek : e0.1 = k := by
        rw [List.getElem?_map, he0] at hki
        exact Option.some.inj hki
      have HE0 := Lib.hid he0
      have HM := Lib.hid (List.mem_of_getElem? he0)
      obtain ⟨ke, zs⟩ := e0
      simp only at ek
      subst ek
      have RK : Hid (∀ w' : World, Upd B w2 w' → w'.rangeAt pb (po + 32 * i) (ints .u8 ke)) := fun w' hb j v hv => by rw [hb.cell (p := ⟨pb, po + 32 * i + j, none⟩) hpb (KB.out pb rfl)]; exact hr j v hv
      have GK : Hid (goodK ke) := GE.out (ke, zs) HM.out
      have KS : Hid ((Tryd.prog.info? 35).map (·.size) = some (ints .u8 ke).length) := blk_goodK GK.out.1
      have VO : Hid (valOf es ke = some zs) := valOf_some GND.out HE0.out rfl
      have VW := Lib.hid (HV.out.below BW.out)
      have VP : Hid (Calls Tryd.prog 26 #[.pointer (some ⟨vb, 0, none⟩), kval ke] wr (VgPost es ke wr)) := vget_walk G vb d ap kv mb es ke wr VW.out GK.out
      clear hpb hki hr he0
      go_upto_region 6 with (fail)
      refine lin_begin (opsOf Tryd.f15 6) (by kernel_rfl) ?_
      refine lin_now 0 (.pointer (some ⟨vb, 0, none⟩)) (some 18) (by kernel_rfl) (by kernel_rfl) (by kernel_rfl) ?_
      refine lin_now 1 (.slice (some ⟨pb, po, none⟩) n kc) (some 19) (by kernel_rfl) (by kernel_rfl) (by kernel_rfl) ?_
      refine lin_now 2 (.int .i64 (i : Int)) (some 20) (by kernel_rfl) (by kernel_rfl) (by kernel_rfl) ?_
      refine lin_now 3 (.pointer (some ⟨pb, po + 32 * i, none⟩)) (some 21) (by kernel_rfl) (by kernel_rfl) (exec_indexAt 33 (.tmp 19) (.tmp 20) (by kernel_rfl) _ _ _ (by kernel_rfl) (by kernel_rfl) (run_at_dig pb po n kc i hlt wr)) ?_
      refine lin_now 4 (.agg (ints .u8 ke).toArray) (some 22) (by kernel_rfl) (by kernel_rfl) (exec_load_mid 35 (.tmp 21) (by kernel_rfl) pb (po + 32 * i) (by kernel_rfl) (ints .u8 ke) _ (RK.out _ BX.out) digUnder rfl KS.out) ?_
      refine lin_call 5 26 #[.pointer (some ⟨vb, 0, none⟩), .agg (ints .u8 ke).toArray] (some 23) _ (by kernel_rfl) (by kernel_rfl) (by kernel_rfl) (VP.out) ?_
      rintro e w4 ⟨v4, rfl, ho4, hb4⟩
      rw [VO.out] at ho4
      have O4 : Hid (w4.ownsRow wr.heap.size 5 1 v4 zs.length (ints .u8 zs)) := ho4
      obtain ⟨va, vc, ev, -⟩ := owns_bytes ho4
      obtain ⟨m, hm2⟩ : ∃ m, Hid (zs.length = m) := ⟨_, rfl⟩
      rw [show (Option.getD (some zs) []) = zs from rfl, hm2.out] at ev
      subst ev
      have B4 := Lib.hid hb4
      clear ho4 hb4
      refine ⟨_, rfl, ?_⟩
      obtain ⟨bb, hbb⟩ : ∃ b, Hid ((valOf es ke).isSome = b) := ⟨_, rfl⟩
      rw [hbb.out]
      refine lin_now 6 (.tuple #[.slice va m vc, .bool bb]) (some 17) (by kernel_rfl) (by kernel_rfl) (by kernel_rfl) ?_
      refine lin_now 7 (.slice va m vc) (some 24) (by kernel_rfl) (by kernel_rfl) (by kernel_rfl) ?_
      refine lin_now 8 (.bool bb) (some 25) (by kernel_rfl) (by kernel_rfl) (by kernel_rfl) ?_
      refine lin_now 9 (.slice va m vc) (some 6) (by kernel_rfl) (by kernel_rfl) (by kernel_rfl) ?_
      refine lin_now 10 (.bool bb) (some 7) (by kernel_rfl) (by kernel_rfl) (by kernel_rfl) ?_
      refine lin_done 11 (by kernel_rfl) ?_
      clear VP
      generalize hact : Act.put _ (some 7) _ = act
      simp only [Act.put, List.setIfInBounds_toArray, List.set_cons_succ, List.set_cons_zero] at hact
      subst hact
      have OW4 : Hid (OwnE w4 B (.slice oa i oc) (es.take i)) := OW.out.below B4.out
      have BX4 : Hid (Upd B w2 w4) := BX.out.trans (Upd.of_below B4.out (Nat.le_refl _))
      have BW4 : Hid (Below w.heap.size w w4) := BW.out.trans (B4.out.mono BW.out.size)
      obtain ⟨q, hq⟩ : ∃ q, Hid (w4.heap.size = q) := ⟨_, rfl⟩
      go_upto_region 7 with (fail)
      refine lin_begin (opsOf Tryd.f15 7) (by kernel_rfl) ?_
      refine lin_now 0 (.slice oa i oc) (some 26) (by kernel_rfl) (by kernel_rfl) (by kernel_rfl) ?_
      refine lin_now 1 (.slice (some ⟨pb, po, none⟩) n kc) (some 27) (by kernel_rfl) (by kernel_rfl) (by kernel_rfl) ?_
      refine lin_now 2 (.int .i64 (i : Int)) (some 28) (by kernel_rfl) (by kernel_rfl) (by kernel_rfl) ?_
      refine lin_now 3 (.pointer (some ⟨pb, po + 32 * i, none⟩)) (some 29) (by kernel_rfl) (by kernel_rfl) (exec_indexAt 33 (.tmp 27) (.tmp 28) (by kernel_rfl) _ _ _ (by kernel_rfl) (by kernel_rfl) (run_at_dig pb po n kc i hlt w4)) ?_
      refine lin_now 4 (.agg (ints .u8 ke).toArray) (some 30) (by kernel_rfl) (by kernel_rfl) (exec_load_mid 35 (.tmp 29) (by kernel_rfl) pb (po + 32 * i) (by kernel_rfl) (ints .u8 ke) _ (RK.out _ BX4.out) digUnder rfl KS.out) ?_
      refine lin_now 5 (.slice va m vc) (some 31) (by kernel_rfl) (by kernel_rfl) (by kernel_rfl) ?_
      refine lin_now 6 (.agg (ints .u8 ke ++ [Value.slice va m vc]).toArray) (some 32) (by kernel_rfl) (by kernel_rfl) (exec_of (Instr.build 38 #[(0, .agg (ints .u8 ke).toArray), (1, .slice va m vc)]) _ (by kernel_rfl) (run_build_ent ke GK.out.1 va m vc _)) ?_
      refine lin_newrow 7 38 (ints .u8 ke ++ [Value.slice va m vc]) q 1 (some 33) (by kernel_rfl) (by kernel_rfl) hq (exec_of (Instr.buildSlice 32 1 #[(0, .agg (ints .u8 ke ++ [Value.slice va m vc]).toArray)]) _ (by kernel_rfl) (run_build_ents ke GK.out.1 va m vc _)) ?_
      intro w5 b5 be5 hs5
      obtain ⟨i0, hi0, hz0, hz1, hz2⟩ := info_parts infoEnt
      have be5' : Below w4.heap.size w4 w5 := by rw [hq.out]; exact be5
      have B45 : Below wr.heap.size wr w5 := B4.out.trans (be5'.mono B4.out.size)
      obtain ⟨vs, ho0, hvl, h32, hve⟩ := OW.out
      have ho := own_step (F := []) (F' := []) ho0 (Step.of_below B45 (Nat.le_refl _)) (fun g _ => by simp)
      have tl : (es.take i).length = i := by rw [List.length_take, hn.out]; omega
      rw [tl] at ho
      have cl : (ints .u8 ke ++ [Value.slice va m vc]).length = 33 := by rw [List.length_append, ints_length, GK.out.1]; rfl
      obtain ⟨g, cap, w6, hr6, ho6, hg6, hat6, hlt6⟩ := run_append_lies (P := Tryd.prog) w5 32 32 B 38 i0 _ 33 56 elemEnt hi0 hz0 hz1 hz2 (by show (ints .u8 (List.replicate 32 0) ++ [Value.slice none 0 0]).toArray.size = 33; rw [List.size_toArray, List.length_append, ints_length, List.length_replicate]; rfl) (by decide) (.slice oa i oc) i (ecells (es.take i) vs) ho ⟨q, 0, none⟩ 1 1 (ints .u8 ke ++ [Value.slice va m vc]) (by rw [cl]) (fun j u hj => by rw [Addr.add_mid]; exact b5.whole j u hj) (fun u hu => by
        rcases List.mem_append.1 hu with h | h
        · exact ints_one _ _ u h
        · obtain rfl : u = Value.slice va m vc := (by simpa using h)
          rfl) (by omega) (by unfold maxLen; omega) (by omega) (by rw [← hB.out]; exact Nat.le_trans BW4.out.size be5'.size) _ rfl
      refine lin_value 8 (.slice (some ⟨g, 0, none⟩) (i + 1) cap) (some 34) w6 (by kernel_rfl) (by kernel_rfl) (exec_of (Builtin.append_ #[32, 32] 32 #[.slice oa i oc, .slice (some ⟨q, 0, none⟩) 1 1]) _ (by kernel_rfl) hr6) ?_
      refine lin_now 9 (.slice (some ⟨g, 0, none⟩) (i + 1) cap) (some 3) (by kernel_rfl) (by kernel_rfl) (by kernel_rfl) ?_
      refine lin_done 10 (by kernel_rfl) ?_
      have szB : B ≤ wr.heap.size := by rw [← hB.out]; exact BW.out.size
      have hsn := OwnE.snoc (w := wr) (w2 := w5) (w3 := w6) (e := (ke, zs)) (v := .slice va m vc) OW.out szB tl B45 (vs := vs) hvl hve (fun F hF => ((owns_off (w := wr) (w' := w4) (F := F.filter (· < wr.heap.size)) O4.out (fun k hk => by simpa using (List.mem_filter.1 hk).2)).step (Step.of_below be5' (Nat.le_refl _))).more (fun k hk => by
        rcases hF k hk with h | h
        · exact .inl (List.mem_filter.2 ⟨hk, by simpa using h⟩)
        · exact .inr h)) (owns_nilok O4.out) GK.out.1 ho6 hg6 hat6
      have tk : es.take (i + 1) = es.take i ++ [(ke, zs)] := by rw [List.take_add_one, HE0.out]; rfl
      have O6 : Hid (OwnE w6 B (.slice (some ⟨g, 0, none⟩) (i + 1) cap) (es.take (i + 1))) := by rw [Hid, tk]; exact hsn
      have BW6 : Hid (Below w.heap.size w w6) := (BW4.out.trans (be5'.mono BW4.out.size)).grown hg6 (Nat.le_trans BW4.out.size be5'.size) (fun k hk => by rw [hB.out]; exact (ho0.lt k hk).1)
      have U5 : Upd B w2 w5 := BX.out.trans (Upd.of_below B45 (Nat.le_refl _))
      have UX6 : Hid (Upd B w2 w6) := ⟨hg6.os.trans U5.os, hg6.tape.trans U5.tape, hg6.output.trans U5.output, Nat.le_trans U5.size hg6.size, fun k hk hkB => (hg6.block k (Nat.lt_of_lt_of_le hk U5.size) (fun e => by rcases OB.out k e.symm with h | h <;> omega)).trans (U5.block k hk hkB)⟩
      have OB6 : Hid (∀ k, (Value.slice (some ⟨g, 0, none⟩) (i + 1) cap).ownBlock = some k → k = B ∨ w2.heap.size ≤ k) := fun k hk => by
        obtain rfl : g = k := by simpa [Value.ownBlock] using hk
        rcases hat6 with h | h
        · exact OB.out g h
        · exact .inr (by have := U5.size; omega)
      clear hsn tk U5 ho0 ho hvl h32 hve hr6 ho6 hg6 hat6 hlt6 b5 be5 be5' hs5 B45 cl tl szB hi0 hz0 hz1 hz2 OW4 BX4 BW4 OW BW BX RK
      generalize hact : Act.put _ (some 3) _ = act
      simp only [Act.put, List.setIfInBounds_toArray, List.set_cons_succ, List.set_cons_zero] at hact
      subst hact
      go_wp2
      exact ⟨⟨i + 1, _, _, by omega, by go_num, rfl, O6.out, trivial, BW6.out, UX6.out, OB6⟩, by simp [intOf]; omega⟩
    · have r1 : ¬ (i : Int) < (n : Int) := by omega
      obtain rfl : i = n := by omega
      go_wp2
      go_ret
      exact ⟨_, rfl, by have h := OW.out; rw [List.take_of_length_le (by rw [hn.out]; exact Nat.le_refl _)] at h; exact h, by rw [← hB.out]; exact BW.out, NL.out⟩
theorem eqGuardDig : Tryd.prog.eqGuardType Tryd.prog.depth 35 = false := by kernel_rfl
set_option maxHeartbeats 4000000 in
theorem same_walk (v1 v2 : Value) (es : List Ent) (w : World) (h1 : EntsOff [] w v1 es) (h2 : EntsOff [] w v2 es) (hg : ∀ e ∈ es, goodK e.1 ∧ e.2.length ≤ 1000) (hm : es.length ≤ 1000000) : Calls Tryd.prog 14 #[v1, v2] w fun e w' => e = .returned (.bool true) ∧ ∃ n, w' = w.drewN n := by
  obtain ⟨a1, c1, rfl, -, hp1⟩ := h1
  obtain ⟨a2, c2, rfl, -, hp2⟩ := h2
  obtain ⟨n, hn⟩ : ∃ n, Hid (es.length = n) := ⟨_, rfl⟩
  rw [hn.out] at hp1 hp2 hm ⊢
  have HP1 := Lib.hid hp1
  have HP2 := Lib.hid hp2
  have HG := Lib.hid hg
  have qn : ((n : Int) != (n : Int)) = false := by simp
  clear hp1 hp2 hg
  go_enter Tryd.func14, Tryd.ntmps14
  go_wp2
  go_loopw [5, 41] (fun iv _ wr => ∃ (i d : Nat), i ≤ n ∧ iv = .int .i64 (i : Int) ∧ Hid (wr = w.drewN d)) (fun iv _ _ => n - (intOf iv).toNat)
  case atStart => exact ⟨0, 0, Nat.zero_le _, rfl, rfl⟩
  case round =>
    obtain ⟨i, d, hi, rfl, hwr⟩ := hrel
    obtain rfl := hwr.out
    by_cases hlt : i < n
    · have r1 : (i : Int) < (n : Int) := by omega
      obtain ⟨p1, o1, rfl, -, hb1, hr1⟩ := HP1.out (by omega)
      obtain ⟨p2, o2, rfl, -, hb2, hr2⟩ := HP2.out (by omega)
      obtain ⟨e, he⟩ : ∃ e, es[i]? = some e := ⟨_, List.getElem?_eq_getElem (by rw [hn.out]; exact hlt)⟩
      obtain ⟨k1, u1, cu1, bu1, nu1⟩ := hr1 i e he
      obtain ⟨k2, u2, cu2, bu2, nu2⟩ := hr2 i e he
      obtain ⟨k, zs⟩ := e
      obtain ⟨hgk, hgl⟩ := HG.out (k, zs) (List.mem_of_getElem? he)
      simp only at k1 k2 bu1 bu2 hgk hgl
      obtain ⟨x1, y1, rfl, -⟩ := id bu1
      obtain ⟨x2, y2, rfl, -⟩ := id bu2
      obtain ⟨m, hm2⟩ : ∃ m, Hid (zs.length = m) := ⟨_, rfl⟩
      rw [hm2.out] at cu1 bu1 cu2 bu2
      have R1 := Lib.hid k1
      have R2 := Lib.hid k2
      have CU1 := Lib.hid cu1
      have CU2 := Lib.hid cu2
      have BU1 : Hid (BytesIn w (.slice x1 m y1) zs) := bu1.in
      have BU2 : Hid (BytesIn w (.slice x2 m y2) zs) := bu2.in
      have ML : zs.length ≤ 4611686018427387904 := by omega
      have KL : Hid (k.length = 32) := hgk.1
      have KS : Hid ((Tryd.prog.info? 35).map (·.size) = some (ints .u8 k).length) := blk_goodK hgk.1
      clear hb1 hr1 hb2 hr2 k1 k2 cu1 cu2 bu1 bu2 nu1 nu2 he
      go_upto_region 6 with (fail)
      refine region_begin (opsOf Tryd.f14 6) (fun w' => ∃ m, w' = w.drewN m) (by kernel_rfl) (by kernel_rfl) 25 (by kernel_rfl) ?_
      intro Q' hQN hN
      have hS : ∃ m, (w.drewN d).drew = w.drewN m := ⟨d + 1, rfl⟩
      refine reg_now 0 (.slice (some ⟨p1, o1, none⟩) n c1) (some 17) hQN hS (by kernel_rfl) (by kernel_rfl) (fun w => by kernel_rfl) ?_
      refine reg_now 1 (.int .i64 (i : Int)) (some 18) hQN hS (by kernel_rfl) (by kernel_rfl) (fun w => by kernel_rfl) ?_
      refine reg_now 2 (.pointer (some ⟨p1, o1 + 33 * i, none⟩)) (some 19) hQN hS (by kernel_rfl) (by kernel_rfl) (fun w' => exec_indexAt 32 (.tmp 17) (.tmp 18) (by kernel_rfl) _ _ _ (by kernel_rfl) (by kernel_rfl) (run_at_ent p1 o1 n c1 i hlt w')) ?_
      refine reg_now 3 (.pointer (some ⟨p1, o1 + 33 * i, none⟩)) (some 20) hQN hS (by kernel_rfl) (by kernel_rfl) (fun w => by kernel_rfl) ?_
      refine reg_nowIf 4 (.agg (ints .u8 k).toArray) (some 21) hQN hS (by kernel_rfl) (by kernel_rfl) (fun w' hw => by obtain ⟨m, rfl⟩ := hw; exact exec_load_mid 35 (.tmp 20) (by kernel_rfl) p1 (o1 + 33 * i) (by kernel_rfl) (ints .u8 k) _ R1.out digUnder rfl KS.out) ?_
      refine reg_now 5 (.slice (some ⟨p2, o2, none⟩) n c2) (some 22) hQN hS (by kernel_rfl) (by kernel_rfl) (fun w => by kernel_rfl) ?_
      refine reg_now 6 (.int .i64 (i : Int)) (some 23) hQN hS (by kernel_rfl) (by kernel_rfl) (fun w => by kernel_rfl) ?_
      refine reg_now 7 (.pointer (some ⟨p2, o2 + 33 * i, none⟩)) (some 24) hQN hS (by kernel_rfl) (by kernel_rfl) (fun w' => exec_indexAt 32 (.tmp 22) (.tmp 23) (by kernel_rfl) _ _ _ (by kernel_rfl) (by kernel_rfl) (run_at_ent p2 o2 n c2 i hlt w')) ?_
      refine reg_now 8 (.pointer (some ⟨p2, o2 + 33 * i, none⟩)) (some 25) hQN hS (by kernel_rfl) (by kernel_rfl) (fun w => by kernel_rfl) ?_
      refine reg_nowIf 9 (.agg (ints .u8 k).toArray) (some 26) hQN hS (by kernel_rfl) (by kernel_rfl) (fun w' hw => by obtain ⟨m, rfl⟩ := hw; exact exec_load_mid 35 (.tmp 25) (by kernel_rfl) p2 (o2 + 33 * i) (by kernel_rfl) (ints .u8 k) _ R2.out digUnder rfl KS.out) ?_
      refine reg_now 10 (.bool false) (some 27) hQN hS (by kernel_rfl) (by kernel_rfl) (fun w' => (exec_neq w' (.tmp 21) (.tmp 26) 35 (by kernel_rfl) digUnder byteUnder size1Byte eqGuardDig k k KL.out KL.out (by kernel_rfl) (by kernel_rfl)).trans (by rw [decide_eq_true (rfl : k = k)]; rfl)) ?_
      refine reg_now 11 (.bool false) (some 28) hQN hS (by kernel_rfl) (by kernel_rfl) (fun w => by kernel_rfl) ?_
      refine reg_now 12 (.slice (some ⟨p1, o1, none⟩) n c1) (some 29) hQN hS (by kernel_rfl) (by kernel_rfl) (fun w => by kernel_rfl) ?_
      refine reg_now 13 (.int .i64 (i : Int)) (some 30) hQN hS (by kernel_rfl) (by kernel_rfl) (fun w => by kernel_rfl) ?_
      refine reg_now 14 (.pointer (some ⟨p1, o1 + 33 * i, none⟩)) (some 31) hQN hS (by kernel_rfl) (by kernel_rfl) (fun w' => exec_indexAt 32 (.tmp 29) (.tmp 30) (by kernel_rfl) _ _ _ (by kernel_rfl) (by kernel_rfl) (run_at_ent p1 o1 n c1 i hlt w')) ?_
      refine reg_now 15 (.pointer (some ⟨p1, o1 + 33 * i + 32, none⟩)) (some 32) hQN hS (by kernel_rfl) (by kernel_rfl) (fun w => by kernel_rfl) ?_
      refine reg_nowIf 16 (.slice x1 m y1) (some 33) hQN hS (by kernel_rfl) (by kernel_rfl) (fun w' hw => by obtain ⟨m, rfl⟩ := hw; exact exec_load_cell 22 (.tmp 32) (by kernel_rfl) p1 (o1 + 33 * i + 32) (by kernel_rfl) _ CU1.out _ Tryd.underlying22 rfl) ?_
      refine reg_now 17 (.slice (some ⟨p2, o2, none⟩) n c2) (some 34) hQN hS (by kernel_rfl) (by kernel_rfl) (fun w => by kernel_rfl) ?_
      refine reg_now 18 (.int .i64 (i : Int)) (some 35) hQN hS (by kernel_rfl) (by kernel_rfl) (fun w => by kernel_rfl) ?_
      refine reg_now 19 (.pointer (some ⟨p2, o2 + 33 * i, none⟩)) (some 36) hQN hS (by kernel_rfl) (by kernel_rfl) (fun w' => exec_indexAt 32 (.tmp 34) (.tmp 35) (by kernel_rfl) _ _ _ (by kernel_rfl) (by kernel_rfl) (run_at_ent p2 o2 n c2 i hlt w')) ?_
      refine reg_now 20 (.pointer (some ⟨p2, o2 + 33 * i + 32, none⟩)) (some 37) hQN hS (by kernel_rfl) (by kernel_rfl) (fun w => by kernel_rfl) ?_
      refine reg_nowIf 21 (.slice x2 m y2) (some 38) hQN hS (by kernel_rfl) (by kernel_rfl) (fun w' hw => by obtain ⟨m, rfl⟩ := hw; exact exec_load_cell 22 (.tmp 37) (by kernel_rfl) p2 (o2 + 33 * i + 32) (by kernel_rfl) _ CU2.out _ Tryd.underlying22 rfl) ?_
      refine reg_call 22 27 #[.slice x1 m y1, .slice x2 m y2] (some 39) _ (by kernel_rfl) (by kernel_rfl) (by kernel_rfl) (sameb_walk _ _ zs zs _ (show BytesIn (w.drewN d).drew _ _ from BU1.out) (show BytesIn (w.drewN d).drew _ _ from BU2.out) ML) ?_
      rintro e w4 ⟨rfl, nd, rfl⟩
      have hS4 : ∃ m, ((w.drewN d).drew).drewN nd = w.drewN m := ⟨d + 1 + nd, by simp [World.drewN, World.drew]; omega⟩
      rw [decide_eq_true rfl]
      refine ⟨_, rfl, hS4, ?_⟩
      refine reg_now 23 (.bool false) (some 40) hQN hS4 (by kernel_rfl) (by kernel_rfl) (fun w => by kernel_rfl) ?_
      refine reg_now 24 (.bool false) (some 41) hQN hS4 (by kernel_rfl) (by kernel_rfl) (fun w => by kernel_rfl) ?_
      refine reg_done (by kernel_rfl) (hN _ _ ?_)
      obtain ⟨dd, hdd⟩ := hS4
      rw [hdd]
      clear hQN hN hS
      generalize hact : Act.put _ (some 41) _ = act
      simp only [Act.put, List.setIfInBounds_toArray, List.set_cons_succ, List.set_cons_zero] at hact
      subst hact
      go_wp2
      exact ⟨⟨i + 1, dd, by omega, by go_num, rfl⟩, by simp [intOf]; omega⟩
    · have r1 : ¬ (i : Int) < (n : Int) := by omega
      go_wp2
      go_ret
      exact ⟨rfl, d, rfl⟩
end Go.Proofs.YtngpmilojfbpmaaDoor
/- The statements' first line, of layer 6: alive. -/
namespace Go.Proofs.YtngpmilojfbpmaaDoor
open Go Go.RowKit
set_option maxRecDepth 100000

theorem crash_nil (dur : List Int) (p : List Wr) : ∀ k, crashK dur p [] k = dur
  | 0 => rfl
  | k + 1 => by
    rw [crashK, crash_nil dur p k]
    have h : crash1 (getB dur (wrAt p k).1) (wrAt p k).2 (pickL [] k) = getB dur (wrAt p k).1 := rfl
    rw [h]
    unfold putB getB
    rw [← List.drop_drop, List.take_append_drop, List.take_append_drop]
section
variable {B : Nat} {w0 w : World} {d sz vb c P : Nat} {es : List Ent} {sure : Nat} {s : Bool} {left : Int} {T : List Nat}
theorem VS.vm (h : VS B w0 d sz vb c P es sure s left T w) : ∃ G ap kv mb, Vm w G vb d ap kv mb es ∧ ap.isSome = s ∧ (∀ k ∈ vfoot vb mb kv, k ∈ T) ∧ ∀ k ∈ G, k ∈ T := by
  obtain ⟨A, F, ap, kv, mb, first, g, seen, dur, pend, all, tp, m0, rfl, hs, hx⟩ := h
  exact ⟨_, _, _, _, hx.vm, hs, fun k hk => List.mem_append_left _ hk, fun k hk => List.mem_append_right _ hk⟩
theorem VS.gd (h : VS B w0 d sz vb c P es sure s left T w) : GoodE sz es ∧ sz ≤ 4096 ∧ es.length ≤ cntE es := by
  obtain ⟨A, F, ap, kv, mb, first, g, seen, dur, pend, all, tp, m0, rfl, hs, hx⟩ := h
  exact ⟨hx.good, hx.iv.big, hx.fits.2⟩
theorem VS.be (h : VS B w0 d sz vb c P es sure s left T w) : (∀ k ∈ T, B ≤ k) ∧ Below B w0 w ∧ B ≤ w0.heap.size := by
  obtain ⟨A, F, ap, kv, mb, first, g, seen, dur, pend, all, tp, m0, rfl, hs, hx⟩ := h
  exact ⟨hx.ge, hx.be, hx.s0⟩
theorem vs_len (h : VS B w0 d sz vb c P es sure s left T w) : Calls Tryd.prog 28 #[.pointer (some ⟨vb, 0, none⟩)] w fun e w' => e = .returned (.int .i64 (es.length : Int)) ∧ w = w' := by
  obtain ⟨G, ap, kv, mb, hm, _⟩ := h.vm
  exact vlen_walk hm
theorem vs_sound (h : VS B w0 d sz vb c P es sure s left T w) : Calls Tryd.prog 29 #[.pointer (some ⟨vb, 0, none⟩)] w fun e w' => e = .returned (.bool s) ∧ w = w' := by
  obtain ⟨G, ap, kv, mb, hm, rfl, _⟩ := h.vm
  exact vsound_walk hm
theorem vs_free (h : VS B w0 d sz vb c P es sure true left T w) : Calls Tryd.prog 31 #[.pointer (some ⟨vb, 0, none⟩)] w fun e w' => e = .returned (.int .i64 ((sz / 2 - (1 + cntE es) : Nat) : Int)) ∧ Below w.heap.size w w' := by
  obtain ⟨A, F, ap, kv, mb, first, g, seen, dur, pend, all, tp, m0, rfl, hs, hx⟩ := h
  rcases hx.aw with rfl | ⟨ab, rfl⟩
  · cases hs
  · have := hx.iv.big
    refine (vfree_some hx.vm (hx.ar ab rfl) hx.fits.1 (by omega)).mono ?_
    rintro e w' ⟨rfl, n, rfl⟩
    exact ⟨rfl, below_drewN _ _⟩
theorem vs_get (h : VS B w0 d sz vb c P es sure s left T w) {k : List Int} (hk : goodK k) : Calls Tryd.prog 26 #[.pointer (some ⟨vb, 0, none⟩), kval k] w (VgPost es k w) := by
  obtain ⟨G, ap, kv, mb, hm, _⟩ := h.vm
  exact vget_walk G vb d ap kv mb es k w hm hk
theorem vs_keys (h : VS B w0 d sz vb c P es sure s left T w) : Calls Tryd.prog 30 #[.pointer (some ⟨vb, 0, none⟩)] w (DCopy (es.map (·.1)) w) := by
  have := h.gd
  have := this.1.fit
  obtain ⟨G, ap, kv, mb, hm, _⟩ := h.vm
  exact vkeys_walk hm (by omega)
theorem vs_entries (h : VS B w0 d sz vb c P es sure s left T w) : Calls Tryd.prog 15 #[.pointer (some ⟨vb, 0, none⟩)] w (EnPost es w) := by
  have := h.gd
  have := this.1.fit
  obtain ⟨G, ap, kv, mb, hm, _⟩ := h.vm
  exact entries_walk G vb d ap kv mb es w hm (by omega)
/-- Without a flush, and all else lost: what lasts is what lasted ahead of the Put. -/
theorem vs_lost (h : VS B w0 d sz vb c P es es.length true (-1) T w) (hK : KW w0) (hKB : 4 < B) (hP : P ≤ 300000) {k zs : List Int} (u : Value) (hk : goodK k) (hu : BytesOff T w u zs) (hnl : NilOk u) (hzb : isBytes zs) (hz : zs.length ≤ 1000) (hval : valOf es k = none) (hfit : needN (32 + zs.length) ≤ sz / 2 - (1 + cntE es)) :
    Calls Tryd.prog 11 #[.pointer (some ⟨vb, 0, none⟩), kval k, u] w fun e w' => e = .returned (.int .i64 0) ∧ ∃ A F ap kv mb S D p, Vm w' (A ++ F) vb d ap kv mb (es ++ [(k, zs)]) ∧ Dk w' F d sz S D p (-1) ∧ Base sz S D p c ∧ Base sz D D [] c ∧ p.length ≤ 400000 ∧ (∀ zss, OpAs D (sz / 2) zss → zss = es.map packE) ∧ (∀ x ∈ F, B ≤ x) ∧ Below B w0 w' ∧ GoodE sz es := by
  obtain ⟨A, F, ap, kv, mb, first, g, seen, dur, pend, all, tp, m0, rfl, hs, hx⟩ := h
  have hfr := hx.fits
  have hbig := hx.iv.big
  have hg2 := hx.iv.g2
  have hh4 := hx.iv.h4
  rcases hx.aw with rfl | ⟨ab, rfl⟩
  · cases hs
  have ha := hx.ar ab rfl
  have hkw := hx.kw hK hKB
  have hall := hx.st (by simp)
  have hh := hx.iv.half
  have hpl : pend.length ≤ 900000 := by have := hx.pl; omega
  have hrl : (k ++ zs).length = 32 + zs.length := by rw [List.length_append, hk.1]
  have hrb : isBytes (k ++ zs) := fun x hx' => by rcases List.mem_append.1 hx' with h | h; exact hk.2 x h; exact hzb x h
  have hlen : all.length = es.length := by rw [hall, List.length_map]
  have hcnt : cntK all all.length = cntE es := by rw [hlen]; exact hx.cnt
  have htp : tp = cntK all all.length := by
    have h1 := hx.iv.t1
    have h2 := hx.iv.tn
    rw [← hlen] at h1
    omega
  have hin := hx.iv
  rw [htp, ← hlen] at hin
  have hnp : isBytes ([] : List Int) := fun x hx => by simp at hx
  obtain ⟨K, hK1, hK2, hop⟩ := hx.iv.crashed hnp
  have hBc := hx.iv.toBase.crash hnp
  rw [crash_nil] at hop hBc
  obtain rfl : K = es.length := by omega
  refine (vput_ok u hx.vm ha hk hu hnl hz hval hkw.1 hx.iv.g1 (by omega) hfr.1 hbig hx.dk hh hx.lf hpl hfit done_neg hzb (by omega)).mono ?_
  rintro e w' ⟨rfl, A', F', kv', hvm, har, hdk, hst⟩
  obtain ⟨f1, f2⟩ := hx.frame hst
  have hi2 := hin.add (rec := k ++ zs) (j := needN (k ++ zs).length) (nr' := all.length + 1) (by rw [hrl]; omega) hrb (Nat.le_refl _) (by rw [hrl, hcnt]; omega) (.inl ⟨rfl, rfl⟩)
  rw [hcnt, hrl] at hi2
  exact ⟨rfl, A', F', _, kv', mb, _, dur, _, hvm, hdk, hi2.toBase, hBc, by rw [List.length_append, wrsAt_length]; have := hx.pl; omega, fun zss ho => by rw [hop.recs (by omega) ho]; exact hx.tk, fun x hx' => f1 x (List.mem_append_right _ (List.mem_append_right _ hx')), f2, hx.good⟩
end
theorem k1_good : goodK (keyL 1) := keyL_good (by omega)
theorem k2_good : goodK (keyL 2) := keyL_good (by omega)
theorem five_bytes : isBytes [5] := by unfold isBytes; decide
theorem six_bytes : isBytes [6] := by unfold isBytes; decide
theorem no_bytes : isBytes ([] : List Int) := fun x hx => by simp at hx
def e1 : Ent := (keyL 1, [5])
theorem cnt_e1 : cntE [e1] = 2 := by decide
set_option maxHeartbeats 4000000 in
theorem v6alive_walk (w : World) (hK : KW w) : Calls Tryd.prog 8 #[] w fun e w' => e = .returned (.bool true) ∧ Below w.heap.size w w' := by
  have HK := Lib.hid hK
  obtain ⟨B, hB⟩ : ∃ B, Hid (w.heap.size = B) := ⟨_, rfl⟩
  have KB : Hid (4 < B) := by unfold Hid; rw [← hB.out]; exact hK.lt
  rw [hB.out]
  clear hK
  go_enter Tryd.func8, Tryd.ntmps8
  go_wp2_with fail
  refine calls_args (args' := #[.int .i64 ((20 : Nat) : Int)]) (by kernel_rfl) ?_
  refine (new_yes 20 (by omega) (by omega) _).mono ?_
  rintro e w1 ⟨d, F, rfl, hd1, hs1⟩
  have S0 := ds_new (B := B) (w0 := w) hd1 (by omega) (by omega) (fun k hk => by rcases hs1.fresh k hk with h | h; simp at h; rw [← hB.out]; exact h) (by rw [← hB.out]; exact hs1.below) (Nat.le_of_eq hB.out.symm)
  have D1 := Lib.hid S0
  clear hd1 hs1 S0
  go_wp2_with fail
  refine (vs_open 1000 D1.out HK.out KB.out (by omega)).mono ?_
  rintro e w2 ⟨vb, T2, rfl, _, hv2⟩
  have V2 := Lib.hid hv2
  clear hv2 D1
  go_upto_region 7 with (fail)
  refine lin_begin (opsOf Tryd.f8 7) (by kernel_rfl) ?_
  refine lin_now 0 (.pointer (some ⟨vb, 0, none⟩)) (some 36) (by kernel_rfl) (by kernel_rfl) (by kernel_rfl) ?_
  refine lin_call 1 24 #[.int .u8 1] (some 37) _ (by kernel_rfl) (by kernel_rfl) (by kernel_rfl) (v6key_walk 1 _) ?_
  rintro e w3 ⟨rfl, hb3⟩
  have V3 := V2.out.below hb3
  obtain ⟨q3, hq3⟩ : ∃ q, Hid (w3.heap.size = q) := ⟨_, rfl⟩
  refine ⟨_, rfl, ?_⟩
  refine lin_newrow 2 5 (ints .u8 [5]) q3 1 (some 38) (by kernel_rfl) (by kernel_rfl) hq3 (by kernel_rfl) ?_
  intro w4 b4 be4 hs4
  have be4' : Below w3.heap.size w3 w4 := by rw [hq3.out]; exact be4
  have V4 := V3.below be4'
  have Q4 : q3 ∉ T2 := fun h => by have := V3.lt _ h; have := hq3.out; omega
  refine lin_call 3 11 #[.pointer (some ⟨vb, 0, none⟩), kval (keyL 1), .slice (some ⟨q3, 0, none⟩) 1 1] (some 39) _ (by kernel_rfl) (by kernel_rfl) (by kernel_rfl) (vs_put V4 HK.out KB.out (by omega) _ k1_good (bytes_blk_off b4 rfl Q4) trivial five_bytes) ?_
  rintro e w5 ⟨n, T5, rfl, _, hcase⟩
  obtain ⟨rfl, hv5⟩ : n = 0 ∧ VS B w d 20 vb 1 5096 [e1] 0 true (-1) T5 w5 := by
    rcases hcase with ⟨h, _⟩ | ⟨_, ⟨old, h, _⟩ | ⟨_, ⟨h, _⟩ | ⟨_, h, _⟩ | ⟨_, _, h, _⟩ | ⟨_, _, _, h1, h2⟩⟩⟩
    · exact absurd h (by decide)
    · simp [valOf] at h
    · cases h
    · exact absurd h (by decide)
    · rw [done_neg] at h; omega
    · exact ⟨h1, h2⟩
  have V5 := Lib.hid hv5
  clear hv5 hcase V4 V3 Q4 b4 be4 be4' hs4 hq3 hb3 V2
  refine ⟨_, rfl, ?_⟩
  refine lin_now 4 (.int .i64 0) (some 5) (by kernel_rfl) (by kernel_rfl) (by kernel_rfl) ?_
  refine lin_done 5 (by kernel_rfl) ?_
  generalize hact : Act.put _ (some 5) _ = act
  simp only [Act.put, List.setIfInBounds_toArray, List.set_cons_succ, List.set_cons_zero] at hact
  subst hact
  go_upto_region 8 with (fail)
  refine lin_begin (opsOf Tryd.f8 8) (by kernel_rfl) ?_
  refine lin_now 0 (.pointer (some ⟨vb, 0, none⟩)) (some 40) (by kernel_rfl) (by kernel_rfl) (by kernel_rfl) ?_
  refine lin_call 1 24 #[.int .u8 1] (some 41) _ (by kernel_rfl) (by kernel_rfl) (by kernel_rfl) (v6key_walk 1 _) ?_
  rintro e w6 ⟨rfl, hb6⟩
  have V6 := V5.out.below hb6
  obtain ⟨q6, hq6⟩ : ∃ q, Hid (w6.heap.size = q) := ⟨_, rfl⟩
  refine ⟨_, rfl, ?_⟩
  refine lin_newrow 2 5 (ints .u8 [6]) q6 1 (some 42) (by kernel_rfl) (by kernel_rfl) hq6 (by kernel_rfl) ?_
  intro w7 b7 be7 hs7
  have be7' : Below w6.heap.size w6 w7 := by rw [hq6.out]; exact be7
  have V7 := V6.below be7'
  have Q7 : q6 ∉ T5 := fun h => by have := V6.lt _ h; have := hq6.out; omega
  refine lin_call 3 11 #[.pointer (some ⟨vb, 0, none⟩), kval (keyL 1), .slice (some ⟨q6, 0, none⟩) 1 1] (some 43) _ (by kernel_rfl) (by kernel_rfl) (by kernel_rfl) (vs_put V7 HK.out KB.out (by omega) _ k1_good (bytes_blk_off b7 rfl Q7) trivial six_bytes) ?_
  rintro e w8 ⟨n, T8, rfl, _, hcase⟩
  obtain ⟨rfl, hv8⟩ : n = 13 ∧ VS B w d 20 vb 1 5096 [e1] 0 true (-1) T8 w8 := by
    have hval : valOf [e1] (keyL 1) = some [5] := by decide
    rcases hcase with ⟨h, _⟩ | ⟨_, ⟨old, h, h1, h2⟩ | ⟨h, _⟩⟩
    · exact absurd h (by decide)
    · rw [hval] at h
      obtain rfl : [5] = old := Option.some.inj h
      exact ⟨h1, h2⟩
    · rw [hval] at h; cases h
  have V8 := Lib.hid hv8
  clear hv8 hcase V7 V6 Q7 b7 be7 be7' hs7 hq6 hb6 V5
  refine ⟨_, rfl, ?_⟩
  refine lin_now 4 (.int .i64 13) (some 6) (by kernel_rfl) (by kernel_rfl) (by kernel_rfl) ?_
  refine lin_done 5 (by kernel_rfl) ?_
  generalize hact : Act.put _ (some 6) _ = act
  simp only [Act.put, List.setIfInBounds_toArray, List.set_cons_succ, List.set_cons_zero] at hact
  subst hact
  go_wp2_with fail
  refine (vs_flush V8.out (by omega)).mono ?_
  rintro e w9 ⟨rfl, T9, _, hv9⟩
  have V9 : Hid (VS B w d 20 vb 1 5096 [e1] 1 true (-1) T9 w9) := hv9
  clear hv9 V8
  go_upto_region 10 with (fail)
  refine lin_begin (opsOf Tryd.f8 10) (by kernel_rfl) ?_
  refine lin_now 0 (.pointer (some ⟨vb, 0, none⟩)) (some 46) (by kernel_rfl) (by kernel_rfl) (by kernel_rfl) ?_
  refine lin_call 1 24 #[.int .u8 2] (some 47) _ (by kernel_rfl) (by kernel_rfl) (by kernel_rfl) (v6key_walk 2 _) ?_
  rintro e w10 ⟨rfl, hb10⟩
  have V10 := V9.out.below hb10
  refine ⟨_, rfl, ?_⟩
  refine lin_call 2 11 #[.pointer (some ⟨vb, 0, none⟩), kval (keyL 2), .slice none 0 0] (some 48) _ (by kernel_rfl) (by kernel_rfl) (by kernel_rfl) (vs_lost V10 HK.out KB.out (by omega) (.slice none 0 0) k2_good (zs := []) ⟨none, 0, rfl, Nat.le_refl _, fun h => absurd h (by decide)⟩ ⟨rfl, rfl⟩ no_bytes (by decide) (by decide) (by rw [cnt_e1]; decide)) ?_
  rintro e w11 ⟨rfl, A, F, ap, kv, mb, S, D, p, hvm, hdk, hba, hbd, hpl, hop, hge, hbe, hgd⟩
  refine ⟨_, rfl, ?_⟩
  refine lin_now 3 (.int .i64 0) (some 8) (by kernel_rfl) (by kernel_rfl) (by kernel_rfl) ?_
  refine lin_done 4 (by kernel_rfl) ?_
  have VM := Lib.hid hvm
  have DK := Lib.hid hdk
  have BA := Lib.hid hba
  have BD := Lib.hid hbd
  have OP := Lib.hid hop
  have GE := Lib.hid hge
  have BE := Lib.hid hbe
  have GD := Lib.hid hgd
  clear hvm hdk hba hbd hop hge hbe hgd V10 V9 hb10
  generalize hact : Act.put _ (some 8) _ = act
  simp only [Act.put, List.setIfInBounds_toArray, List.set_cons_succ, List.set_cons_zero] at hact
  subst hact
  go_wp2_with fail
  refine (crash_walk d 20 F S D p (-1) (.slice none 0 0) [] _ DK.out (by omega) ⟨none, 0, rfl, Nat.le_refl _, fun h => absurd h (by decide)⟩ no_bytes (by decide)).mono ?_
  rintro e w12 ⟨rfl, F12, hd12, hs12⟩
  have hsc := seen_crash BA.out.ld BA.out.ok no_bytes
  rw [← BA.out.eq, crash_nil] at hsc
  rw [crash_nil, hsc] at hd12
  have hsB : B ≤ w11.heap.size := by rw [← hB.out]; rw [← hB.out] at BE; exact BE.out.size
  have DS : Hid (Ds B w d 20 1 [e1] F12 w12) := ⟨⟨D, hd12, BD.out, OP.out⟩, hs12.ge GE.out hsB, hs12.blow GE.out hsB BE.out, Nat.le_of_eq hB.out.symm, GD.out⟩
  have VM12 : Hid (Vm w12 (A ++ F12) vb d ap kv mb ([e1] ++ [(keyL 2, [])])) := VM.out.step hs12.left
  obtain ⟨kp, hkp⟩ : ∃ k, Hid ((keptK [] p.length : Int) = k) := ⟨_, rfl⟩
  rw [hkp.out]
  clear hsc hd12 hs12 hsB DK BA BD OP GE BE GD VM hpl
  go_wp2_with fail
  refine (vs_open 1000 DS.out HK.out KB.out (by omega)).mono ?_
  rintro e w13 ⟨vc, T13, rfl, hs13, hv13⟩
  have V13 : Hid (VS B w d 20 vc 2 1000 [e1] 1 true (-1) T13 w13) := hv13
  have VM13 : Hid (Vm w13 (A ++ T13) vb d ap kv mb ([e1] ++ [(keyL 2, [])])) := VM12.out.step hs13.left
  clear hs13 hv13 DS VM12
  go_upto_region 15 with (fail)
  refine lin_begin (opsOf Tryd.f8 15) (by kernel_rfl) ?_
  refine lin_now 0 (.pointer (some ⟨vc, 0, none⟩)) (some 63) (by kernel_rfl) (by kernel_rfl) (by kernel_rfl) ?_
  refine lin_call 1 24 #[.int .u8 1] (some 64) _ (by kernel_rfl) (by kernel_rfl) (by kernel_rfl) (v6key_walk 1 _) ?_
  rintro e w14 ⟨rfl, hb14⟩
  have V14 := V13.out.below hb14
  refine ⟨_, rfl, ?_⟩
  refine lin_call 2 26 #[.pointer (some ⟨vc, 0, none⟩), kval (keyL 1)] (some 65) _ (by kernel_rfl) (by kernel_rfl) (by kernel_rfl) (vs_get V14 k1_good) ?_
  rintro e w15 ⟨xv, rfl, ho15, hb15⟩
  rw [show valOf [e1] (keyL 1) = some [5] by decide] at ho15 ⊢
  have X15 : Hid (BytesIn w15 xv [5]) := owns_bytes ho15
  obtain ⟨xa, xc, exv, -⟩ := id X15.out
  subst exv
  have V15 := Lib.hid (V14.below hb15)
  have BB15 : Below w13.heap.size w13 w15 := hb14.trans (hb15.mono hb14.size)
  have VM15 := Lib.hid (VM13.out.below BB15)
  refine ⟨_, rfl, ?_⟩
  refine lin_now 3 (.tuple #[.slice xa 1 xc, .bool true]) (some 62) (by kernel_rfl) (by kernel_rfl) (by kernel_rfl) ?_
  refine lin_now 4 (.slice xa 1 xc) (some 66) (by kernel_rfl) (by kernel_rfl) (by kernel_rfl) ?_
  refine lin_now 5 (.bool true) (some 67) (by kernel_rfl) (by kernel_rfl) (by kernel_rfl) ?_
  refine lin_now 6 (.slice xa 1 xc) (some 11) (by kernel_rfl) (by kernel_rfl) (by kernel_rfl) ?_
  refine lin_now 7 (.bool true) (some 12) (by kernel_rfl) (by kernel_rfl) (by kernel_rfl) ?_
  refine lin_done 8 (by kernel_rfl) ?_
  clear ho15 hb15 hb14 V14 V13 BB15 VM13
  generalize hact : Act.put _ (some 12) _ = act
  simp only [Act.put, List.setIfInBounds_toArray, List.set_cons_succ, List.set_cons_zero] at hact
  subst hact
  go_upto_region 16 with (fail)
  refine lin_begin (opsOf Tryd.f8 16) (by kernel_rfl) ?_
  refine lin_now 0 (.pointer (some ⟨vc, 0, none⟩)) (some 69) (by kernel_rfl) (by kernel_rfl) (by kernel_rfl) ?_
  refine lin_call 1 24 #[.int .u8 2] (some 70) _ (by kernel_rfl) (by kernel_rfl) (by kernel_rfl) (v6key_walk 2 _) ?_
  rintro e w16 ⟨rfl, hb16⟩
  have V16 := V15.out.below hb16
  refine ⟨_, rfl, ?_⟩
  refine lin_call 2 26 #[.pointer (some ⟨vc, 0, none⟩), kval (keyL 2)] (some 71) _ (by kernel_rfl) (by kernel_rfl) (by kernel_rfl) (vs_get V16 k2_good) ?_
  rintro e w17 ⟨yv, rfl, ho17, hb17⟩
  rw [show valOf [e1] (keyL 2) = none by decide]
  have V17 := Lib.hid (V16.below hb17)
  have BB17 : Below w15.heap.size w15 w17 := hb16.trans (hb17.mono hb16.size)
  have VM17 := Lib.hid (VM15.out.below BB17)
  have X17 : Hid (BytesIn w17 (.slice xa 1 xc) [5]) := X15.out.below BB17 (Nat.le_refl _)
  refine ⟨_, rfl, ?_⟩
  refine lin_now 3 (.tuple #[yv, .bool false]) (some 68) (by kernel_rfl) (by kernel_rfl) (by kernel_rfl) ?_
  refine lin_now 4 (yv) (some 72) (by kernel_rfl) (by kernel_rfl) (by kernel_rfl) ?_
  refine lin_now 5 (.bool false) (some 73) (by kernel_rfl) (by kernel_rfl) (by kernel_rfl) ?_
  refine lin_now 6 (yv) (some 13) (by kernel_rfl) (by kernel_rfl) (by kernel_rfl) ?_
  refine lin_now 7 (.bool false) (some 14) (by kernel_rfl) (by kernel_rfl) (by kernel_rfl) ?_
  refine lin_done 8 (by kernel_rfl) ?_
  clear ho17 hb17 hb16 V16 V15 BB17 VM15 X15
  generalize hact : Act.put _ (some 14) _ = act
  simp only [Act.put, List.setIfInBounds_toArray, List.set_cons_succ, List.set_cons_zero] at hact
  subst hact
  go_upto_region 17 with (fail)
  refine lin_begin (opsOf Tryd.f8 17) (by kernel_rfl) ?_
  refine lin_now 0 (.int .i64 0) (some 74) (by kernel_rfl) (by kernel_rfl) (by kernel_rfl) ?_
  refine lin_now 1 (.bool true) (some 75) (by kernel_rfl) (by kernel_rfl) (by kernel_rfl) ?_
  refine lin_now 2 (.bool true) (some 76) (by kernel_rfl) (by kernel_rfl) (by kernel_rfl) ?_
  refine lin_now 3 (.int .i64 13) (some 77) (by kernel_rfl) (by kernel_rfl) (by kernel_rfl) ?_
  refine lin_now 4 (.bool true) (some 78) (by kernel_rfl) (by kernel_rfl) (by kernel_rfl) ?_
  refine lin_now 5 (.bool true) (some 79) (by kernel_rfl) (by kernel_rfl) (by kernel_rfl) ?_
  refine lin_now 6 (.bool true) (some 80) (by kernel_rfl) (by kernel_rfl) (by kernel_rfl) ?_
  refine lin_now 7 (.int .i64 0) (some 81) (by kernel_rfl) (by kernel_rfl) (by kernel_rfl) ?_
  refine lin_now 8 (.bool true) (some 82) (by kernel_rfl) (by kernel_rfl) (by kernel_rfl) ?_
  refine lin_now 9 (.bool true) (some 83) (by kernel_rfl) (by kernel_rfl) (by kernel_rfl) ?_
  refine lin_now 10 (.bool true) (some 84) (by kernel_rfl) (by kernel_rfl) (by kernel_rfl) ?_
  refine lin_now 11 (.int .i64 0) (some 85) (by kernel_rfl) (by kernel_rfl) (by kernel_rfl) ?_
  refine lin_now 12 (.bool true) (some 86) (by kernel_rfl) (by kernel_rfl) (by kernel_rfl) ?_
  refine lin_now 13 (.bool true) (some 87) (by kernel_rfl) (by kernel_rfl) (by kernel_rfl) ?_
  refine lin_now 14 (.bool true) (some 88) (by kernel_rfl) (by kernel_rfl) (by kernel_rfl) ?_
  refine lin_now 15 (.bool true) (some 89) (by kernel_rfl) (by kernel_rfl) (by kernel_rfl) ?_
  refine lin_now 16 (.bool true) (some 90) (by kernel_rfl) (by kernel_rfl) (by kernel_rfl) ?_
  refine lin_now 17 (.bool true) (some 91) (by kernel_rfl) (by kernel_rfl) (by kernel_rfl) ?_
  refine lin_now 18 (.bool false) (some 92) (by kernel_rfl) (by kernel_rfl) (by kernel_rfl) ?_
  refine lin_now 19 (.bool true) (some 93) (by kernel_rfl) (by kernel_rfl) (by kernel_rfl) ?_
  refine lin_now 20 (.bool true) (some 94) (by kernel_rfl) (by kernel_rfl) (by kernel_rfl) ?_
  refine lin_now 21 (.bool true) (some 95) (by kernel_rfl) (by kernel_rfl) (by kernel_rfl) ?_
  refine lin_now 22 (.slice xa 1 xc) (some 96) (by kernel_rfl) (by kernel_rfl) (by kernel_rfl) ?_
  obtain ⟨q8, hq8⟩ : ∃ q, Hid (w17.heap.size = q) := ⟨_, rfl⟩
  refine lin_newrow 23 5 (ints .u8 [5]) q8 1 (some 97) (by kernel_rfl) (by kernel_rfl) hq8 (by kernel_rfl) ?_
  intro w18 b18 be18 hs18
  have be18' : Below w17.heap.size w17 w18 := by rw [hq8.out]; exact be18
  refine lin_call 24 27 #[.slice xa 1 xc, .slice (some ⟨q8, 0, none⟩) 1 1] (some 98) _ (by kernel_rfl) (by kernel_rfl) (by kernel_rfl) (sameb_walk _ _ [5] [5] _ (X17.out.below be18' (Nat.le_refl _)) (bytes_blk b18 rfl) (by decide)) ?_
  rintro e w19 ⟨rfl, nd, rfl⟩
  have BB19 : Below w17.heap.size w17 (w18.drewN nd) := be18'.trans ((below_drewN w18 nd).mono be18'.size)
  have V19 := V17.out.below BB19
  have VM19 := VM17.out.below BB19
  refine ⟨_, rfl, ?_⟩
  rw [show decide (([5] : List Int) = [5]) = true from rfl]
  refine lin_now 25 (.bool true) (some 99) (by kernel_rfl) (by kernel_rfl) (by kernel_rfl) ?_
  refine lin_now 26 (.bool true) (some 100) (by kernel_rfl) (by kernel_rfl) (by kernel_rfl) ?_
  refine lin_now 27 (.pointer (some ⟨vb, 0, none⟩)) (some 101) (by kernel_rfl) (by kernel_rfl) (by kernel_rfl) ?_
  refine lin_call 28 28 #[.pointer (some ⟨vb, 0, none⟩)] (some 102) _ (by kernel_rfl) (by kernel_rfl) (by kernel_rfl) (vlen_walk VM19) ?_
  rintro e w20 ⟨rfl, rfl⟩
  refine ⟨_, rfl, ?_⟩
  refine lin_now 29 (.bool true) (some 103) (by kernel_rfl) (by kernel_rfl) (by kernel_rfl) ?_
  refine lin_now 30 (.bool true) (some 104) (by kernel_rfl) (by kernel_rfl) (by kernel_rfl) ?_
  refine lin_now 31 (.bool true) (some 105) (by kernel_rfl) (by kernel_rfl) (by kernel_rfl) ?_
  refine lin_now 32 (.pointer (some ⟨vc, 0, none⟩)) (some 106) (by kernel_rfl) (by kernel_rfl) (by kernel_rfl) ?_
  refine lin_call 33 28 #[.pointer (some ⟨vc, 0, none⟩)] (some 107) _ (by kernel_rfl) (by kernel_rfl) (by kernel_rfl) (vs_len V19) ?_
  rintro e w20 ⟨rfl, rfl⟩
  refine ⟨_, rfl, ?_⟩
  refine lin_now 34 (.bool true) (some 108) (by kernel_rfl) (by kernel_rfl) (by kernel_rfl) ?_
  refine lin_now 35 (.bool true) (some 109) (by kernel_rfl) (by kernel_rfl) (by kernel_rfl) ?_
  refine lin_now 36 (.bool true) (some 110) (by kernel_rfl) (by kernel_rfl) (by kernel_rfl) ?_
  refine lin_now 37 (.pointer (some ⟨vc, 0, none⟩)) (some 111) (by kernel_rfl) (by kernel_rfl) (by kernel_rfl) ?_
  refine lin_call 38 29 #[.pointer (some ⟨vc, 0, none⟩)] (some 112) _ (by kernel_rfl) (by kernel_rfl) (by kernel_rfl) (vs_sound V19) ?_
  rintro e w20 ⟨rfl, rfl⟩
  refine ⟨_, rfl, ?_⟩
  refine lin_now 39 (.bool true) (some 113) (by kernel_rfl) (by kernel_rfl) (by kernel_rfl) ?_
  refine lin_now 40 (.bool true) (some 114) (by kernel_rfl) (by kernel_rfl) (by kernel_rfl) ?_
  refine lin_now 41 (.pointer (some ⟨vc, 0, none⟩)) (some 115) (by kernel_rfl) (by kernel_rfl) (by kernel_rfl) ?_
  refine lin_call 42 30 #[.pointer (some ⟨vc, 0, none⟩)] (some 116) _ (by kernel_rfl) (by kernel_rfl) (by kernel_rfl) (vs_keys V19) ?_
  rintro e w20 ⟨kl, rfl, hko, hb20⟩
  obtain ⟨kka, kkc, rfl⟩ := row_slice hko
  have V20 := V19.below hb20
  refine ⟨_, rfl, ?_⟩
  refine lin_now 43 (.int .i64 1) (some 117) (by kernel_rfl) (by kernel_rfl) (by kernel_rfl) ?_
  refine lin_now 44 (.bool true) (some 118) (by kernel_rfl) (by kernel_rfl) (by kernel_rfl) ?_
  refine lin_now 45 (.bool true) (some 119) (by kernel_rfl) (by kernel_rfl) (by kernel_rfl) ?_
  refine lin_now 46 (.bool true) (some 120) (by kernel_rfl) (by kernel_rfl) (by kernel_rfl) ?_
  refine lin_now 47 (.pointer (some ⟨vc, 0, none⟩)) (some 121) (by kernel_rfl) (by kernel_rfl) (by kernel_rfl) ?_
  refine lin_call 48 31 #[.pointer (some ⟨vc, 0, none⟩)] (some 122) _ (by kernel_rfl) (by kernel_rfl) (by kernel_rfl) (vs_free V20) ?_
  rintro e w21 ⟨rfl, hb21⟩
  have V21 := V20.below hb21
  rw [cnt_e1, show ((20 / 2 - (1 + 2) : Nat) : Int) = 7 from rfl]
  refine ⟨_, rfl, ?_⟩
  refine lin_now 49 (.bool true) (some 123) (by kernel_rfl) (by kernel_rfl) (by kernel_rfl) ?_
  refine lin_now 50 (.bool true) (some 124) (by kernel_rfl) (by kernel_rfl) (by kernel_rfl) ?_
  refine lin_now 51 (.bool true) (some 125) (by kernel_rfl) (by kernel_rfl) (by kernel_rfl) ?_
  refine lin_now 52 (.pointer (some ⟨vc, 0, none⟩)) (some 126) (by kernel_rfl) (by kernel_rfl) (by kernel_rfl) ?_
  refine lin_call 53 12 #[.pointer (some ⟨vc, 0, none⟩), .slice none 0 0] (some 127) _ (by kernel_rfl) (by kernel_rfl) (by kernel_rfl) (vs_keep V21 HK.out KB.out (by omega) (by omega) (.slice none 0 0) [] ⟨none, 0, rfl, Nat.le_refl _, fun h => absurd h (by decide)⟩ (fun k hk => by simp at hk) (by decide)) ?_
  rintro e w22 ⟨n, T22, rfl, _, hcase⟩
  obtain ⟨rfl, hv22⟩ : n = 0 ∧ VS B w d 20 vc 3 5096 [] 0 true (-1) T22 w22 := by
    rcases hcase with ⟨_, h, _⟩ | ⟨h1, h2⟩
    · omega
    · exact ⟨h1, h2⟩
  refine ⟨_, rfl, ?_⟩
  refine lin_now 54 (.bool true) (some 128) (by kernel_rfl) (by kernel_rfl) (by kernel_rfl) ?_
  refine lin_now 55 (.bool true) (some 129) (by kernel_rfl) (by kernel_rfl) (by kernel_rfl) ?_
  refine lin_now 56 (.bool true) (some 130) (by kernel_rfl) (by kernel_rfl) (by kernel_rfl) ?_
  refine lin_now 57 (.pointer (some ⟨vc, 0, none⟩)) (some 131) (by kernel_rfl) (by kernel_rfl) (by kernel_rfl) ?_
  refine lin_call 58 28 #[.pointer (some ⟨vc, 0, none⟩)] (some 132) _ (by kernel_rfl) (by kernel_rfl) (by kernel_rfl) (vs_len hv22) ?_
  rintro e w23 ⟨rfl, rfl⟩
  refine ⟨_, rfl, ?_⟩
  refine lin_now 59 (.bool true) (some 133) (by kernel_rfl) (by kernel_rfl) (by kernel_rfl) ?_
  refine lin_now 60 (.bool true) (some 134) (by kernel_rfl) (by kernel_rfl) (by kernel_rfl) ?_
  refine lin_now 61 (.bool true) (some 0) (by kernel_rfl) (by kernel_rfl) (by kernel_rfl) ?_
  refine lin_done 62 (by kernel_rfl) ?_
  have BF := Lib.hid hv22.be.2.1
  clear hv22 hcase V21 V20 V19 VM19 hko hb20 hb21 BB19 be18 be18' b18 hs18 hq8 V17 VM17 X17
  generalize hact : Act.put _ (some 0) _ = act
  simp only [Act.put, List.setIfInBounds_toArray, List.set_cons_succ, List.set_cons_zero] at hact
  subst hact
  go_wp2
  go_ret
  exact ⟨rfl, BF.out⟩
end Go.Proofs.YtngpmilojfbpmaaDoor
/- An argument that is a slice of calls of layer 6, opened. -/
namespace Go.Proofs.YtngpmilojfbpmaaDoor
open Go.ChangeShapes Go.WideShapes Go.ChangeAt Go.RowKit Go.Deep
set_option maxRecDepth 100000

/-- A call: what, a number, a key's byte, bytes. -/
structure C6 where
  what : Int
  n : Int
  key : Int
  bs : List Int
/-- A call lies here. -/
structure C6At (w : World) (qb o : Nat) (c : C6) : Prop where
  what : w.cell? ⟨qb, o, none⟩ = some (.int .i64 c.what)
  n : w.cell? ⟨qb, o + 1, none⟩ = some (.int .i64 c.n)
  wfn : (Lit.int .i64 c.n).wf = true
  key : w.cell? ⟨qb, o + 2, none⟩ = some (.int .u8 c.key)
  kr : 0 ≤ c.key ∧ c.key ≤ 255
  bs : ∃ pv, w.cell? ⟨qb, o + 3, none⟩ = some pv ∧ BytesIn w pv c.bs ∧ NilOk pv
  bbytes : isBytes c.bs
  blen : c.bs.length ≤ 140737488351232
/-- The value v is a slice of just these calls. -/
def C6sIn (w : World) (v : Value) (cs : List C6) : Prop :=
  ∃ a cap, v = .slice a cs.length cap ∧ cs.length ≤ 140737488351232 ∧ (0 < cs.length → ∃ qb qo, a = some ⟨qb, qo, none⟩ ∧ qb < w.heap.size ∧ ∀ (k : Nat) (c : C6), cs[k]? = some c → C6At w qb (qo + 4 * k) c)
theorem seg_get6 {cs vs : List Value} {o m : Nat} (h : (cs.drop o).take m = vs) (_hm : vs.length = m) {j : Nat} (hj : j < m) : cs[o + j]? = vs[j]? := by
  rw [← h, List.getElem?_take, if_pos hj, List.getElem?_drop]
theorem cellsInt6 : Tryd.prog.cellsOf 3 = 1 := by kernel_rfl
theorem cellsBys6 : Tryd.prog.cellsOf 22 = 1 := by kernel_rfl
theorem open_bys6 {H : Type} {enc : TypeId × Value → H} {W : World} {n : Nat} {pv : Value} {x : DataW H × List MemPlace} (g3 : DataW.trod enc Tryd.prog W 0 (fun _ => true) true n 22 [pv] = some x) : ∃ ps, BytesIn W pv ps ∧ NilOk pv ∧ isBytes ps ∧ ((∀ m ∈ x.1.weights Tryd.prog 22, m ≤ reachBytes) → ps.length ≤ reachBytes) := by
  rcases open_ints Tryd.underlying22 Tryd.underlying5 cellsByte g3 with ⟨hcs, _⟩ | ⟨x, l, c, zs, hcs, _, hl, hm, hz, hxx, hcell, hwz⟩
  · simp at hcs
    subst hcs
    exact ⟨[], bytes_nil W, ⟨rfl, rfl⟩, (fun z hz => by cases hz), (fun _ => by simp)⟩
  · simp at hcs
    subst hcs
    have hz' : zs.length = c := by simpa using hz
    have hl2 : (zs.take l).length = l := by rw [List.length_take]; omega
    refine ⟨zs.take l, ⟨some x, c, by rw [hl2], by rw [hl2]; exact hl, fun hp => ?_⟩, trivial, bytes_of_wf fun z hz => hwz z (List.mem_of_mem_take hz), fun hw => ?_⟩
    · rw [hl2] at hp
      obtain ⟨b, off, rfl, hc⟩ := ints_at hcell (by omega)
      have h0 := hc 0 (by omega)
      refine ⟨b, off, rfl, block_lt_of_cell h0, fun j u hu => ?_⟩
      have hj : j < l := by have := (List.getElem?_eq_some_iff.1 hu).1; rw [ints_length, hl2] at this; exact this
      rw [hc j (by omega), ← hu, ints_getD (by rw [hl2]; exact hj)]
      simp only [List.getD_eq_getElem?_getD, List.getElem?_take, if_pos hj]
    · have hd3 := congrArg Prod.fst hxx
      rw [hd3] at hw
      have := hw ((((zs.take l).length) + ((zs.drop l).length)) * 1) (by
        simp [DataW.weights, Tryd.underlying22, bytesByte, lits])
      rw [hl2] at this ⊢
      omega
end Go.Proofs.YtngpmilojfbpmaaDoor
/- The statements' own helpers of layer 6: Great. -/
namespace Go.Proofs.YtngpmilojfbpmaaDoor
open Go Go.RowKit
set_option maxRecDepth 100000

theorem C6At.below {w w' : World} {qb o : Nat} {c : C6} (h : C6At w qb o c) (hq : qb < w.heap.size) (hb : Below w.heap.size w w') : C6At w' qb o c := by
  have k : ∀ o', w'.cell? ⟨qb, o', none⟩ = w.cell? ⟨qb, o', none⟩ := fun o' => hb.cell (p := ⟨qb, o', none⟩) hq
  obtain ⟨pv, h1, h2, h3⟩ := h.bs
  exact ⟨(k _).trans h.what, (k _).trans h.n, h.wfn, (k _).trans h.key, h.kr, ⟨pv, (k _).trans h1, h2.below hb (Nat.le_refl _), h3⟩, h.bbytes, h.blen⟩
theorem C6sIn.below {w w' : World} {v : Value} {cs : List C6} (h : C6sIn w v cs) (hb : Below w.heap.size w w') : C6sIn w' v cs := by
  obtain ⟨a, cap, h1, h2, h3⟩ := h
  refine ⟨a, cap, h1, h2, fun hp => ?_⟩
  obtain ⟨qb, qo, h4, h5, h6⟩ := h3 hp
  exact ⟨qb, qo, h4, Nat.lt_of_lt_of_le h5 hb.size, fun k c hk => (h6 k c hk).below h5 hb⟩
def Great6Post (cs : List C6) (w : World) (e : Ending) (w' : World) : Prop := ∃ b : Bool, e = .returned (.bool b) ∧ (b = false → cs.length ≤ 40 ∧ ∀ c ∈ cs, c.bs.length ≤ 3000) ∧ ∃ n, w' = w.drewN n
end Go.Proofs.YtngpmilojfbpmaaDoor
