/- The statements' own helpers of layer 6: keep. -/
import Derived.Test.YtngpmilojfbpmaaDoorVltU
namespace Go.Proofs.YtngpmilojfbpmaaDoor
open Go Go.RowKit
set_option maxRecDepth 100000

/-- Those of the first k entries that are picked. -/
def selK (p : Nat → Bool) (es : List Ent) : Nat → List Ent
  | 0 => []
  | k + 1 => selK p es k ++ (if p k then (es[k]?).toList else [])
theorem selK_sub (p : Nat → Bool) (es : List Ent) : ∀ k e, e ∈ selK p es k → ∃ j, j < k ∧ p j = true ∧ es[j]? = some e
  | 0, e, h => by simp [selK] at h
  | k + 1, e, h => by
    rw [selK] at h
    rcases List.mem_append.1 h with h1 | h1
    · obtain ⟨j, h2, h3⟩ := selK_sub p es k e h1
      exact ⟨j, by omega, h3⟩
    · split at h1
      · exact ⟨k, by omega, by assumption, by simpa using h1⟩
      · simp at h1
theorem selK_mem (p : Nat → Bool) (es : List Ent) : ∀ k j e, j < k → p j = true → es[j]? = some e → e ∈ selK p es k
  | 0, j, e, h, _, _ => absurd h (by omega)
  | k + 1, j, e, h, hp, he => by
    rw [selK]
    by_cases hj : j = k
    · subst hj
      exact List.mem_append_right _ (by rw [if_pos hp, he]; simp)
    · exact List.mem_append_left _ (selK_mem p es k j e (by omega) hp he)
theorem selK_keep {p : Nat → Bool} {es : List Ent} (hn : (es.map (·.1)).Nodup) : keepE es ((selK p es es.length).map (·.1)) = selK p es es.length := by
  have key : ∀ k, k ≤ es.length → (es.take k).filter (fun e => decide (e.1 ∈ (selK p es es.length).map (·.1))) = selK p es k := by
    intro k
    induction k with
    | zero => exact fun _ => rfl
    | succ k ih =>
      intro hk
      obtain ⟨e, he⟩ : ∃ e, es[k]? = some e := ⟨_, List.getElem?_eq_getElem (by omega)⟩
      rw [List.take_add_one, List.filter_append, ih (by omega), selK, he]
      congr 1
      have : (e.1 ∈ (selK p es es.length).map (·.1)) ↔ p k = true := by
        constructor
        · intro h
          obtain ⟨e', h1, h2⟩ := List.mem_map.1 h
          obtain ⟨j, h3, h4, h5⟩ := selK_sub p es _ e' h1
          have : j = k := nodup_at hn (x := e.1) (by rw [List.getElem?_map, h5]; simp [h2]) (by rw [List.getElem?_map, he]; rfl)
          rw [← this]; exact h4
        · exact fun h => List.mem_map.2 ⟨e, selK_mem p es _ k e (by omega) h he, rfl⟩
      by_cases hp : p k = true
      · have h1 := this.2 hp
        simp [hp, h1]
      · have h1 : ¬ e.1 ∈ (selK p es es.length).map (·.1) := fun h => hp (this.1 h)
        simp [hp, h1]
  have := key es.length (Nat.le_refl _)
  rw [List.take_length] at this
  exact this
/-- Entries in a row of the call's own; their values lay in the world u. -/
def OwnW (T : List Nat) (u w : World) (B : Nat) (ov : Value) (es : List Ent) : Prop :=
  ∃ vs, w.ownsRow B 38 33 ov es.length (ecells es vs) ∧ vs.length = es.length ∧ (∀ e ∈ es, e.1.length = 32) ∧ ∀ (i : Nat) (v : Value) (e : Ent), vs[i]? = some v → es[i]? = some e → BytesOff T u v e.2 ∧ NilOk v
theorem OwnW.off {T : List Nat} {u w : World} {B : Nat} {ov : Value} {es : List Ent} (h : OwnW T u w B ov es) (hb : Below u.heap.size u w) (hT : ∀ k ∈ T, k < B) : EntsOff T w ov es := by
  obtain ⟨vs, ⟨h0, h1⟩, h2, h3, h4⟩ := h
  rcases h1 with ⟨rfl, hn⟩ | ⟨g, cap, cur, rfl, hg, hbk, hc, hm, hs, ht⟩
  · exact ⟨none, 0, by rw [hn], by omega, fun hp => by omega⟩
  · refine ⟨some ⟨g, 0, none⟩, cap, rfl, hc, fun _ => ⟨g, 0, rfl, fun hc => by have := hT g hc; omega, (Array.getElem?_eq_some_iff.1 hbk).1, fun i e he => ?_⟩⟩
    have hil := (List.getElem?_eq_some_iff.1 he).1
    obtain ⟨v, hv⟩ : ∃ v, vs[i]? = some v := ⟨_, List.getElem?_eq_getElem (by omega)⟩
    obtain ⟨r, hr⟩ := ecells_at es vs i e v h2 h3 he hv
    have hcell : ∀ j x, (ints .u8 e.1 ++ v :: r)[j]? = some x → w.cell? ⟨g, 33 * i + j, none⟩ = some x := fun j x hx => by
      rw [cell_of_row w g (33 * i + j) cur 38 (0, 0) hbk]
      rw [← hr, List.getElem?_drop, ← ht, List.getElem?_take] at hx
      split at hx
      · simpa using hx
      · cases hx
    have h32 : e.1.length = 32 := h3 e (List.mem_of_getElem? he)
    refine ⟨fun j x hx => ?_, v, ?_, (h4 i v e hv he).1.step (Step.of_below hb (Nat.le_refl _)), (h4 i v e hv he).2⟩
    · rw [Nat.zero_add]
      refine hcell j x ?_
      have hj := (List.getElem?_eq_some_iff.1 hx).1
      rw [List.getElem?_append_left hj]
      exact hx
    · rw [Nat.zero_add]
      refine hcell 32 v ?_
      rw [List.getElem?_append_right (by rw [ints_length]; omega), ints_length, h32]
      rfl
theorem OwnW.snoc {T : List Nat} {u w w3 : World} {B : Nat} {ov : Value} {es : List Ent} {e : Ent} {v : Value} {g n cap : Nat} (h : OwnW T u w B ov es) (hn : es.length = n) {vs : List Value} (hvl : vs.length = es.length) (hve : ∀ (i : Nat) (v : Value) (e : Ent), vs[i]? = some v → es[i]? = some e → BytesOff T u v e.2 ∧ NilOk v)
    (hv : BytesOff T u v e.2) (hnl : NilOk v) (he : e.1.length = 32) (ho : w3.ownsRow B 38 33 (.slice (some ⟨g, 0, none⟩) (n + 1) cap) (n + 1) (ecells es vs ++ (ints .u8 e.1 ++ [v]))) : OwnW T u w3 B (.slice (some ⟨g, 0, none⟩) (n + 1) cap) (es ++ [e]) := by
  have h32 : ∀ x ∈ es, x.1.length = 32 := by obtain ⟨_, _, _, h, _⟩ := h; exact h
  refine ⟨vs ++ [v], by rw [ecells_snoc es vs e v hvl, List.length_append, hn]; exact ho, by simp [hvl], fun x hx => ?_, fun i v' e' hv' he' => ?_⟩
  · rcases List.mem_append.1 hx with h1 | h1
    · exact h32 x h1
    · obtain rfl : x = e := by simpa using h1
      exact he
  · by_cases hi : i < es.length
    · rw [List.getElem?_append_left (by omega)] at hv' he'
      exact hve i v' e' hv' he'
    · have hi2 : i = es.length := by
        have := (List.getElem?_eq_some_iff.1 he').1
        simp at this
        omega
      subst hi2
      rw [List.getElem?_append_right (by omega), Nat.sub_self] at he'
      rw [List.getElem?_append_right (by omega), hvl, Nat.sub_self] at hv'
      obtain rfl := Option.some.inj he'
      obtain rfl := Option.some.inj hv'
      exact ⟨hv, hnl⟩
theorem rows_apart {w : World} {b1 b2 s1 s2 n1 n2 : Nat} {t1 t2 : TypeId} {v1 v2 : Value} {x1 x2 : List Value} (h1 : w.ownsRow b1 t1 s1 v1 n1 x1) (h2 : w.ownsRow b2 t2 s2 v2 n2 x2) (ht : t1 ≠ t2) : ∀ g, v1.ownBlock = some g → v2.ownBlock ≠ some g := fun g hg hc => by
  rcases h1.2 with ⟨rfl, _⟩ | ⟨g1, _, _, rfl, _, k1, _⟩
  · cases hg
  · rcases h2.2 with ⟨rfl, _⟩ | ⟨g2, _, _, rfl, _, k2, _⟩
    · cases hc
    · obtain rfl : g1 = g := by simpa [Value.ownBlock] using hg
      obtain rfl : g2 = g1 := by simpa [Value.ownBlock] using hc
      rw [k1] at k2
      simp at k2
      exact ht k2.2
def KpPost (B : Nat) (w0 : World) (d sz vb c P : Nat) (T : List Nat) (w : World) (e : Ending) (w' : World) : Prop :=
  ∃ (es : List Ent) (sure : Nat) (s : Bool) (left : Int) (T' : List Nat), e = .returned (.int .i64 (sure : Int)) ∧ Step T w T' w' ∧ VS B w0 d sz vb (c + 1) (P + 4096) es sure s left T' w'
theorem VS.sr {B : Nat} {w0 w : World} {d sz vb c P : Nat} {es : List Ent} {sure : Nat} {s : Bool} {left : Int} {T : List Nat} (h : VS B w0 d sz vb c P es sure s left T w) : sure ≤ es.length := by
  obtain ⟨A, F, ap, kv, mb, first, g, seen, dur, pend, all, tp, m0, rfl, hs, hx⟩ := h
  exact hx.iv.sr
end Go.Proofs.YtngpmilojfbpmaaDoor
/- VaultLasts answers true. -/
namespace Go.Proofs.YtngpmilojfbpmaaDoor
open Go Go.RowKit
set_option maxRecDepth 100000

def ccl6 (z k y : Int) (pv : Value) : List Value := [.int .i64 z, .int .i64 k, .int .u8 y, pv]
def zC6 : List Value := [.int .i64 0, .int .i64 0, .int .u8 0, .slice none 0 0]
theorem oneC6 (z k y : Int) (a : Option Addr) (m x : Nat) : (ccl6 z k y (.slice a m x)).toArray.all (·.oneCell') = true := all_oneCell_toArray (fun v hv => by
  simp only [ccl6, List.mem_cons, List.not_mem_nil, or_false] at hv
  rcases hv with rfl | rfl | rfl | rfl <;> rfl)
theorem bytes_slice6 {w : World} {v : Value} {zs : List Int} (h : BytesIn w v zs) : ∃ a c, v = .slice a zs.length c := by
  obtain ⟨a, c, e, _⟩ := h
  exact ⟨a, c, e⟩
theorem and15 (z : Int) (h : 0 ≤ z ∧ z ≤ 255) : 0 ≤ bits BinOp.and IntKind.u8 z 15 ∧ bits BinOp.and IntKind.u8 z 15 ≤ 255 := by
  have h1 : ∀ m : Fin 256, 0 ≤ bits BinOp.and IntKind.u8 ((m.val : Nat) : Int) 15 ∧ bits BinOp.and IntKind.u8 ((m.val : Nat) : Int) 15 ≤ 255 := by decide
  obtain ⟨m, rfl⟩ := Int.eq_ofNat_of_zero_le h.1
  exact h1 ⟨m, by omega⟩
theorem OwnE.slice {w : World} {B : Nat} {v : Value} {es : List Ent} (h : OwnE w B v es) : ∃ a c, v = .slice a es.length c ∧ (a = none ∨ ∃ g, a = some ⟨g, 0, none⟩) ∧ es.length ≤ c := by
  obtain ⟨vs, h1, _⟩ := h
  rcases h1.2 with ⟨rfl, h0⟩ | ⟨g, cap, cur, rfl, _, _, hc, _⟩
  · exact ⟨none, 0, by rw [h0], .inl rfl, by omega⟩
  · exact ⟨_, cap, rfl, .inr ⟨g, rfl⟩, hc⟩
theorem run_ents_head (a : Option Addr) (ha : a = none ∨ ∃ g, a = some ⟨g, 0, none⟩) (n c h : Nat) (h1 : h ≤ c) (w : World) : (Instr.sliceAt 32 (.slice a n c) none (some (.int .i64 (h : Int))) none).run Tryd.prog w = .ok (.slice a h c) w := by
  have hz : (sizeOf (Tryd.prog.elem 32)).run Tryd.prog w = .ok 33 w := by kernel_rfl
  have he : Tryd.prog.underlying 32 = some (.slice (Tryd.prog.elem 32)) := by kernel_rfl
  rw [run_sliceAt_slice w 32 _ _ _ _ he, run_slice_h w 32 _ n c he .i64 (h : Int) (by omega) (by omega), hz]
  rcases ha with rfl | ⟨g, rfl⟩
  · simp only [Result.andThen_ok, sliced, Int.toNat_natCast, Nat.sub_zero, Option.map_none]
    split <;> rfl
  · simp only [Result.andThen_ok, sliced, Int.toNat_natCast, Nat.sub_zero, Option.map_some, Nat.zero_mul, Addr.add_mid, Nat.add_zero]
    split <;> rfl
theorem PutOut.some {B : Nat} {w0 w w' : World} {d sz vb c P : Nat} {es : List Ent} {sure : Nat} {s : Bool} {left : Int} {T : List Nat} {k zs : List Int} {e : Ending} (h : PutOut B w0 d sz vb c P es sure s left T k zs w e w') (hc : c + 1 ≤ 255) : ∃ (n : Int) (T' : List Nat), e = .returned (.int .i64 n) ∧ Step T w T' w' ∧ ∃ es' s' left', VS B w0 d sz vb (c + 1) (P + 4096) es' sure s' left' T' w' := by
  obtain ⟨n, T', h1, h2, h3⟩ := h
  refine ⟨n, T', h1, h2, ?_⟩
  rcases h3 with ⟨_, _, h⟩ | ⟨_, ⟨_, _, _, h⟩ | ⟨_, ⟨_, _, h⟩ | ⟨_, _, _, h⟩ | ⟨_, _, _, _, _, h⟩ | ⟨_, _, _, _, h⟩⟩⟩
  all_goals exact ⟨_, _, _, h.more (by omega) hc (by omega)⟩
end Go.Proofs.YtngpmilojfbpmaaDoor
