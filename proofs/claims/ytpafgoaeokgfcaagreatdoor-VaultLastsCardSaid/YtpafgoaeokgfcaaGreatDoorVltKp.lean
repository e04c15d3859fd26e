/- The statements' own helpers of layer 6: keep. -/
import Derived.Test.YtpafgoaeokgfcaaGreatDoorVltU
namespace Go.Proofs.YtpafgoaeokgfcaaGreatDoor
open Go Go.RowKit
set_option maxRecDepth 100000

/-- Those of the first k entries that are picked. -/
def selK (p : Nat → Bool) (es : List Ent) : Nat → List Ent
  | 0 => []
  | k + 1 => selK p es k ++ (if p k then (es[k]?).toList else [])
theorem selK_sub (p : Nat → Bool) (es : List Ent) : ∀ k e, e ∈ selK p es k → ∃ j, j < k ∧ p j = true ∧ es[j]? = some e
  | 0, e, h => by simp [selK] at h
  | k + 1, e, h => by
    rw [selK] at h
    rcases List.mem_append.1 h with h1 | h1
    · obtain ⟨j, h2, h3⟩ := selK_sub p es k e h1
      exact ⟨j, by omega, h3⟩
    · split at h1
      · exact ⟨k, by omega, by assumption, by simpa using h1⟩
      · simp at h1
theorem selK_mem (p : Nat → Bool) (es : List Ent) : ∀ k j e, j < k → p j = true → es[j]? = some e → e ∈ selK p es k
  | 0, j, e, h, _, _ => absurd h (by omega)
  | k + 1, j, e, h, hp, he => by
    rw [selK]
    by_cases hj : j = k
    · subst hj
      exact List.mem_append_right _ (by rw [if_pos hp, he]; simp)
    · exact List.mem_append_left _ (selK_mem p es k j e (by omega) hp he)
theorem selK_keep {p : Nat → Bool} {es : List Ent} (hn : (es.map (·.1)).Nodup) : keepE es ((selK p es es.length).map (·.1)) = selK p es es.length := by
  have key : ∀ k, k ≤ es.length → (es.take k).filter (fun e => decide (e.1 ∈ (selK p es es.length).map (·.1))) = selK p es k := by
    intro k
    induction k with
    | zero => exact fun _ => rfl
    | succ k ih =>
      intro hk
      obtain ⟨e, he⟩ : ∃ e, es[k]? = some e := ⟨_, List.getElem?_eq_getElem (by omega)⟩
      rw [List.take_add_one, List.filter_append, ih (by omega), selK, he]
      congr 1
      have : (e.1 ∈ (selK p es es.length).map (·.1)) ↔ p k = true := by
        constructor
        · intro h
          obtain ⟨e', h1, h2⟩ := List.mem_map.1 h
          obtain ⟨j, h3, h4, h5⟩ := selK_sub p es _ e' h1
          have : j = k := nodup_at hn (x := e.1) (by rw [List.getElem?_map, h5]; simp [h2]) (by rw [List.getElem?_map, he]; rfl)
          rw [← this]; exact h4
        · exact fun h => List.mem_map.2 ⟨e, selK_mem p es _ k e (by omega) h he, rfl⟩
      by_cases hp : p k = true
      · have h1 := this.2 hp
        simp [hp, h1]
      · have h1 : ¬ e.1 ∈ (selK p es es.length).map (·.1) := fun h => hp (this.1 h)
        simp [hp, h1]
  have := key es.length (Nat.le_refl _)
  rw [List.take_length] at this
  exact this
/-- Entries in a row of the call's own; their values lay in the world u. -/
def OwnW (T : List Nat) (u w : World) (B : Nat) (ov : Value) (es : List Ent) : Prop :=
  ∃ vs, w.ownsRow B 46 33 ov es.length (ecells es vs) ∧ vs.length = es.length ∧ (∀ e ∈ es, e.1.length = 32) ∧ ∀ (i : Nat) (v : Value) (e : Ent), vs[i]? = some v → es[i]? = some e → BytesOff T u v e.2 ∧ NilOk v
theorem OwnW.off {T : List Nat} {u w : World} {B : Nat} {ov : Value} {es : List Ent} (h : OwnW T u w B ov es) (hb : Below u.heap.size u w) (hT : ∀ k ∈ T, k < B) : EntsOff T w ov es := by
  obtain ⟨vs, ⟨h0, h1⟩, h2, h3, h4⟩ := h
  rcases h1 with ⟨rfl, hn⟩ | ⟨g, cap, cur, rfl, hg, hbk, hc, hm, hs, ht⟩
  · exact ⟨none, 0, by rw [hn], by omega, fun hp => by omega⟩
  · refine ⟨some ⟨g, 0, none⟩, cap, rfl, hc, fun _ => ⟨g, 0, rfl, fun hc => by have := hT g hc; omega, (Array.getElem?_eq_some_iff.1 hbk).1, fun i e he => ?_⟩⟩
    have hil := (List.getElem?_eq_some_iff.1 he).1
    obtain ⟨v, hv⟩ : ∃ v, vs[i]? = some v := ⟨_, List.getElem?_eq_getElem (by omega)⟩
    obtain ⟨r, hr⟩ := ecells_at es vs i e v h2 h3 he hv
    have hcell : ∀ j x, (ints .u8 e.1 ++ v :: r)[j]? = some x → w.cell? ⟨g, 33 * i + j, none⟩ = some x := fun j x hx => by
      rw [cell_of_row w g (33 * i + j) cur 46 (0, 0) hbk]
      rw [← hr, List.getElem?_drop, ← ht, List.getElem?_take] at hx
      split at hx
      · simpa using hx
      · cases hx
    have h32 : e.1.length = 32 := h3 e (List.mem_of_getElem? he)
    refine ⟨fun j x hx => ?_, v, ?_, (h4 i v e hv he).1.step (Step.of_below hb (Nat.le_refl _)), (h4 i v e hv he).2⟩
    · rw [Nat.zero_add]
      refine hcell j x ?_
      have hj := (List.getElem?_eq_some_iff.1 hx).1
      rw [List.getElem?_append_left hj]
      exact hx
    · rw [Nat.zero_add]
      refine hcell 32 v ?_
      rw [List.getElem?_append_right (by rw [ints_length]; omega), ints_length, h32]
      rfl
theorem OwnW.snoc {T : List Nat} {u w w3 : World} {B : Nat} {ov : Value} {es : List Ent} {e : Ent} {v : Value} {g n cap : Nat} (h : OwnW T u w B ov es) (hn : es.length = n) {vs : List Value} (hvl : vs.length = es.length) (hve : ∀ (i : Nat) (v : Value) (e : Ent), vs[i]? = some v → es[i]? = some e → BytesOff T u v e.2 ∧ NilOk v)
    (hv : BytesOff T u v e.2) (hnl : NilOk v) (he : e.1.length = 32) (ho : w3.ownsRow B 46 33 (.slice (some ⟨g, 0, none⟩) (n + 1) cap) (n + 1) (ecells es vs ++ (ints .u8 e.1 ++ [v]))) : OwnW T u w3 B (.slice (some ⟨g, 0, none⟩) (n + 1) cap) (es ++ [e]) := by
  have h32 : ∀ x ∈ es, x.1.length = 32 := by obtain ⟨_, _, _, h, _⟩ := h; exact h
  refine ⟨vs ++ [v], by rw [ecells_snoc es vs e v hvl, List.length_append, hn]; exact ho, by simp [hvl], fun x hx => ?_, fun i v' e' hv' he' => ?_⟩
  · rcases List.mem_append.1 hx with h1 | h1
    · exact h32 x h1
    · obtain rfl : x = e := by simpa using h1
      exact he
  · by_cases hi : i < es.length
    · rw [List.getElem?_append_left (by omega)] at hv' he'
      exact hve i v' e' hv' he'
    · have hi2 : i = es.length := by
        have := (List.getElem?_eq_some_iff.1 he').1
        simp at this
        omega
      subst hi2
      rw [List.getElem?_append_right (by omega), Nat.sub_self] at he'
      rw [List.getElem?_append_right (by omega), hvl, Nat.sub_self] at hv'
      obtain rfl := Option.some.inj he'
      obtain rfl := Option.some.inj hv'
      exact ⟨hv, hnl⟩
theorem rows_apart {w : World} {b1 b2 s1 s2 n1 n2 : Nat} {t1 t2 : TypeId} {v1 v2 : Value} {x1 x2 : List Value} (h1 : w.ownsRow b1 t1 s1 v1 n1 x1) (h2 : w.ownsRow b2 t2 s2 v2 n2 x2) (ht : t1 ≠ t2) : ∀ g, v1.ownBlock = some g → v2.ownBlock ≠ some g := fun g hg hc => by
  rcases h1.2 with ⟨rfl, _⟩ | ⟨g1, _, _, rfl, _, k1, _⟩
  · cases hg
  · rcases h2.2 with ⟨rfl, _⟩ | ⟨g2, _, _, rfl, _, k2, _⟩
    · cases hc
    · obtain rfl : g1 = g := by simpa [Value.ownBlock] using hg
      obtain rfl : g2 = g1 := by simpa [Value.ownBlock] using hc
      rw [k1] at k2
      simp at k2
      exact ht k2.2
def KpPost (B : Nat) (w0 : World) (d sz vb c P : Nat) (T : List Nat) (w : World) (e : Ending) (w' : World) : Prop :=
  ∃ (es : List Ent) (sure : Nat) (s : Bool) (left : Int) (T' : List Nat), e = .returned (.int .i64 (sure : Int)) ∧ Step T w T' w' ∧ VS B w0 d sz vb (c + 1) (P + 4096) es sure s left T' w'
theorem VS.sr {B : Nat} {w0 w : World} {d sz vb c P : Nat} {es : List Ent} {sure : Nat} {s : Bool} {left : Int} {T : List Nat} (h : VS B w0 d sz vb c P es sure s left T w) : sure ≤ es.length := by
  obtain ⟨A, F, ap, kv, mb, first, g, seen, dur, pend, all, tp, m0, rfl, hs, hx⟩ := h
  exact hx.iv.sr
set_option maxHeartbeats 8000000 in
theorem v6keep_walk {B : Nat} {w0 w : World} {d sz vb c P : Nat} {es : List Ent} {sure : Nat} {s : Bool} {left : Int} {T : List Nat} (h : VS B w0 d sz vb c P es sure s left T w) (hK : KW w0) (hKB : 0 < B) (hP : P ≤ 300000) (hc : c + 1 ≤ 255) (nn : Int) :
    Calls Tryz.prog 22 #[.pointer (some ⟨vb, 0, none⟩), .int .i64 nn, .int .i64 (sure : Int)] w (KpPost B w0 d sz vb c P T w) := by
  obtain ⟨hgd, hbig, hcl⟩ := h.gd
  have hfit := hgd.fit
  have HV := Lib.hid h
  have HK := Lib.hid hK
  have GD := Lib.hid hgd
  have TLT : Hid (∀ k ∈ T, k < w.heap.size) := h.lt
  obtain ⟨n, hn⟩ : ∃ n, Hid (es.length = n) := ⟨_, rfl⟩
  have hn5 : n ≤ 5000 := by rw [← hn.out]; omega
  obtain ⟨pk, hpk⟩ : ∃ pk : Nat → Bool, Hid (∀ i : Nat, (bits BinOp.and IntKind.i64 (i : Int) 1 == 0 || nn == 1) = pk i) := ⟨_, fun _ => rfl⟩
  clear h hK hgd hfit hcl
  go_enter Tryz.func22, Tryz.ntmps22
  go_wp2_with fail
  refine (vs_entries HV.out).mono ?_
  rintro e w2 ⟨lv, rfl, hlo, hlb, hlnl⟩
  obtain ⟨la, lc, elv⟩ : ∃ a c, lv = .slice a n c := by obtain ⟨vs, h1, _⟩ := hlo; rw [hn.out] at h1; exact row_slice h1
  subst elv
  have LO : Hid (EntsOff T w2 (.slice la n lc) es) := hlo.off TLT.out
  have B2 := Lib.hid hlb
  have V2 := Lib.hid (HV.out.below hlb)
  obtain ⟨C, hC⟩ : ∃ C, Hid (w2.heap.size = C) := ⟨_, rfl⟩
  have TC : Hid (∀ k ∈ T, k < C) := fun k hk => by have := TLT.out k hk; have := hlb.size; have := hC.out; omega
  clear hlo hlb hlnl
  go_upto_region 2 with (fail)
  refine lin_begin (opsOf Tryz.f22 2) (by kernel_rfl) ?_
  have hmk := run_build_nodig w2
  have B3 : Hid (Below w2.heap.size w2 (w2.alloc (.cells #[] 34))) := (Below.refl _ _).alloc (Nat.le_refl _) _
  have O3 : Hid (OwnD (w2.alloc (.cells #[] 34)) C (.slice (some ⟨w2.heap.size, 0, none⟩) 0 0) []) := ⟨rfl, .inr ⟨w2.heap.size, 0, #[], rfl, Nat.le_of_eq hC.out.symm, heap_alloc_last w2 _, Nat.le_refl _, by unfold maxLen; omega, rfl, rfl⟩⟩
  have S3 : Hid ((w2.alloc (.cells #[] 34)).heap.size = C + 1) := by unfold Hid; simp [hC.out]
  rw [hC.out] at hmk O3
  generalize w2.alloc (.cells #[] 34) = w3 at hmk B3 O3 S3
  refine lin_value 0 (.slice (some ⟨C, 0, none⟩) 0 0) (some 14) w3 (by kernel_rfl) (by kernel_rfl) (exec_of (Instr.buildSlice 57 0 #[]) _ (by kernel_rfl) hmk) ?_
  refine lin_now 1 (.slice (some ⟨C, 0, none⟩) 0 0) (some 8) (by kernel_rfl) (by kernel_rfl) (by kernel_rfl) ?_
  refine lin_done 2 (by kernel_rfl) ?_
  clear hmk
  generalize hact : Act.put _ (some 8) _ = act
  simp only [Act.put, List.setIfInBounds_toArray, List.set_cons_succ, List.set_cons_zero] at hact
  subst hact
  go_upto_region 3 with (fail)
  refine lin_begin (opsOf Tryz.f22 3) (by kernel_rfl) ?_
  have hmk := run_build_noent w3
  have be4 : Below w3.heap.size w3 (w3.alloc (.cells #[] 46)) := (Below.refl _ _).alloc (Nat.le_refl _) _
  have W4 : Hid (OwnW T w2 (w3.alloc (.cells #[] 46)) C (.slice (some ⟨w3.heap.size, 0, none⟩) 0 0) []) := ⟨[], ⟨rfl, .inr ⟨w3.heap.size, 0, #[], rfl, by rw [S3.out]; omega, heap_alloc_last w3 _, Nat.le_refl _, by unfold maxLen; omega, rfl, rfl⟩⟩, rfl, fun e he => by simp at he, fun i v e hv => by simp at hv⟩
  rw [S3.out] at hmk W4
  generalize w3.alloc (.cells #[] 46) = w4 at hmk be4 W4
  have B4 : Hid (Below w2.heap.size w2 w4) := B3.out.trans (be4.mono B3.out.size)
  have O4 : Hid (OwnD w4 C (.slice (some ⟨C, 0, none⟩) 0 0) []) := O3.out.below be4
  refine lin_value 0 (.slice (some ⟨C + 1, 0, none⟩) 0 0) (some 15) w4 (by kernel_rfl) (by kernel_rfl) (exec_of (Instr.buildSlice 32 0 #[]) _ (by kernel_rfl) hmk) ?_
  refine lin_now 1 (.slice (some ⟨C + 1, 0, none⟩) 0 0) (some 9) (by kernel_rfl) (by kernel_rfl) (by kernel_rfl) ?_
  refine lin_done 2 (by kernel_rfl) ?_
  clear hmk be4 O3 B3 S3
  generalize hact : Act.put _ (some 9) _ = act
  simp only [Act.put, List.setIfInBounds_toArray, List.set_cons_succ, List.set_cons_zero] at hact
  subst hact
  go_wp2
  go_loopw [10, 8, 9] (fun iv sv wv wr => ∃ (i m : Nat) (sa : Option Addr) (sc : Nat) (wa : Option Addr) (wc : Nat), i ≤ n ∧ iv = .int .i64 (i : Int) ∧ sv = .slice sa m sc ∧ wv = .slice wa m wc ∧ OwnD wr C (.slice sa m sc) ((selK pk es i).map (·.1)) ∧ OwnW T w2 wr C (.slice wa m wc) (selK pk es i) ∧ Below w2.heap.size w2 wr ∧ Hid ((selK pk es i).length = m ∧ m ≤ i)) (fun iv _ _ _ => n - (intOf iv).toNat)
  case atStart => exact ⟨0, 0, _, _, _, _, Nat.zero_le _, rfl, rfl, rfl, O4.out, W4.out, B4.out, ⟨rfl, Nat.le_refl _⟩⟩
  case round =>
    obtain ⟨i, m, sa, sc, wa, wc, hi, rfl, rfl, rfl, hod, how, hbe, hml⟩ := hrel
    have OD := Lib.hid hod
    have OW := Lib.hid how
    have BW := Lib.hid hbe
    have LW : Hid (EntsOff T wr (.slice la n lc) es) := LO.out.below hbe
    clear hod how hbe O4 W4 B4
    by_cases hlt : i < n
    · have r1 : (i : Int) < (n : Int) := by omega
      obtain ⟨a', cap', e1, hlc, hpp⟩ := id LW.out
      rw [hn.out] at e1 hlc hpp
      obtain ⟨rfl, -, rfl⟩ := Value.slice.inj e1
      obtain ⟨pb, po, rfl, hpT, hpb, hat⟩ := hpp (by omega)
      obtain ⟨⟨k, zs⟩, he⟩ : ∃ e, es[i]? = some e := ⟨_, List.getElem?_eq_getElem (by rw [hn.out]; exact hlt)⟩
      obtain ⟨hk1, u, hu1, hu2, hu3⟩ := hat i _ he
      simp only at hk1 hu2
      obtain ⟨ua, uc, eu, -⟩ := id hu2
      obtain ⟨un, hun⟩ : ∃ n, Hid (zs.length = n) := ⟨_, rfl⟩
      rw [hun.out] at eu
      subst eu
      have HE := Lib.hid he
      obtain ⟨gk, gl, gb⟩ := GD.out.g (k, zs) (List.mem_of_getElem? he)
      have GK : Hid (goodK k) := gk
      have KS : Hid ((Tryz.prog.info? 34).map (·.size) = some (ints .u8 k).length) := blk_goodK GK.out.1
      have RK : Hid (∀ w' : World, Below wr.heap.size wr w' → w'.rangeAt pb (po + 33 * i) (ints .u8 k)) := fun w' hb j v hv => by rw [hb.cell (p := ⟨pb, po + 33 * i + j, none⟩) hpb]; exact hk1 j v hv
      have CU : Hid (∀ w' : World, Below wr.heap.size wr w' → w'.cell? ⟨pb, po + 33 * i + 32, none⟩ = some (.slice ua un uc)) := fun w' hb => by rw [hb.cell (p := ⟨pb, po + 33 * i + 32, none⟩) hpb]; exact hu1
      have VO : Hid (BytesOff T w2 (.slice ua un uc) zs ∧ NilOk (.slice ua un uc)) := by
        obtain ⟨a2, c2, e2, _, hp2⟩ := id LO.out
        rw [hn.out] at e2 hp2
        obtain ⟨ea, -, -⟩ := Value.slice.inj e2
        obtain ⟨pb2, po2, ea2, _, hl2, hat2⟩ := hp2 (by omega)
        obtain ⟨_, u2, h1, h2, h3⟩ := hat2 i _ HE.out
        have : (⟨pb, po, none⟩ : Addr) = ⟨pb2, po2, none⟩ := Option.some.inj (ea.trans ea2)
        obtain ⟨rfl, rfl⟩ : pb = pb2 ∧ po = po2 := by simpa using this
        have h4 : w2.cell? ⟨pb, po + 33 * i + 32, none⟩ = some (.slice ua un uc) := by rw [← BW.out.cell (p := ⟨pb, po + 33 * i + 32, none⟩) hl2]; exact hu1
        rw [h4] at h1
        obtain rfl := Option.some.inj h1
        exact ⟨h2, h3⟩
      obtain ⟨x, hx⟩ : ∃ x, Hid (bits BinOp.and IntKind.i64 (i : Int) 1 = x) := ⟨_, rfl⟩
      have HP : Hid ((x == 0 || nn == 1) = pk i) := by rw [Hid, ← hx.out]; exact hpk.out i
      obtain ⟨q, hq⟩ : ∃ q, Hid (wr.heap.size = q) := ⟨_, rfl⟩
      clear hk1 hu1 hu2 hu3 he gk gl gb hat hpp e1 hpT hpb
      go_upto_region 7 with (fail)
      refine lin_begin (opsOf Tryz.f22 7) (by kernel_rfl) ?_
      refine lin_now 0 (.int .i64 (i : Int)) (some 22) (by kernel_rfl) (by kernel_rfl) (by kernel_rfl) ?_
      refine lin_now 1 (.int .i64 (bits BinOp.and IntKind.i64 (i : Int) 1)) (some 23) (by kernel_rfl) (by kernel_rfl) (by kernel_rfl) ?_
      rw [hx.out]
      refine lin_now 2 (.bool (x == 0)) (some 24) (by kernel_rfl) (by kernel_rfl) (by kernel_rfl) ?_
      obtain ⟨b1, hb1⟩ : ∃ b, Hid ((x == 0) = b) := ⟨_, rfl⟩
      rw [hb1.out]
      have HP : Hid ((b1 || nn == 1) = pk i) := by rw [Hid, ← hb1.out]; exact HP.out
      refine lin_now 3 (.bool b1) (some 25) (by kernel_rfl) (by kernel_rfl) (by kernel_rfl) ?_
      cases b1 with
      | true =>
        refine lin_pass 4 (some 26) (by kernel_rfl) (by kernel_rfl) ?_
        refine lin_pass 5 (some 27) (by kernel_rfl) (by kernel_rfl) ?_
        refine lin_now 6 (.bool true) (some 28) (by kernel_rfl) (by kernel_rfl) (by kernel_rfl) ?_
        refine lin_done 7 (by kernel_rfl) ?_
        generalize hact : Act.put _ (some 28) _ = act
        simp only [Act.put, List.setIfInBounds_toArray, List.set_cons_succ, List.set_cons_zero] at hact
        subst hact
        have PI : Hid (pk i = true) := by rw [Hid]; have := HP.out.symm; simpa using this
        have SN : Hid (selK pk es (i + 1) = selK pk es i ++ [(k, zs)]) := by rw [Hid, selK, if_pos PI.out, HE.out]; rfl
        go_upto_region 8 with (fail)
        refine lin_begin (opsOf Tryz.f22 8) (by kernel_rfl) ?_
        refine lin_now 0 (.slice sa m sc) (some 29) (by kernel_rfl) (by kernel_rfl) (by kernel_rfl) ?_
        refine lin_now 1 (.slice (some ⟨pb, po, none⟩) n lc) (some 30) (by kernel_rfl) (by kernel_rfl) (by kernel_rfl) ?_
        refine lin_now 2 (.int .i64 (i : Int)) (some 31) (by kernel_rfl) (by kernel_rfl) (by kernel_rfl) ?_
        refine lin_now 3 (.pointer (some ⟨pb, po + 33 * i, none⟩)) (some 32) (by kernel_rfl) (by kernel_rfl) (exec_indexAt 32 (.tmp 30) (.tmp 31) (by kernel_rfl) _ _ _ (by kernel_rfl) (by kernel_rfl) (run_at_ent pb po n lc i hlt wr)) ?_
        refine lin_now 4 (.pointer (some ⟨pb, po + 33 * i, none⟩)) (some 33) (by kernel_rfl) (by kernel_rfl) (by kernel_rfl) ?_
        refine lin_now 5 (.agg (ints .u8 k).toArray) (some 34) (by kernel_rfl) (by kernel_rfl) (exec_load_mid 34 (.tmp 33) (by kernel_rfl) pb (po + 33 * i) (by kernel_rfl) (ints .u8 k) _ (RK.out _ (Below.refl _ _)) digUnder rfl KS.out) ?_
        refine lin_newrow 6 34 (ints .u8 k) q 1 (some 35) (by kernel_rfl) (by kernel_rfl) hq (exec_of (Instr.buildSlice 57 1 #[(0, .agg (ints .u8 k).toArray)]) _ (by kernel_rfl) (run_build_dig k GK.out.1 _)) ?_
        intro w5 b5 be5 hs5
        have be5' : Below wr.heap.size wr w5 := by rw [hq.out]; exact be5
        have D5 : DsIn w5 (.slice (some ⟨q, 0, none⟩) 1 1) [k] := ⟨_, 1, rfl, Nat.le_refl _, fun _ => ⟨q, 0, rfl, b5.lt, by rw [show ([k] : List (List Int)).flatten = k by simp]; exact b5.whole⟩⟩
        have CS : C ≤ w5.heap.size := by rw [← hC.out]; exact Nat.le_trans BW.out.size be5'.size
        refine lin_appendd 7 (some 36) (by kernel_rfl) (by kernel_rfl) (by kernel_rfl) (.tmp 29) (.tmp 35) (by kernel_rfl) C _ ((selK pk es i).map (·.1)) (by kernel_rfl) (OD.out.below be5') _ [k] (by kernel_rfl) D5 (fun x hx => by obtain rfl : x = k := (by simpa using hx); exact GK.out.1) trivial (by rw [List.length_map, hml.out.1]; show m + 1 ≤ _; have := hml.out.2; omega) CS ?_
        intro v6 w6 hd6 hg6
        obtain ⟨sa6, sc6, ev6⟩ := row_slice hd6
        have hl6 : ((selK pk es i).map (·.1) ++ [k]).length = m + 1 := by rw [List.length_append, List.length_map, hml.out.1]; rfl
        rw [hl6] at ev6
        subst ev6
        have OD6 : Hid (OwnD w6 C (.slice sa6 (m + 1) sc6) ((selK pk es (i + 1)).map (·.1))) := by rw [Hid, SN.out, List.map_append]; exact hd6
        have BW6 : Hid (Below w2.heap.size w2 w6) := (BW.out.trans (be5'.mono BW.out.size)).grown hg6 (Nat.le_trans BW.out.size be5'.size) (fun g hg => by rw [hC.out]; exact (OD.out.lt g hg).1)
        have OW6 : Hid (OwnW T w2 w6 C (.slice wa m wc) (selK pk es i)) := by
          obtain ⟨vs, h1, h2⟩ := OW.out
          have h3 := own_step (F := []) (F' := []) h1 (Step.of_below be5' (Nat.le_refl _)) (fun g _ => by simp)
          refine ⟨vs, h3.kept hg6 ?_, h2⟩
          cases hob : (Value.slice wa m wc).ownBlock with
          | none => exact .inl rfl
          | some g => exact .inr (fun e => rows_apart h3 (OD.out.below be5') (by decide) g hob e.symm)
        have B26 : Hid (Below wr.heap.size wr w6 ∨ True) := .inr trivial
        have RK6 : Hid (w6.rangeAt pb (po + 33 * i) (ints .u8 k ++ [Value.slice ua un uc])) := fun j v hv => by
          have hpC : pb < C := by
            obtain ⟨a2, c2, e2, _, hp2⟩ := id LO.out
            rw [hn.out] at e2 hp2
            obtain ⟨ea, -, -⟩ := Value.slice.inj e2
            obtain ⟨pb2, po2, ea2, _, hl2, _⟩ := hp2 (by omega)
            have : (⟨pb, po, none⟩ : Addr) = ⟨pb2, po2, none⟩ := Option.some.inj (ea.trans ea2)
            obtain ⟨rfl, rfl⟩ : pb = pb2 ∧ po = po2 := by simpa using this
            rw [← hC.out]; exact hl2
          have hcell : ∀ o, w6.cell? ⟨pb, o, none⟩ = wr.cell? ⟨pb, o, none⟩ := fun o => by
            rw [BW6.out.cell (p := ⟨pb, o, none⟩) (by rw [hC.out]; exact hpC), BW.out.cell (p := ⟨pb, o, none⟩) (by rw [hC.out]; exact hpC)]
          rw [hcell]
          by_cases hj : j < 32
          · rw [List.getElem?_append_left (by rw [ints_length, GK.out.1]; exact hj)] at hv
            exact RK.out wr (Below.refl _ _) j v hv
          · rw [List.getElem?_append_right (by rw [ints_length, GK.out.1]; omega), ints_length, GK.out.1] at hv
            have hj2 : j = 32 := by
              have := (List.getElem?_eq_some_iff.1 hv).1
              simp at this
              omega
            subst hj2
            obtain rfl : Value.slice ua un uc = v := by simpa using hv
            exact CU.out wr (Below.refl _ _)
        refine lin_now 8 (.slice sa6 (m + 1) sc6) (some 8) (by kernel_rfl) (by kernel_rfl) (by kernel_rfl) ?_
        refine lin_done 9 (by kernel_rfl) ?_
        clear hd6 hg6 hl6 D5 b5 be5 be5' hs5 CS OD OW B26
        generalize hact : Act.put _ (some 8) _ = act
        simp only [Act.put, List.setIfInBounds_toArray, List.set_cons_succ, List.set_cons_zero] at hact
        subst hact
        obtain ⟨q6, hq6⟩ : ∃ q, Hid (w6.heap.size = q) := ⟨_, rfl⟩
        have ES : Hid ((Tryz.prog.info? 46).map (·.size) = some (ints .u8 k ++ [Value.slice ua un uc]).length) := by rw [Hid, List.length_append, ints_length, GK.out.1]; kernel_rfl
        go_upto_region 9 with (fail)
        refine lin_begin (opsOf Tryz.f22 9) (by kernel_rfl) ?_
        refine lin_now 0 (.slice wa m wc) (some 37) (by kernel_rfl) (by kernel_rfl) (by kernel_rfl) ?_
        refine lin_now 1 (.slice (some ⟨pb, po, none⟩) n lc) (some 38) (by kernel_rfl) (by kernel_rfl) (by kernel_rfl) ?_
        refine lin_now 2 (.int .i64 (i : Int)) (some 39) (by kernel_rfl) (by kernel_rfl) (by kernel_rfl) ?_
        refine lin_now 3 (.pointer (some ⟨pb, po + 33 * i, none⟩)) (some 40) (by kernel_rfl) (by kernel_rfl) (exec_indexAt 32 (.tmp 38) (.tmp 39) (by kernel_rfl) _ _ _ (by kernel_rfl) (by kernel_rfl) (run_at_ent pb po n lc i hlt w6)) ?_
        refine lin_now 4 (.agg (ints .u8 k ++ [Value.slice ua un uc]).toArray) (some 41) (by kernel_rfl) (by kernel_rfl) (exec_load_mid 46 (.tmp 40) (by kernel_rfl) pb (po + 33 * i) (by kernel_rfl) (ints .u8 k ++ [Value.slice ua un uc]) _ RK6.out Tryz.underlying46 rfl ES.out) ?_
        refine lin_newrow 5 46 (ints .u8 k ++ [Value.slice ua un uc]) q6 1 (some 42) (by kernel_rfl) (by kernel_rfl) hq6 (exec_of (Instr.buildSlice 32 1 #[(0, .agg (ints .u8 k ++ [Value.slice ua un uc]).toArray)]) _ (by kernel_rfl) (run_build_ents k GK.out.1 ua un uc _)) ?_
        intro w7 b7 be7 hs7
        have be7' : Below w6.heap.size w6 w7 := by rw [hq6.out]; exact be7
        obtain ⟨i0, hi0, hz0, hz1, hz2⟩ := info_parts infoEnt
        obtain ⟨vs, ho0, hvl, h32, hve⟩ := OW6.out
        rw [hml.out.1] at ho0
        have ho := own_step (F := []) (F' := []) ho0 (Step.of_below be7' (Nat.le_refl _)) (fun g _ => by simp)
        have cl : (ints .u8 k ++ [Value.slice ua un uc]).length = 33 := by rw [List.length_append, ints_length, GK.out.1]; rfl
        obtain ⟨g, cap, w8, hr8, ho8, hg8, hat8, hlt8⟩ := run_append_lies (P := Tryz.prog) w7 32 32 C 46 i0 _ 33 56 elemEnt hi0 hz0 hz1 hz2 (by show (ints .u8 (List.replicate 32 0) ++ [Value.slice none 0 0]).toArray.size = 33; rw [List.size_toArray, List.length_append, ints_length, List.length_replicate]; rfl) (by decide) (.slice wa m wc) m (ecells (selK pk es i) vs) ho ⟨q6, 0, none⟩ 1 1 (ints .u8 k ++ [Value.slice ua un uc]) (by rw [cl]) (fun j u hj => by rw [Addr.add_mid]; exact b7.whole j u hj) (fun u hu => by
          rcases List.mem_append.1 hu with h | h
          · exact ints_one _ _ u h
          · obtain rfl : u = Value.slice ua un uc := (by simpa using h)
            rfl) (by omega) (by have := hml.out.2; unfold maxLen; omega) (by have := hml.out.2; omega) (by rw [← hC.out]; exact Nat.le_trans BW6.out.size be7'.size) _ rfl
        refine lin_value 6 (.slice (some ⟨g, 0, none⟩) (m + 1) cap) (some 43) w8 (by kernel_rfl) (by kernel_rfl) (exec_of (Builtin.append_ #[32, 32] 32 #[.slice wa m wc, .slice (some ⟨q6, 0, none⟩) 1 1]) _ (by kernel_rfl) hr8) ?_
        refine lin_now 7 (.slice (some ⟨g, 0, none⟩) (m + 1) cap) (some 9) (by kernel_rfl) (by kernel_rfl) (by kernel_rfl) ?_
        refine lin_done 8 (by kernel_rfl) ?_
        have OW8 : Hid (OwnW T w2 w8 C (.slice (some ⟨g, 0, none⟩) (m + 1) cap) (selK pk es (i + 1))) := by rw [Hid, SN.out]; exact OwnW.snoc OW6.out hml.out.1 hvl hve VO.out.1 VO.out.2 GK.out.1 ho8
        have BW8 : Hid (Below w2.heap.size w2 w8) := (BW6.out.trans (be7'.mono BW6.out.size)).grown hg8 (Nat.le_trans BW6.out.size be7'.size) (fun x hx => by rw [hC.out]; exact (ho0.lt x hx).1)
        have OD8 : Hid (OwnD w8 C (.slice sa6 (m + 1) sc6) ((selK pk es (i + 1)).map (·.1))) := by
          have h3 := OD6.out.below be7'
          refine World.ownsRow.kept h3 hg8 ?_
          cases hob : (Value.slice sa6 (m + 1) sc6).ownBlock with
          | none => exact .inl rfl
          | some x => exact .inr (fun e => rows_apart h3 ho (by decide) x hob e.symm)
        have ML8 : Hid ((selK pk es (i + 1)).length = m + 1 ∧ m + 1 ≤ i + 1) := by rw [Hid, SN.out, List.length_append, hml.out.1]; exact ⟨rfl, by have := hml.out.2; omega⟩
        clear hr8 ho8 hg8 hat8 hlt8 ho ho0 hve hvl h32 b7 be7 be7' hs7 OW6 OD6 BW6 cl hi0 hz0 hz1 hz2 RK6 BW LW
        generalize hact : Act.put _ (some 9) _ = act
        simp only [Act.put, List.setIfInBounds_toArray, List.set_cons_succ, List.set_cons_zero] at hact
        subst hact
        go_wp2
        exact ⟨⟨i + 1, m + 1, sa6, sc6, _, cap, by omega, by go_num, rfl, rfl, OD8.out, OW8.out, BW8.out, ML8⟩, by simp [intOf]; omega⟩
      | false =>
        refine lin_now 4 (.int .i64 nn) (some 26) (by kernel_rfl) (by kernel_rfl) (by kernel_rfl) ?_
        refine lin_now 5 (.bool (nn == 1)) (some 27) (by kernel_rfl) (by kernel_rfl) (by kernel_rfl) ?_
        obtain ⟨b2, hb2⟩ : ∃ b, Hid ((nn == 1) = b) := ⟨_, rfl⟩
        rw [hb2.out]
        have HP : Hid (b2 = pk i) := by rw [Hid, ← HP.out, ← hb2.out]; rfl
        refine lin_now 6 (.bool b2) (some 28) (by kernel_rfl) (by kernel_rfl) (by kernel_rfl) ?_
        refine lin_done 7 (by kernel_rfl) ?_
        generalize hact : Act.put _ (some 28) _ = act
        simp only [Act.put, List.setIfInBounds_toArray, List.set_cons_succ, List.set_cons_zero] at hact
        subst hact
        cases b2 with
        | true =>
          have PI : Hid (pk i = true) := by rw [Hid]; have := HP.out.symm; simpa using this
          have SN : Hid (selK pk es (i + 1) = selK pk es i ++ [(k, zs)]) := by rw [Hid, selK, if_pos PI.out, HE.out]; rfl
          go_upto_region 8 with (fail)
          refine lin_begin (opsOf Tryz.f22 8) (by kernel_rfl) ?_
          refine lin_now 0 (.slice sa m sc) (some 29) (by kernel_rfl) (by kernel_rfl) (by kernel_rfl) ?_
          refine lin_now 1 (.slice (some ⟨pb, po, none⟩) n lc) (some 30) (by kernel_rfl) (by kernel_rfl) (by kernel_rfl) ?_
          refine lin_now 2 (.int .i64 (i : Int)) (some 31) (by kernel_rfl) (by kernel_rfl) (by kernel_rfl) ?_
          refine lin_now 3 (.pointer (some ⟨pb, po + 33 * i, none⟩)) (some 32) (by kernel_rfl) (by kernel_rfl) (exec_indexAt 32 (.tmp 30) (.tmp 31) (by kernel_rfl) _ _ _ (by kernel_rfl) (by kernel_rfl) (run_at_ent pb po n lc i hlt wr)) ?_
          refine lin_now 4 (.pointer (some ⟨pb, po + 33 * i, none⟩)) (some 33) (by kernel_rfl) (by kernel_rfl) (by kernel_rfl) ?_
          refine lin_now 5 (.agg (ints .u8 k).toArray) (some 34) (by kernel_rfl) (by kernel_rfl) (exec_load_mid 34 (.tmp 33) (by kernel_rfl) pb (po + 33 * i) (by kernel_rfl) (ints .u8 k) _ (RK.out _ (Below.refl _ _)) digUnder rfl KS.out) ?_
          refine lin_newrow 6 34 (ints .u8 k) q 1 (some 35) (by kernel_rfl) (by kernel_rfl) hq (exec_of (Instr.buildSlice 57 1 #[(0, .agg (ints .u8 k).toArray)]) _ (by kernel_rfl) (run_build_dig k GK.out.1 _)) ?_
          intro w5 b5 be5 hs5
          have be5' : Below wr.heap.size wr w5 := by rw [hq.out]; exact be5
          have D5 : DsIn w5 (.slice (some ⟨q, 0, none⟩) 1 1) [k] := ⟨_, 1, rfl, Nat.le_refl _, fun _ => ⟨q, 0, rfl, b5.lt, by rw [show ([k] : List (List Int)).flatten = k by simp]; exact b5.whole⟩⟩
          have CS : C ≤ w5.heap.size := by rw [← hC.out]; exact Nat.le_trans BW.out.size be5'.size
          refine lin_appendd 7 (some 36) (by kernel_rfl) (by kernel_rfl) (by kernel_rfl) (.tmp 29) (.tmp 35) (by kernel_rfl) C _ ((selK pk es i).map (·.1)) (by kernel_rfl) (OD.out.below be5') _ [k] (by kernel_rfl) D5 (fun x hx => by obtain rfl : x = k := (by simpa using hx); exact GK.out.1) trivial (by rw [List.length_map, hml.out.1]; show m + 1 ≤ _; have := hml.out.2; omega) CS ?_
          intro v6 w6 hd6 hg6
          obtain ⟨sa6, sc6, ev6⟩ := row_slice hd6
          have hl6 : ((selK pk es i).map (·.1) ++ [k]).length = m + 1 := by rw [List.length_append, List.length_map, hml.out.1]; rfl
          rw [hl6] at ev6
          subst ev6
          have OD6 : Hid (OwnD w6 C (.slice sa6 (m + 1) sc6) ((selK pk es (i + 1)).map (·.1))) := by rw [Hid, SN.out, List.map_append]; exact hd6
          have BW6 : Hid (Below w2.heap.size w2 w6) := (BW.out.trans (be5'.mono BW.out.size)).grown hg6 (Nat.le_trans BW.out.size be5'.size) (fun g hg => by rw [hC.out]; exact (OD.out.lt g hg).1)
          have OW6 : Hid (OwnW T w2 w6 C (.slice wa m wc) (selK pk es i)) := by
            obtain ⟨vs, h1, h2⟩ := OW.out
            have h3 := own_step (F := []) (F' := []) h1 (Step.of_below be5' (Nat.le_refl _)) (fun g _ => by simp)
            refine ⟨vs, h3.kept hg6 ?_, h2⟩
            cases hob : (Value.slice wa m wc).ownBlock with
            | none => exact .inl rfl
            | some g => exact .inr (fun e => rows_apart h3 (OD.out.below be5') (by decide) g hob e.symm)
          have B26 : Hid (Below wr.heap.size wr w6 ∨ True) := .inr trivial
          have RK6 : Hid (w6.rangeAt pb (po + 33 * i) (ints .u8 k ++ [Value.slice ua un uc])) := fun j v hv => by
            have hpC : pb < C := by
              obtain ⟨a2, c2, e2, _, hp2⟩ := id LO.out
              rw [hn.out] at e2 hp2
              obtain ⟨ea, -, -⟩ := Value.slice.inj e2
              obtain ⟨pb2, po2, ea2, _, hl2, _⟩ := hp2 (by omega)
              have : (⟨pb, po, none⟩ : Addr) = ⟨pb2, po2, none⟩ := Option.some.inj (ea.trans ea2)
              obtain ⟨rfl, rfl⟩ : pb = pb2 ∧ po = po2 := by simpa using this
              rw [← hC.out]; exact hl2
            have hcell : ∀ o, w6.cell? ⟨pb, o, none⟩ = wr.cell? ⟨pb, o, none⟩ := fun o => by
              rw [BW6.out.cell (p := ⟨pb, o, none⟩) (by rw [hC.out]; exact hpC), BW.out.cell (p := ⟨pb, o, none⟩) (by rw [hC.out]; exact hpC)]
            rw [hcell]
            by_cases hj : j < 32
            · rw [List.getElem?_append_left (by rw [ints_length, GK.out.1]; exact hj)] at hv
              exact RK.out wr (Below.refl _ _) j v hv
            · rw [List.getElem?_append_right (by rw [ints_length, GK.out.1]; omega), ints_length, GK.out.1] at hv
              have hj2 : j = 32 := by
                have := (List.getElem?_eq_some_iff.1 hv).1
                simp at this
                omega
              subst hj2
              obtain rfl : Value.slice ua un uc = v := by simpa using hv
              exact CU.out wr (Below.refl _ _)
          refine lin_now 8 (.slice sa6 (m + 1) sc6) (some 8) (by kernel_rfl) (by kernel_rfl) (by kernel_rfl) ?_
          refine lin_done 9 (by kernel_rfl) ?_
          clear hd6 hg6 hl6 D5 b5 be5 be5' hs5 CS OD OW B26
          generalize hact : Act.put _ (some 8) _ = act
          simp only [Act.put, List.setIfInBounds_toArray, List.set_cons_succ, List.set_cons_zero] at hact
          subst hact
          obtain ⟨q6, hq6⟩ : ∃ q, Hid (w6.heap.size = q) := ⟨_, rfl⟩
          have ES : Hid ((Tryz.prog.info? 46).map (·.size) = some (ints .u8 k ++ [Value.slice ua un uc]).length) := by rw [Hid, List.length_append, ints_length, GK.out.1]; kernel_rfl
          go_upto_region 9 with (fail)
          refine lin_begin (opsOf Tryz.f22 9) (by kernel_rfl) ?_
          refine lin_now 0 (.slice wa m wc) (some 37) (by kernel_rfl) (by kernel_rfl) (by kernel_rfl) ?_
          refine lin_now 1 (.slice (some ⟨pb, po, none⟩) n lc) (some 38) (by kernel_rfl) (by kernel_rfl) (by kernel_rfl) ?_
          refine lin_now 2 (.int .i64 (i : Int)) (some 39) (by kernel_rfl) (by kernel_rfl) (by kernel_rfl) ?_
          refine lin_now 3 (.pointer (some ⟨pb, po + 33 * i, none⟩)) (some 40) (by kernel_rfl) (by kernel_rfl) (exec_indexAt 32 (.tmp 38) (.tmp 39) (by kernel_rfl) _ _ _ (by kernel_rfl) (by kernel_rfl) (run_at_ent pb po n lc i hlt w6)) ?_
          refine lin_now 4 (.agg (ints .u8 k ++ [Value.slice ua un uc]).toArray) (some 41) (by kernel_rfl) (by kernel_rfl) (exec_load_mid 46 (.tmp 40) (by kernel_rfl) pb (po + 33 * i) (by kernel_rfl) (ints .u8 k ++ [Value.slice ua un uc]) _ RK6.out Tryz.underlying46 rfl ES.out) ?_
          refine lin_newrow 5 46 (ints .u8 k ++ [Value.slice ua un uc]) q6 1 (some 42) (by kernel_rfl) (by kernel_rfl) hq6 (exec_of (Instr.buildSlice 32 1 #[(0, .agg (ints .u8 k ++ [Value.slice ua un uc]).toArray)]) _ (by kernel_rfl) (run_build_ents k GK.out.1 ua un uc _)) ?_
          intro w7 b7 be7 hs7
          have be7' : Below w6.heap.size w6 w7 := by rw [hq6.out]; exact be7
          obtain ⟨i0, hi0, hz0, hz1, hz2⟩ := info_parts infoEnt
          obtain ⟨vs, ho0, hvl, h32, hve⟩ := OW6.out
          rw [hml.out.1] at ho0
          have ho := own_step (F := []) (F' := []) ho0 (Step.of_below be7' (Nat.le_refl _)) (fun g _ => by simp)
          have cl : (ints .u8 k ++ [Value.slice ua un uc]).length = 33 := by rw [List.length_append, ints_length, GK.out.1]; rfl
          obtain ⟨g, cap, w8, hr8, ho8, hg8, hat8, hlt8⟩ := run_append_lies (P := Tryz.prog) w7 32 32 C 46 i0 _ 33 56 elemEnt hi0 hz0 hz1 hz2 (by show (ints .u8 (List.replicate 32 0) ++ [Value.slice none 0 0]).toArray.size = 33; rw [List.size_toArray, List.length_append, ints_length, List.length_replicate]; rfl) (by decide) (.slice wa m wc) m (ecells (selK pk es i) vs) ho ⟨q6, 0, none⟩ 1 1 (ints .u8 k ++ [Value.slice ua un uc]) (by rw [cl]) (fun j u hj => by rw [Addr.add_mid]; exact b7.whole j u hj) (fun u hu => by
            rcases List.mem_append.1 hu with h | h
            · exact ints_one _ _ u h
            · obtain rfl : u = Value.slice ua un uc := (by simpa using h)
              rfl) (by omega) (by have := hml.out.2; unfold maxLen; omega) (by have := hml.out.2; omega) (by rw [← hC.out]; exact Nat.le_trans BW6.out.size be7'.size) _ rfl
          refine lin_value 6 (.slice (some ⟨g, 0, none⟩) (m + 1) cap) (some 43) w8 (by kernel_rfl) (by kernel_rfl) (exec_of (Builtin.append_ #[32, 32] 32 #[.slice wa m wc, .slice (some ⟨q6, 0, none⟩) 1 1]) _ (by kernel_rfl) hr8) ?_
          refine lin_now 7 (.slice (some ⟨g, 0, none⟩) (m + 1) cap) (some 9) (by kernel_rfl) (by kernel_rfl) (by kernel_rfl) ?_
          refine lin_done 8 (by kernel_rfl) ?_
          have OW8 : Hid (OwnW T w2 w8 C (.slice (some ⟨g, 0, none⟩) (m + 1) cap) (selK pk es (i + 1))) := by rw [Hid, SN.out]; exact OwnW.snoc OW6.out hml.out.1 hvl hve VO.out.1 VO.out.2 GK.out.1 ho8
          have BW8 : Hid (Below w2.heap.size w2 w8) := (BW6.out.trans (be7'.mono BW6.out.size)).grown hg8 (Nat.le_trans BW6.out.size be7'.size) (fun x hx => by rw [hC.out]; exact (ho0.lt x hx).1)
          have OD8 : Hid (OwnD w8 C (.slice sa6 (m + 1) sc6) ((selK pk es (i + 1)).map (·.1))) := by
            have h3 := OD6.out.below be7'
            refine World.ownsRow.kept h3 hg8 ?_
            cases hob : (Value.slice sa6 (m + 1) sc6).ownBlock with
            | none => exact .inl rfl
            | some x => exact .inr (fun e => rows_apart h3 ho (by decide) x hob e.symm)
          have ML8 : Hid ((selK pk es (i + 1)).length = m + 1 ∧ m + 1 ≤ i + 1) := by rw [Hid, SN.out, List.length_append, hml.out.1]; exact ⟨rfl, by have := hml.out.2; omega⟩
          clear hr8 ho8 hg8 hat8 hlt8 ho ho0 hve hvl h32 b7 be7 be7' hs7 OW6 OD6 BW6 cl hi0 hz0 hz1 hz2 RK6 BW LW
          generalize hact : Act.put _ (some 9) _ = act
          simp only [Act.put, List.setIfInBounds_toArray, List.set_cons_succ, List.set_cons_zero] at hact
          subst hact
          go_wp2
          exact ⟨⟨i + 1, m + 1, sa6, sc6, _, cap, by omega, by go_num, rfl, rfl, OD8.out, OW8.out, BW8.out, ML8⟩, by simp [intOf]; omega⟩
        | false =>
          have SN : Hid (selK pk es (i + 1) = selK pk es i) := by rw [Hid, selK, if_neg (by rw [← HP.out]; decide), List.append_nil]
          have ML8 : Hid ((selK pk es i).length = m ∧ m ≤ i + 1) := ⟨hml.out.1, by have := hml.out.2; omega⟩
          go_wp2
          exact ⟨⟨i + 1, m, sa, sc, wa, wc, by omega, by go_num, rfl, rfl, by rw [SN.out]; exact OD.out, by rw [SN.out]; exact OW.out, BW.out, by rw [SN.out]; exact ML8⟩, by simp [intOf]; omega⟩
    · have r1 : ¬ (i : Int) < (n : Int) := by omega
      obtain rfl : i = n := by omega
      have SK : Hid (keepE es ((selK pk es i).map (·.1)) = selK pk es i) := by rw [Hid, ← hn.out]; exact selK_keep GD.out.nd
      have VW := Lib.hid (V2.out.below BW.out)
      have GS : Hid (∀ k ∈ (selK pk es i).map (·.1), goodK k) := fun k hk => by
        obtain ⟨e, he, rfl⟩ := List.mem_map.1 hk
        obtain ⟨j, _, _, hj⟩ := selK_sub pk es i e he
        exact (GD.out.g e (List.mem_of_getElem? hj)).1
      have GSE : Hid (∀ e ∈ selK pk es i, goodK e.1 ∧ e.2.length ≤ 1000) := fun e he => by
        obtain ⟨j, _, _, hj⟩ := selK_sub pk es i e he
        have := GD.out.g e (List.mem_of_getElem? hj)
        exact ⟨this.1, this.2.1⟩
      have WOFF : Hid (EntsOff T wr (.slice wa m wc) (selK pk es i)) := OW.out.off BW.out TC.out
      have BT : Hid (Below w.heap.size w wr) := B2.out.trans (BW.out.mono B2.out.size)
      have M5 : m ≤ 5000 := by have := hml.out.2; omega
      go_upto_region 10 with (fail)
      refine lin_begin (opsOf Tryz.f22 10) (by kernel_rfl) ?_
      refine lin_now 0 (.pointer (some ⟨vb, 0, none⟩)) (some 44) (by kernel_rfl) (by kernel_rfl) (by kernel_rfl) ?_
      refine lin_now 1 (.slice sa m sc) (some 45) (by kernel_rfl) (by kernel_rfl) (by kernel_rfl) ?_
      refine lin_call 2 27 #[.pointer (some ⟨vb, 0, none⟩), .slice sa m sc] (some 46) _ (by kernel_rfl) (by kernel_rfl) (by kernel_rfl) (vs_keep VW.out HK.out hKB hP hc _ ((selK pk es i).map (·.1)) OD.out.in GS.out (by rw [List.length_map, hml.out.1]; omega)) ?_
      rintro e w5 ⟨en, T5, rfl, hst, hcase⟩
      have ST5 := Lib.hid hst
      have STT : Hid (Step T w T5 w5) := (Step.of_below BT.out (Nat.le_refl _)).trans hst
      have L5 : Hid (EntsOff T5 w5 (.slice la i lc) es) := LW.out.step hst
      have W5 : Hid (EntsOff T5 w5 (.slice wa m wc) (selK pk es i)) := WOFF.out.step hst
      have CA := Lib.hid hcase
      clear hst hcase
      refine ⟨_, rfl, ?_⟩
      refine lin_now 3 (.int .i64 en) (some 11) (by kernel_rfl) (by kernel_rfl) (by kernel_rfl) ?_
      refine lin_done 4 (by kernel_rfl) ?_
      generalize hact : Act.put _ (some 11) _ = act
      simp only [Act.put, List.setIfInBounds_toArray, List.set_cons_succ, List.set_cons_zero] at hact
      subst hact
      rcases CA.out with ⟨rfl, _, left', hv⟩ | ⟨rfl, hv⟩
      · have V5 := Lib.hid hv
        clear hv CA
        go_upto_region 12 with (fail)
        refine lin_begin (opsOf Tryz.f22 12) (by kernel_rfl) ?_
        refine lin_now 0 (.int .i64 15) (some 49) (by kernel_rfl) (by kernel_rfl) (by kernel_rfl) ?_
        refine lin_now 1 (.bool false) (some 50) (by kernel_rfl) (by kernel_rfl) (by kernel_rfl) ?_
        refine lin_now 2 (.bool false) (some 51) (by kernel_rfl) (by kernel_rfl) (by kernel_rfl) ?_
        refine lin_now 3 (.pointer (some ⟨vb, 0, none⟩)) (some 52) (by kernel_rfl) (by kernel_rfl) (by kernel_rfl) ?_
        refine lin_call 4 17 #[.pointer (some ⟨vb, 0, none⟩)] (some 53) _ (by kernel_rfl) (by kernel_rfl) (by kernel_rfl) (vs_entries V5.out) ?_
        rintro e w6 ⟨mv, rfl, hmo, hmb, -⟩
        have V6 := V5.out.below hmb
        have M6 : EntsOff [] w6 mv es := hmo.off (fun k hk => by simp at hk)
        have L6 : EntsOff [] w6 (.slice la i lc) es := (L5.out.below hmb).sub (fun k hk => by simp at hk)
        obtain ⟨ma, mc, emv⟩ : ∃ a c, mv = .slice a i c := by obtain ⟨vs, h1, _⟩ := hmo; rw [hn.out] at h1; exact row_slice h1
        subst emv
        refine ⟨_, rfl, ?_⟩
        refine lin_now 5 (.slice la i lc) (some 54) (by kernel_rfl) (by kernel_rfl) (by kernel_rfl) ?_
        refine lin_call 6 16 #[.slice ma i mc, .slice la i lc] (some 55) _ (by kernel_rfl) (by kernel_rfl) (by kernel_rfl) (same_walk _ _ es _ M6 L6 (fun e he => ⟨(GD.out.g e he).1, (GD.out.g e he).2.1⟩) (by rw [hn.out]; omega)) ?_
        rintro e w7 ⟨rfl, nd, rfl⟩
        refine ⟨_, rfl, ?_⟩
        refine lin_now 7 (.bool false) (some 56) (by kernel_rfl) (by kernel_rfl) (by kernel_rfl) ?_
        refine lin_now 8 (.bool false) (some 57) (by kernel_rfl) (by kernel_rfl) (by kernel_rfl) ?_
        refine lin_done 9 (by kernel_rfl) ?_
        have V7 := Lib.hid (V6.below (below_drewN w6 nd))
        have S7 : Hid (Step T w T5 (w6.drewN nd)) := (STT.out.trans (Step.of_below hmb (Nat.le_refl _))).trans (Step.of_below (below_drewN w6 nd) (Nat.le_refl _))
        generalize w6.drewN nd = w7 at V7 S7 ⊢
        clear V6 M6 L6 hmo hmb
        generalize hact : Act.put _ (some 57) _ = act
        simp only [Act.put, List.setIfInBounds_toArray, List.set_cons_succ, List.set_cons_zero] at hact
        subst hact
        go_wp2
        go_ret
        exact ⟨es, sure, s, left', T5, rfl, S7.out, V7.out⟩
      · rw [SK.out, hml.out.1] at hv
        have V5 := Lib.hid hv
        clear hv CA
        go_upto_region 15 with (fail)
        refine lin_begin (opsOf Tryz.f22 15) (by kernel_rfl) ?_
        refine lin_now 0 (.pointer (some ⟨vb, 0, none⟩)) (some 59) (by kernel_rfl) (by kernel_rfl) (by kernel_rfl) ?_
        refine lin_call 1 17 #[.pointer (some ⟨vb, 0, none⟩)] (some 60) _ (by kernel_rfl) (by kernel_rfl) (by kernel_rfl) (vs_entries V5.out) ?_
        rintro e w6 ⟨mv, rfl, hmo, hmb, -⟩
        have V6 := V5.out.below hmb
        have M6 : EntsOff [] w6 mv (selK pk es i) := hmo.off (fun k hk => by simp at hk)
        have L6 : EntsOff [] w6 (.slice wa m wc) (selK pk es i) := (W5.out.below hmb).sub (fun k hk => by simp at hk)
        obtain ⟨ma, mc, emv⟩ : ∃ a c, mv = .slice a m c := by obtain ⟨vs, h1, _⟩ := hmo; rw [hml.out.1] at h1; exact row_slice h1
        subst emv
        refine ⟨_, rfl, ?_⟩
        refine lin_now 2 (.slice wa m wc) (some 61) (by kernel_rfl) (by kernel_rfl) (by kernel_rfl) ?_
        refine lin_call 3 16 #[.slice ma m mc, .slice wa m wc] (some 62) _ (by kernel_rfl) (by kernel_rfl) (by kernel_rfl) (same_walk _ _ (selK pk es i) _ M6 L6 GSE.out (by rw [hml.out.1]; omega)) ?_
        rintro e w7 ⟨rfl, nd, rfl⟩
        have V7 := V6.below (below_drewN w6 nd)
        refine ⟨_, rfl, ?_⟩
        refine lin_now 4 (.bool false) (some 63) (by kernel_rfl) (by kernel_rfl) (by kernel_rfl) ?_
        refine lin_now 5 (.bool false) (some 64) (by kernel_rfl) (by kernel_rfl) (by kernel_rfl) ?_
        refine lin_now 6 (.pointer (some ⟨vb, 0, none⟩)) (some 65) (by kernel_rfl) (by kernel_rfl) (by kernel_rfl) ?_
        refine lin_call 7 19 #[.pointer (some ⟨vb, 0, none⟩)] (some 66) _ (by kernel_rfl) (by kernel_rfl) (by kernel_rfl) (vs_sound V7) ?_
        rintro e w8 ⟨rfl, rfl⟩
        refine ⟨_, rfl, ?_⟩
        refine lin_now 8 (.bool false) (some 67) (by kernel_rfl) (by kernel_rfl) (by kernel_rfl) ?_
        refine lin_now 9 (.bool false) (some 68) (by kernel_rfl) (by kernel_rfl) (by kernel_rfl) ?_
        refine lin_done 10 (by kernel_rfl) ?_
        have V8 := Lib.hid V7
        have S7 : Hid (Step T w T5 (w6.drewN nd)) := (STT.out.trans (Step.of_below hmb (Nat.le_refl _))).trans (Step.of_below (below_drewN w6 nd) (Nat.le_refl _))
        generalize w6.drewN nd = w7 at V8 S7 ⊢
        clear V6 M6 L6 hmo hmb
        generalize hact : Act.put _ (some 68) _ = act
        simp only [Act.put, List.setIfInBounds_toArray, List.set_cons_succ, List.set_cons_zero] at hact
        subst hact
        go_wp2
        go_ret
        exact ⟨selK pk es i, m, true, _, T5, rfl, S7.out, V8.out⟩
end Go.Proofs.YtpafgoaeokgfcaaGreatDoor
/- VaultLasts answers true. -/
namespace Go.Proofs.YtpafgoaeokgfcaaGreatDoor
open Go Go.RowKit
set_option maxRecDepth 100000

def ccl6 (z k y : Int) (pv : Value) : List Value := [.int .i64 z, .int .i64 k, .int .u8 y, pv]
def zC6 : List Value := [.int .i64 0, .int .i64 0, .int .u8 0, .slice none 0 0]
theorem zeroC6 : (Tryz.prog.info? 38).map (·.zero) = some (some (.agg zC6.toArray)) := by kernel_rfl
theorem sizeC6 (z k y : Int) (pv : Value) : (Tryz.prog.info? 38).map (·.size) = some (ccl6 z k y pv).length := by kernel_rfl
theorem oneC6 (z k y : Int) (a : Option Addr) (m x : Nat) : (ccl6 z k y (.slice a m x)).toArray.all (·.oneCell') = true := all_oneCell_toArray (fun v hv => by
  simp only [ccl6, List.mem_cons, List.not_mem_nil, or_false] at hv
  rcases hv with rfl | rfl | rfl | rfl <;> rfl)
theorem bytes_slice6 {w : World} {v : Value} {zs : List Int} (h : BytesIn w v zs) : ∃ a c, v = .slice a zs.length c := by
  obtain ⟨a, c, e, _⟩ := h
  exact ⟨a, c, e⟩
theorem and15 (z : Int) (h : 0 ≤ z ∧ z ≤ 255) : 0 ≤ bits BinOp.and IntKind.u8 z 15 ∧ bits BinOp.and IntKind.u8 z 15 ≤ 255 := by
  have h1 : ∀ m : Fin 256, 0 ≤ bits BinOp.and IntKind.u8 ((m.val : Nat) : Int) 15 ∧ bits BinOp.and IntKind.u8 ((m.val : Nat) : Int) 15 ≤ 255 := by decide
  obtain ⟨m, rfl⟩ := Int.eq_ofNat_of_zero_le h.1
  exact h1 ⟨m, by omega⟩
theorem OwnE.slice {w : World} {B : Nat} {v : Value} {es : List Ent} (h : OwnE w B v es) : ∃ a c, v = .slice a es.length c ∧ (a = none ∨ ∃ g, a = some ⟨g, 0, none⟩) ∧ es.length ≤ c := by
  obtain ⟨vs, h1, _⟩ := h
  rcases h1.2 with ⟨rfl, h0⟩ | ⟨g, cap, cur, rfl, _, _, hc, _⟩
  · exact ⟨none, 0, by rw [h0], .inl rfl, by omega⟩
  · exact ⟨_, cap, rfl, .inr ⟨g, rfl⟩, hc⟩
theorem run_ents_head (a : Option Addr) (ha : a = none ∨ ∃ g, a = some ⟨g, 0, none⟩) (n c h : Nat) (h1 : h ≤ c) (w : World) : (Instr.sliceAt 32 (.slice a n c) none (some (.int .i64 (h : Int))) none).run Tryz.prog w = .ok (.slice a h c) w := by
  have hz : (sizeOf (Tryz.prog.elem 32)).run Tryz.prog w = .ok 33 w := by kernel_rfl
  have he : Tryz.prog.underlying 32 = some (.slice (Tryz.prog.elem 32)) := by kernel_rfl
  rw [run_sliceAt_slice w 32 _ _ _ _ he, run_slice_h w 32 _ n c he .i64 (h : Int) (by omega) (by omega), hz]
  rcases ha with rfl | ⟨g, rfl⟩
  · simp only [Result.andThen_ok, sliced, Int.toNat_natCast, Nat.sub_zero, Option.map_none]
    split <;> rfl
  · simp only [Result.andThen_ok, sliced, Int.toNat_natCast, Nat.sub_zero, Option.map_some, Nat.zero_mul, Addr.add_mid, Nat.add_zero]
    split <;> rfl
theorem PutOut.some {B : Nat} {w0 w w' : World} {d sz vb c P : Nat} {es : List Ent} {sure : Nat} {s : Bool} {left : Int} {T : List Nat} {k zs : List Int} {e : Ending} (h : PutOut B w0 d sz vb c P es sure s left T k zs w e w') (hc : c + 1 ≤ 255) : ∃ (n : Int) (T' : List Nat), e = .returned (.int .i64 n) ∧ Step T w T' w' ∧ ∃ es' s' left', VS B w0 d sz vb (c + 1) (P + 4096) es' sure s' left' T' w' := by
  obtain ⟨n, T', h1, h2, h3⟩ := h
  refine ⟨n, T', h1, h2, ?_⟩
  rcases h3 with ⟨_, _, h⟩ | ⟨_, ⟨_, _, _, h⟩ | ⟨_, ⟨_, _, h⟩ | ⟨_, _, _, h⟩ | ⟨_, _, _, _, _, h⟩ | ⟨_, _, _, _, h⟩⟩⟩
  all_goals exact ⟨_, _, _, h.more (by omega) hc (by omega)⟩
set_option maxHeartbeats 8000000 in
theorem vlasts_main (size : Int) (v : Value) (cs : List C6) (w : World) (hv : C6sIn w v cs) (hK : KW w) :
    Calls Tryz.prog 4 #[.int .i64 size, v] w fun e w' => e = .returned (.bool true) ∧ Below w.heap.size w w' := by
  obtain ⟨ca, ccap, rfl, hcl, -⟩ := id hv
  have HV := Lib.hid hv
  have HK := Lib.hid hK
  obtain ⟨n, hn⟩ : ∃ n, Hid (cs.length = n) := ⟨_, rfl⟩
  rw [hn.out] at HV hcl ⊢
  obtain ⟨B0, hB0⟩ : ∃ B, Hid (w.heap.size = B) := ⟨_, rfl⟩
  have KB0 : Hid (0 < B0) := by unfold Hid; rw [← hB0.out]; exact hK.lt
  rw [hB0.out]
  clear hv hK
  go_enter Tryz.func4, Tryz.ntmps4
  go_wp2_with fail
  refine (v6alive_walk _ HK.out).mono ?_
  rintro e w1 ⟨rfl, hb1⟩
  go_wp2_with fail
  refine (great6_walk _ cs _ (HV.out.below hb1)).mono ?_
  rintro e w2 ⟨gb, rfl, hgb, nd0, rfl⟩
  have HG := Lib.hid hgb
  have hb2 := hb1.trans ((below_drewN w1 nd0).mono hb1.size)
  have BE1 : Hid (Below B0 w (w1.drewN nd0)) := by unfold Hid; rw [← hB0.out]; exact hb2
  have HV1 : Hid (C6sIn (w1.drewN nd0) (.slice ca n ccap) cs) := HV.out.below hb2
  have HK1 : Hid (KW (w1.drewN nd0)) := HK.out.below hb2 HK.out.lt
  generalize w1.drewN nd0 = W1 at *
  clear hgb hb1 hb2
  cases gb with
  | true =>
    go_wp2
    go_ret
    exact ⟨rfl, BE1.out⟩
  | false =>
    by_cases s4 : size < 4
    · go_wp2
      go_ret
      exact ⟨rfl, BE1.out⟩
    · by_cases s40 : 60 < size
      · go_wp2
        go_ret
        exact ⟨rfl, BE1.out⟩
      · obtain ⟨sz, rfl⟩ := Int.eq_ofNat_of_zero_le (show 0 ≤ size by omega)
        have z4 : 4 ≤ sz := by omega
        have z40 : sz ≤ 60 := by omega
        have hgl := HG.out rfl
        rw [hn.out] at hgl
        have n40 : n ≤ 40 := hgl.1
        have HCL := Lib.hid hgl.2
        obtain ⟨B, hB⟩ : ∃ B, Hid (W1.heap.size = B) := ⟨_, rfl⟩
        have KB : Hid (0 < B) := by unfold Hid; rw [← hB.out]; exact HK1.out.lt
        have BB : Hid (B0 ≤ B) := by unfold Hid; have := BE1.out.size; have := hB0.out; have := hB.out; omega
        clear hgl HG
        go_wp2_with fail
        refine (new_yes sz (by omega) (by omega) _).mono ?_
        rintro e w3 ⟨d, F, rfl, hd3, hs3⟩
        have FG : Hid (∀ k ∈ F, B ≤ k) := fun k hk => by rcases hs3.fresh k hk with h | h; simp at h; rw [← hB.out]; exact h
        have B3 : Hid (Below B W1 w3) := by unfold Hid; rw [← hB.out]; exact hs3.below
        have DS3 : Hid (Ds B W1 d sz 0 [] F w3) := ds_new hd3 z4 (by omega) FG.out B3.out (Nat.le_of_eq hB.out.symm)
        clear hd3 hs3 FG B3
        go_wp2_with fail
        refine (vs_open 0 DS3.out HK1.out KB.out (by omega)).mono ?_
        rintro e w4 ⟨vb0, T0, rfl, hs4, hv4⟩
        have V4 : Hid (VS B W1 d sz vb0 (0 + 1) (4096 * 0) [] 0 true (-1) T0 w4) := hv4
        clear hv4 hs4 DS3
        go_wp2
        go_loopw [9, 7, 8] (fun iv vv sv wr => ∃ (i vb sure : Nat), i ≤ n ∧ iv = .int .i64 (i : Int) ∧ vv = .pointer (some ⟨vb, 0, none⟩) ∧ sv = .int .i64 (sure : Int) ∧ Hid (∃ es s left T, VS B W1 d sz vb (i + 1) (4096 * i) es sure s left T wr)) (fun iv _ _ _ => n - (intOf iv).toNat)
        case atStart => exact ⟨0, vb0, 0, Nat.zero_le _, rfl, rfl, rfl, _, _, _, _, V4.out⟩
        case round =>
          obtain ⟨i, vb, sure, hi, rfl, rfl, rfl, hls⟩ := hrel
          clear V4
          by_cases hlt : i < n
          · have r1 : (i : Int) < (n : Int) := by omega
            obtain ⟨es, s, left, T, hvs⟩ := hls.out
            obtain ⟨ca', ccap', hce, -, hcq⟩ := id HV1.out
            rw [hn.out] at hce hcq
            obtain ⟨ec1, -, -⟩ := Value.slice.inj hce
            obtain ⟨qb, qo, eca, hqb, hcat⟩ := hcq (by omega)
            rw [eca] at ec1
            subst ec1
            obtain ⟨c, hck⟩ : ∃ c, cs[i]? = some c := ⟨_, List.getElem?_eq_getElem (by rw [hn.out]; exact hlt)⟩
            have hca := hcat i c hck
            have hcm := HCL.out c (List.mem_of_getElem? hck)
            obtain ⟨pv, hpv1, hpv2, hpv3⟩ := hca.bs
            obtain ⟨pa, pcp, epv⟩ := bytes_slice6 hpv2
            obtain ⟨bs, hbs⟩ : ∃ r, Hid (c.bs = r) := ⟨_, rfl⟩
            rw [hbs.out] at hpv2 epv hcm
            obtain ⟨pn, hpn⟩ : ∃ r, Hid (bs.length = r) := ⟨_, rfl⟩
            rw [hpn.out] at epv
            subst epv
            have PB := Lib.hid hpv2
            have PN := Lib.hid hpv3
            have PBY : Hid (isBytes bs) := by unfold Hid; rw [← hbs.out]; exact hca.bbytes
            have P3 : pn ≤ 3000 := by rw [← hpn.out]; exact hcm
            obtain ⟨z, hz⟩ : ∃ z, Hid (c.what = z) := ⟨_, rfl⟩
            obtain ⟨kk, hkk⟩ : ∃ z, Hid (c.n = z) := ⟨_, rfl⟩
            obtain ⟨ky, hky⟩ : ∃ z, Hid (c.key = z) := ⟨_, rfl⟩
            have KY : Hid (0 ≤ ky ∧ ky ≤ 255) := by unfold Hid; rw [← hky.out]; exact hca.kr
            have kmax : kk ≤ 9223372036854775807 := by rw [← hkk.out]; have h := hca.wfn; simp [Lit.wf, IntKind.min, IntKind.max, IntKind.signed, IntKind.bits] at h; omega
            have hqw : qb < wr.heap.size := Nat.lt_of_lt_of_le hqb hvs.be.2.1.size
            have CR : Hid (wr.rangeAt qb (qo + 4 * i) (ccl6 z kk ky (.slice pa pn pcp))) := fun j v hv => by
              have kc : ∀ o', wr.cell? ⟨qb, o', none⟩ = W1.cell? ⟨qb, o', none⟩ := fun o' => hvs.be.2.1.cell (p := ⟨qb, o', none⟩) (by rw [← hB.out]; exact hqb)
              rw [kc]
              match j with
              | 0 => rw [Nat.add_zero, hca.what, hz.out]; exact hv
              | 1 => rw [hca.n, hkk.out]; exact hv
              | 2 => rw [hca.key, hky.out]; exact hv
              | 3 => rw [hpv1]; exact hv
              | j + 4 => simp [ccl6] at hv
            obtain ⟨cq, hcq2⟩ : ∃ q, Hid (wr.heap.size = q) := ⟨_, rfl⟩
            have LX := Lib.hid hvs
            clear hvs hls hca hcat hck hcm hpv1 hpv2 hpv3 hce hcq eca hqb
            go_upto_region 15 with (fail)
            refine lin_begin (opsOf Tryz.f4 15) (by kernel_rfl) ?_
            refine lin_now 0 (.slice (some ⟨qb, qo, none⟩) n ccap) (some 55) (by kernel_rfl) (by kernel_rfl) (by kernel_rfl) ?_
            refine lin_now 1 (.int .i64 (i : Int)) (some 56) (by kernel_rfl) (by kernel_rfl) (by kernel_rfl) ?_
            refine lin_now 2 (.pointer (some ⟨qb, qo + 4 * i, none⟩)) (some 57) (by kernel_rfl) (by kernel_rfl) (exec_indexAt 22 (.tmp 55) (.tmp 56) (by kernel_rfl) _ _ _ (by kernel_rfl) (by kernel_rfl) (run_at_call6 qb qo n ccap i hlt _)) ?_
            refine lin_now 3 (.agg (ccl6 z kk ky (.slice pa pn pcp)).toArray) (some 58) (by kernel_rfl) (by kernel_rfl) (exec_load_mid 38 (.tmp 57) (by kernel_rfl) qb (qo + 4 * i) (by kernel_rfl) _ _ CR.out Tryz.underlying38 rfl (sizeC6 _ _ _ _)) ?_
            refine lin_alloc 4 38 (zC6) (cq) (some 10) (by kernel_rfl) (by kernel_rfl) (by kernel_rfl) zeroC6 hcq2 ?_
            intro w6 b6 be6 hs6
            refine lin_put 5 38 (.tmp 10) (.tmp 58) cq _ zC6 (ccl6 z kk ky (.slice pa pn pcp)) (by kernel_rfl) (by kernel_rfl) (by kernel_rfl) (by kernel_rfl) (by kernel_rfl) b6 rfl (sizeC6 _ _ _ _) (oneC6 _ _ _ _ _ _) ?_
            intro w7 b7 u7
            refine lin_done 6 (by kernel_rfl) ?_
            have BB7 : Below wr.heap.size wr w7 := u7.below (by rw [hcq2.out]; exact be6) (by rw [hcq2.out]; exact Nat.le_refl _) be6.size
            have L7 := Lib.hid (LX.out.below BB7)
            have C7 := Lib.hid b7
            have CO : Hid (cq ∉ T) := fun hc => by have := LX.out.lt cq hc; have := hcq2.out; omega
            clear b6 be6 hs6 b7 u7 BB7 LX CR hcq2
            generalize hact : Act.put _ none undef = act
            simp only [Act.put, List.setIfInBounds_toArray, List.set_cons_succ, List.set_cons_zero] at hact
            subst hact
            have RO : Hid (∀ G W, (∀ k ∈ G, B ≤ k) → Below B W1 W → BytesOff G W (.slice pa pn pcp) bs) := fun G W hG hW => PB.out.off (by rw [hB.out]; exact hW) (by rw [hB.out]; exact hG)
            have c0 := C7.out.cell (j := 0) (v := .int .i64 z) rfl
            by_cases hz0 : z = 0
            · subst hz0
              go_upto_region 18 with (fail)
              refine region_begin (opsOf Tryz.f4 18) (fun w' => Blk w' cq 38 (ccl6 0 kk ky (.slice pa pn pcp))) (by kernel_rfl) (by kernel_rfl) 8 (by kernel_rfl) ?_
              intro Q' hQN hN
              obtain ⟨W4, hW4⟩ : ∃ W4, Hid (w7.drew = W4) := ⟨_, rfl⟩
              rw [hW4.out]
              have B74 : Below w7.heap.size w7 W4 := by rw [← hW4.out]; exact (Below.refl _ _).drew
              have L4 := L7.out.below B74
              have hS : Blk W4 cq 38 (ccl6 0 kk ky (.slice pa pn pcp)) := C7.out.below B74 C7.out.lt
              have CQL := hS.lt
              refine reg_now 0 (.pointer (some ⟨vb, 0, none⟩)) (some 63) hQN hS (by kernel_rfl) (by kernel_rfl) (fun w => by kernel_rfl) ?_
              refine reg_now 1 (.pointer (some ⟨cq, 2, none⟩)) (some 64) hQN hS (by kernel_rfl) (by kernel_rfl) (fun w => by kernel_rfl) ?_
              refine reg_nowIf 2 (.int .u8 ky) (some 65) hQN hS (by kernel_rfl) (by kernel_rfl) (fun w' hw => exec_load_cell 5 (.tmp 64) (by kernel_rfl) cq 2 (by kernel_rfl) _ (hw.cell rfl) _ Tryz.underlying5 rfl) ?_
              refine reg_now 3 (.int .u8 (bits BinOp.and IntKind.u8 ky 15)) (some 66) hQN hS (by kernel_rfl) (by kernel_rfl) (fun w => by kernel_rfl) ?_
              refine reg_now 5 (.pointer (some ⟨cq, 3, none⟩)) (some 68) hQN hS (by kernel_rfl) (by kernel_rfl) (fun w => by kernel_rfl) ?_
              refine reg_nowIf 6 (.slice pa pn pcp) (some 69) hQN hS (by kernel_rfl) (by kernel_rfl) (fun w' hw => exec_load_cell 36 (.tmp 68) (by kernel_rfl) cq 3 (by kernel_rfl) _ (hw.cell rfl) _ Tryz.underlying36 rfl) ?_
              refine reg_call 4 9 #[.int .u8 (bits BinOp.and IntKind.u8 ky 15)] (some 67) _ (by kernel_rfl) (by kernel_rfl) (by kernel_rfl) (v6key_walk _ _) ?_
              rintro e w5 ⟨rfl, hb5⟩
              have hS5 := hS.below hb5 CQL
              have L5 := L4.below hb5
              refine ⟨_, rfl, hS5, ?_⟩
              refine reg_call 7 15 #[.pointer (some ⟨vb, 0, none⟩), kval (keyL (bits BinOp.and IntKind.u8 ky 15)), .slice pa pn pcp] (some 70) _ (by kernel_rfl) (by kernel_rfl) (by kernel_rfl) (vs_put L5 HK1.out KB.out (by omega) _ (keyL_good (and15 ky KY.out)) (RO.out T _ L5.be.1 L5.be.2.1) PN.out PBY.out) ?_
              rintro e w8 hp
              obtain ⟨pn8, T8, rfl, hs8, es8, s8, left8, hv8⟩ := hp.some (by omega)
              have hS8 := hs8.blk hS5 CO.out
              refine ⟨_, rfl, hS8, ?_⟩
              refine reg_done (by kernel_rfl) (hN _ _ ?_)
              have HLS : Hid (∃ es0 s0 left0 T0, VS B W1 d sz vb (i + 1 + 1) (4096 * (i + 1)) es0 sure s0 left0 T0 w8) := ⟨_, _, _, _, hv8.more (by omega) (by omega) (by omega)⟩
              clear hp hv8 hs8 hS8 hS5 hS L4 L5 hb5 CQL hQN hN B74 hW4 L7 C7 c0
              generalize hact : Act.put _ (some 70) _ = act
              simp only [Act.put, List.setIfInBounds_toArray, List.set_cons_succ, List.set_cons_zero] at hact
              subst hact
              obtain ⟨es8, s8, left8, T8, hv8⟩ := HLS.out
              have L8 := Lib.hid hv8
              have SR := hv8.sr
              clear hv8
              go_upto_region 39 with (fail)
              refine lin_begin (opsOf Tryz.f4 39) (by kernel_rfl) ?_
              refine lin_now 0 (.int .i64 ((sure : Nat) : Int)) (some 142) (by kernel_rfl) (by kernel_rfl) (by kernel_rfl) ?_
              refine lin_now 1 (.bool (decide (((sure : Nat) : Int) < 0))) (some 143) (by kernel_rfl) (by kernel_rfl) (by kernel_rfl) ?_
              rw [decide_eq_false (show ¬ (((sure : Nat) : Int) < 0) by omega)]
              refine lin_now 2 (.bool false) (some 144) (by kernel_rfl) (by kernel_rfl) (by kernel_rfl) ?_
              refine lin_now 3 (.int .i64 ((sure : Nat) : Int)) (some 145) (by kernel_rfl) (by kernel_rfl) (by kernel_rfl) ?_
              refine lin_now 4 (.pointer (some ⟨vb, 0, none⟩)) (some 146) (by kernel_rfl) (by kernel_rfl) (by kernel_rfl) ?_
              refine lin_call 5 18 #[.pointer (some ⟨vb, 0, none⟩)] (some 147) _ (by kernel_rfl) (by kernel_rfl) (by kernel_rfl) (vs_len L8.out) ?_
              rintro e w9 ⟨rfl, rfl⟩
              refine ⟨_, rfl, ?_⟩
              refine lin_now 6 (.bool (decide ((es8.length : Int) < ((sure : Nat) : Int)))) (some 148) (by kernel_rfl) (by kernel_rfl) (by kernel_rfl) ?_
              rw [decide_eq_false (show ¬ ((es8.length : Int) < ((sure : Nat) : Int)) by omega)]
              refine lin_now 7 (.bool false) (some 149) (by kernel_rfl) (by kernel_rfl) (by kernel_rfl) ?_
              refine lin_done 8 (by kernel_rfl) ?_
              clear L8
              generalize hact : Act.put _ (some 149) _ = act
              simp only [Act.put, List.setIfInBounds_toArray, List.set_cons_succ, List.set_cons_zero] at hact
              subst hact
              go_wp2
              go_roundw
              case rel => exact ⟨i + 1, vb, sure, by omega, by go_num, rfl, rfl, HLS⟩
              case measure => simp [intOf]; omega
            · have e0 : (z == 0) = false := by simpa using hz0
              clear hz0
              by_cases hz1 : z = 1
              · subst hz1
                cases s with
                | true =>
                  go_upto_region 20 with (fail)
                  refine lin_begin (opsOf Tryz.f4 20) (by kernel_rfl) ?_
                  refine lin_now 0 (.pointer (some ⟨vb, 0, none⟩)) (some 73) (by kernel_rfl) (by kernel_rfl) (by kernel_rfl) ?_
                  refine lin_call 1 21 #[.pointer (some ⟨vb, 0, none⟩)] (some 74) _ (by kernel_rfl) (by kernel_rfl) (by kernel_rfl) (vs_flush L7.out (by omega)) ?_
                  rintro e w8 ⟨rfl, T8, hs8, hv8⟩
                  refine ⟨_, rfl, ?_⟩
                  refine lin_now 2 (.bool false) (some 75) (by kernel_rfl) (by kernel_rfl) (by kernel_rfl) ?_
                  refine lin_done 3 (by kernel_rfl) ?_
                  have V8 : Hid (VS B W1 d sz vb (i + 1) (4096 * i) es es.length true left T8 w8) := hv8
                  clear hv8 hs8 L7 C7 c0 CO
                  generalize hact : Act.put _ (some 75) _ = act
                  simp only [Act.put, List.setIfInBounds_toArray, List.set_cons_succ, List.set_cons_zero] at hact
                  subst hact
                  go_upto_region 22 with (fail)
                  refine lin_begin (opsOf Tryz.f4 22) (by kernel_rfl) ?_
                  refine lin_now 0 (.pointer (some ⟨vb, 0, none⟩)) (some 76) (by kernel_rfl) (by kernel_rfl) (by kernel_rfl) ?_
                  refine lin_call 1 19 #[.pointer (some ⟨vb, 0, none⟩)] (some 77) _ (by kernel_rfl) (by kernel_rfl) (by kernel_rfl) (vs_sound V8.out) ?_
                  rintro e w9 ⟨rfl, rfl⟩
                  refine ⟨_, rfl, ?_⟩
                  refine lin_done 2 (by kernel_rfl) ?_
                  generalize hact : Act.put _ (some 77) _ = act
                  simp only [Act.put, List.setIfInBounds_toArray, List.set_cons_succ, List.set_cons_zero] at hact
                  subst hact
                  go_upto_region 23 with (fail)
                  refine lin_begin (opsOf Tryz.f4 23) (by kernel_rfl) ?_
                  refine lin_now 0 (.pointer (some ⟨vb, 0, none⟩)) (some 78) (by kernel_rfl) (by kernel_rfl) (by kernel_rfl) ?_
                  refine lin_call 1 18 #[.pointer (some ⟨vb, 0, none⟩)] (some 79) _ (by kernel_rfl) (by kernel_rfl) (by kernel_rfl) (vs_len V8.out) ?_
                  rintro e w9 ⟨rfl, rfl⟩
                  refine ⟨_, rfl, ?_⟩
                  refine lin_now 2 (.int .i64 (es.length : Int)) (some 8) (by kernel_rfl) (by kernel_rfl) (by kernel_rfl) ?_
                  refine lin_done 3 (by kernel_rfl) ?_
                  generalize hact : Act.put _ (some 8) _ = act
                  simp only [Act.put, List.setIfInBounds_toArray, List.set_cons_succ, List.set_cons_zero] at hact
                  subst hact
                  have HLS : Hid (∃ es0 s0 left0 T0, VS B W1 d sz vb (i + 1 + 1) (4096 * (i + 1)) es0 es.length s0 left0 T0 w8) := ⟨_, _, _, _, V8.out.more (by omega) (by omega) (by omega)⟩
                  clear V8
                  obtain ⟨es8, s8, left8, T8, hv8⟩ := HLS.out
                  have L8 := Lib.hid hv8
                  have SR := hv8.sr
                  clear hv8
                  go_upto_region 39 with (fail)
                  refine lin_begin (opsOf Tryz.f4 39) (by kernel_rfl) ?_
                  refine lin_now 0 (.int .i64 ((es.length : Nat) : Int)) (some 142) (by kernel_rfl) (by kernel_rfl) (by kernel_rfl) ?_
                  refine lin_now 1 (.bool (decide (((es.length : Nat) : Int) < 0))) (some 143) (by kernel_rfl) (by kernel_rfl) (by kernel_rfl) ?_
                  rw [decide_eq_false (show ¬ (((es.length : Nat) : Int) < 0) by omega)]
                  refine lin_now 2 (.bool false) (some 144) (by kernel_rfl) (by kernel_rfl) (by kernel_rfl) ?_
                  refine lin_now 3 (.int .i64 ((es.length : Nat) : Int)) (some 145) (by kernel_rfl) (by kernel_rfl) (by kernel_rfl) ?_
                  refine lin_now 4 (.pointer (some ⟨vb, 0, none⟩)) (some 146) (by kernel_rfl) (by kernel_rfl) (by kernel_rfl) ?_
                  refine lin_call 5 18 #[.pointer (some ⟨vb, 0, none⟩)] (some 147) _ (by kernel_rfl) (by kernel_rfl) (by kernel_rfl) (vs_len L8.out) ?_
                  rintro e w9 ⟨rfl, rfl⟩
                  refine ⟨_, rfl, ?_⟩
                  refine lin_now 6 (.bool (decide ((es8.length : Int) < ((es.length : Nat) : Int)))) (some 148) (by kernel_rfl) (by kernel_rfl) (by kernel_rfl) ?_
                  rw [decide_eq_false (show ¬ ((es8.length : Int) < ((es.length : Nat) : Int)) by omega)]
                  refine lin_now 7 (.bool false) (some 149) (by kernel_rfl) (by kernel_rfl) (by kernel_rfl) ?_
                  refine lin_done 8 (by kernel_rfl) ?_
                  clear L8
                  generalize hact : Act.put _ (some 149) _ = act
                  simp only [Act.put, List.setIfInBounds_toArray, List.set_cons_succ, List.set_cons_zero] at hact
                  subst hact
                  go_wp2
                  go_roundw
                  case rel => exact ⟨i + 1, vb, es.length, by omega, by go_num, rfl, rfl, HLS⟩
                  case measure => simp [intOf]; omega
                | false =>
                  go_upto_region 20 with (fail)
                  refine lin_begin (opsOf Tryz.f4 20) (by kernel_rfl) ?_
                  refine lin_now 0 (.pointer (some ⟨vb, 0, none⟩)) (some 73) (by kernel_rfl) (by kernel_rfl) (by kernel_rfl) ?_
                  refine lin_call 1 21 #[.pointer (some ⟨vb, 0, none⟩)] (some 74) _ (by kernel_rfl) (by kernel_rfl) (by kernel_rfl) (vs_flush L7.out (by omega)) ?_
                  rintro e w8 ⟨rfl, T8, hs8, hv8⟩
                  refine ⟨_, rfl, ?_⟩
                  refine lin_now 2 (.bool false) (some 75) (by kernel_rfl) (by kernel_rfl) (by kernel_rfl) ?_
                  refine lin_done 3 (by kernel_rfl) ?_
                  have V8 : Hid (VS B W1 d sz vb (i + 1) (4096 * i) es sure false left T8 w8) := hv8
                  clear hv8 hs8 L7 C7 c0 CO
                  generalize hact : Act.put _ (some 75) _ = act
                  simp only [Act.put, List.setIfInBounds_toArray, List.set_cons_succ, List.set_cons_zero] at hact
                  subst hact
                  go_upto_region 22 with (fail)
                  refine lin_begin (opsOf Tryz.f4 22) (by kernel_rfl) ?_
                  refine lin_now 0 (.pointer (some ⟨vb, 0, none⟩)) (some 76) (by kernel_rfl) (by kernel_rfl) (by kernel_rfl) ?_
                  refine lin_call 1 19 #[.pointer (some ⟨vb, 0, none⟩)] (some 77) _ (by kernel_rfl) (by kernel_rfl) (by kernel_rfl) (vs_sound V8.out) ?_
                  rintro e w9 ⟨rfl, rfl⟩
                  refine ⟨_, rfl, ?_⟩
                  refine lin_done 2 (by kernel_rfl) ?_
                  generalize hact : Act.put _ (some 77) _ = act
                  simp only [Act.put, List.setIfInBounds_toArray, List.set_cons_succ, List.set_cons_zero] at hact
                  subst hact
                  have HLS : Hid (∃ es0 s0 left0 T0, VS B W1 d sz vb (i + 1 + 1) (4096 * (i + 1)) es0 sure s0 left0 T0 w8) := ⟨_, _, _, _, V8.out.more (by omega) (by omega) (by omega)⟩
                  clear V8
                  obtain ⟨es8, s8, left8, T8, hv8⟩ := HLS.out
                  have L8 := Lib.hid hv8
                  have SR := hv8.sr
                  clear hv8
                  go_upto_region 39 with (fail)
                  refine lin_begin (opsOf Tryz.f4 39) (by kernel_rfl) ?_
                  refine lin_now 0 (.int .i64 ((sure : Nat) : Int)) (some 142) (by kernel_rfl) (by kernel_rfl) (by kernel_rfl) ?_
                  refine lin_now 1 (.bool (decide (((sure : Nat) : Int) < 0))) (some 143) (by kernel_rfl) (by kernel_rfl) (by kernel_rfl) ?_
                  rw [decide_eq_false (show ¬ (((sure : Nat) : Int) < 0) by omega)]
                  refine lin_now 2 (.bool false) (some 144) (by kernel_rfl) (by kernel_rfl) (by kernel_rfl) ?_
                  refine lin_now 3 (.int .i64 ((sure : Nat) : Int)) (some 145) (by kernel_rfl) (by kernel_rfl) (by kernel_rfl) ?_
                  refine lin_now 4 (.pointer (some ⟨vb, 0, none⟩)) (some 146) (by kernel_rfl) (by kernel_rfl) (by kernel_rfl) ?_
                  refine lin_call 5 18 #[.pointer (some ⟨vb, 0, none⟩)] (some 147) _ (by kernel_rfl) (by kernel_rfl) (by kernel_rfl) (vs_len L8.out) ?_
                  rintro e w9 ⟨rfl, rfl⟩
                  refine ⟨_, rfl, ?_⟩
                  refine lin_now 6 (.bool (decide ((es8.length : Int) < ((sure : Nat) : Int)))) (some 148) (by kernel_rfl) (by kernel_rfl) (by kernel_rfl) ?_
                  rw [decide_eq_false (show ¬ ((es8.length : Int) < ((sure : Nat) : Int)) by omega)]
                  refine lin_now 7 (.bool false) (some 149) (by kernel_rfl) (by kernel_rfl) (by kernel_rfl) ?_
                  refine lin_done 8 (by kernel_rfl) ?_
                  clear L8
                  generalize hact : Act.put _ (some 149) _ = act
                  simp only [Act.put, List.setIfInBounds_toArray, List.set_cons_succ, List.set_cons_zero] at hact
                  subst hact
                  go_wp2
                  go_roundw
                  case rel => exact ⟨i + 1, vb, sure, by omega, by go_num, rfl, rfl, HLS⟩
                  case measure => simp [intOf]; omega
              · have e1 : (z == 1) = false := by simpa using hz1
                clear hz1
                by_cases hz2 : z = 2
                · subst hz2
                  have CX := C7
                  go_upto_region 25 with (fail)
                  refine lin_begin (opsOf Tryz.f4 25) (by kernel_rfl) ?_
                  refine lin_now 0 (.pointer (some ⟨vb, 0, none⟩)) (some 82) (by kernel_rfl) (by kernel_rfl) (by kernel_rfl) ?_
                  refine lin_now 1 (.pointer (some ⟨cq, 1, none⟩)) (some 83) (by kernel_rfl) (by kernel_rfl) (by kernel_rfl) ?_
                  refine lin_now 2 (.int .i64 kk) (some 84) (by kernel_rfl) (by kernel_rfl) (exec_load_cell 3 (.tmp 83) (by kernel_rfl) cq 1 (by kernel_rfl) _ (CX.out.cell rfl) _ Tryz.underlying3 rfl) ?_
                  refine lin_now 3 (.int .i64 (sure : Int)) (some 85) (by kernel_rfl) (by kernel_rfl) (by kernel_rfl) ?_
                  refine lin_call 4 22 #[.pointer (some ⟨vb, 0, none⟩), .int .i64 kk, .int .i64 (sure : Int)] (some 86) _ (by kernel_rfl) (by kernel_rfl) (by kernel_rfl) (v6keep_walk L7.out HK1.out KB.out (by omega) (by omega) kk) ?_
                  rintro e w8 ⟨es8, sure8, s8, left8, T8, rfl, hs8, hv8⟩
                  refine ⟨_, rfl, ?_⟩
                  refine lin_now 5 (.int .i64 (sure8 : Int)) (some 8) (by kernel_rfl) (by kernel_rfl) (by kernel_rfl) ?_
                  refine lin_done 6 (by kernel_rfl) ?_
                  have HLS : Hid (∃ es0 s0 left0 T0, VS B W1 d sz vb (i + 1 + 1) (4096 * (i + 1)) es0 sure8 s0 left0 T0 w8) := ⟨_, _, _, _, hv8.more (by omega) (by omega) (by omega)⟩
                  clear hv8 hs8 L7 C7 CX c0 CO
                  generalize hact : Act.put _ (some 8) _ = act
                  simp only [Act.put, List.setIfInBounds_toArray, List.set_cons_succ, List.set_cons_zero] at hact
                  subst hact
                  obtain ⟨es8, s8, left8, T8, hv8⟩ := HLS.out
                  have L8 := Lib.hid hv8
                  have SR := hv8.sr
                  clear hv8
                  go_upto_region 39 with (fail)
                  refine lin_begin (opsOf Tryz.f4 39) (by kernel_rfl) ?_
                  refine lin_now 0 (.int .i64 ((sure8 : Nat) : Int)) (some 142) (by kernel_rfl) (by kernel_rfl) (by kernel_rfl) ?_
                  refine lin_now 1 (.bool (decide (((sure8 : Nat) : Int) < 0))) (some 143) (by kernel_rfl) (by kernel_rfl) (by kernel_rfl) ?_
                  rw [decide_eq_false (show ¬ (((sure8 : Nat) : Int) < 0) by omega)]
                  refine lin_now 2 (.bool false) (some 144) (by kernel_rfl) (by kernel_rfl) (by kernel_rfl) ?_
                  refine lin_now 3 (.int .i64 ((sure8 : Nat) : Int)) (some 145) (by kernel_rfl) (by kernel_rfl) (by kernel_rfl) ?_
                  refine lin_now 4 (.pointer (some ⟨vb, 0, none⟩)) (some 146) (by kernel_rfl) (by kernel_rfl) (by kernel_rfl) ?_
                  refine lin_call 5 18 #[.pointer (some ⟨vb, 0, none⟩)] (some 147) _ (by kernel_rfl) (by kernel_rfl) (by kernel_rfl) (vs_len L8.out) ?_
                  rintro e w9 ⟨rfl, rfl⟩
                  refine ⟨_, rfl, ?_⟩
                  refine lin_now 6 (.bool (decide ((es8.length : Int) < ((sure8 : Nat) : Int)))) (some 148) (by kernel_rfl) (by kernel_rfl) (by kernel_rfl) ?_
                  rw [decide_eq_false (show ¬ ((es8.length : Int) < ((sure8 : Nat) : Int)) by omega)]
                  refine lin_now 7 (.bool false) (some 149) (by kernel_rfl) (by kernel_rfl) (by kernel_rfl) ?_
                  refine lin_done 8 (by kernel_rfl) ?_
                  clear L8
                  generalize hact : Act.put _ (some 149) _ = act
                  simp only [Act.put, List.setIfInBounds_toArray, List.set_cons_succ, List.set_cons_zero] at hact
                  subst hact
                  go_wp2
                  go_roundw
                  case rel => exact ⟨i + 1, vb, sure8, by omega, by go_num, rfl, rfl, HLS⟩
                  case measure => simp [intOf]; omega
                · have e2 : (z == 2) = false := by simpa using hz2
                  clear hz2
                  by_cases hz3 : z = 3
                  · subst hz3
                    have CX := C7
                    go_upto_region 27 with (fail)
                    refine lin_begin (opsOf Tryz.f4 27) (by kernel_rfl) ?_
                    refine lin_now 0 (.pointer (some ⟨d, 0, none⟩)) (some 89) (by kernel_rfl) (by kernel_rfl) (by kernel_rfl) ?_
                    refine lin_now 1 (.pointer (some ⟨cq, 1, none⟩)) (some 90) (by kernel_rfl) (by kernel_rfl) (by kernel_rfl) ?_
                    refine lin_now 2 (.int .i64 kk) (some 91) (by kernel_rfl) (by kernel_rfl) (exec_load_cell 3 (.tmp 90) (by kernel_rfl) cq 1 (by kernel_rfl) _ (CX.out.cell rfl) _ Tryz.underlying3 rfl) ?_
                    refine lin_call 3 23 #[.pointer (some ⟨d, 0, none⟩), .int .i64 kk] (some 92) _ (by kernel_rfl) (by kernel_rfl) (by kernel_rfl) (vs_limit L7.out kk kmax) ?_
                    rintro e w8 ⟨rfl, T8, hs8, hv8⟩
                    refine ⟨_, rfl, ?_⟩
                    refine lin_done 4 (by kernel_rfl) ?_
                    have HLS : Hid (∃ es0 s0 left0 T0, VS B W1 d sz vb (i + 1 + 1) (4096 * (i + 1)) es0 sure s0 left0 T0 w8) := ⟨_, _, _, _, hv8.more (by omega) (by omega) (by omega)⟩
                    clear hv8 hs8 L7 C7 CX c0 CO
                    generalize hact : Act.put _ (some 92) _ = act
                    simp only [Act.put, List.setIfInBounds_toArray, List.set_cons_succ, List.set_cons_zero] at hact
                    subst hact
                    obtain ⟨es8, s8, left8, T8, hv8⟩ := HLS.out
                    have L8 := Lib.hid hv8
                    have SR := hv8.sr
                    clear hv8
                    go_upto_region 39 with (fail)
                    refine lin_begin (opsOf Tryz.f4 39) (by kernel_rfl) ?_
                    refine lin_now 0 (.int .i64 ((sure : Nat) : Int)) (some 142) (by kernel_rfl) (by kernel_rfl) (by kernel_rfl) ?_
                    refine lin_now 1 (.bool (decide (((sure : Nat) : Int) < 0))) (some 143) (by kernel_rfl) (by kernel_rfl) (by kernel_rfl) ?_
                    rw [decide_eq_false (show ¬ (((sure : Nat) : Int) < 0) by omega)]
                    refine lin_now 2 (.bool false) (some 144) (by kernel_rfl) (by kernel_rfl) (by kernel_rfl) ?_
                    refine lin_now 3 (.int .i64 ((sure : Nat) : Int)) (some 145) (by kernel_rfl) (by kernel_rfl) (by kernel_rfl) ?_
                    refine lin_now 4 (.pointer (some ⟨vb, 0, none⟩)) (some 146) (by kernel_rfl) (by kernel_rfl) (by kernel_rfl) ?_
                    refine lin_call 5 18 #[.pointer (some ⟨vb, 0, none⟩)] (some 147) _ (by kernel_rfl) (by kernel_rfl) (by kernel_rfl) (vs_len L8.out) ?_
                    rintro e w9 ⟨rfl, rfl⟩
                    refine ⟨_, rfl, ?_⟩
                    refine lin_now 6 (.bool (decide ((es8.length : Int) < ((sure : Nat) : Int)))) (some 148) (by kernel_rfl) (by kernel_rfl) (by kernel_rfl) ?_
                    rw [decide_eq_false (show ¬ ((es8.length : Int) < ((sure : Nat) : Int)) by omega)]
                    refine lin_now 7 (.bool false) (some 149) (by kernel_rfl) (by kernel_rfl) (by kernel_rfl) ?_
                    refine lin_done 8 (by kernel_rfl) ?_
                    clear L8
                    generalize hact : Act.put _ (some 149) _ = act
                    simp only [Act.put, List.setIfInBounds_toArray, List.set_cons_succ, List.set_cons_zero] at hact
                    subst hact
                    go_wp2
                    go_roundw
                    case rel => exact ⟨i + 1, vb, sure, by omega, by go_num, rfl, rfl, HLS⟩
                    case measure => simp [intOf]; omega
                  · have e3 : (z == 3) = false := by simpa using hz3
                    clear hz3
                    by_cases hz4 : z = 4
                    · subst hz4
                      go_upto_region 29 with (fail)
                      refine lin_begin (opsOf Tryz.f4 29) (by kernel_rfl) ?_
                      refine lin_now 0 (.pointer (some ⟨vb, 0, none⟩)) (some 95) (by kernel_rfl) (by kernel_rfl) (by kernel_rfl) ?_
                      refine lin_call 1 17 #[.pointer (some ⟨vb, 0, none⟩)] (some 96) _ (by kernel_rfl) (by kernel_rfl) (by kernel_rfl) (vs_entries L7.out) ?_
                      rintro e w8 ⟨lv, rfl, hlo, hlb, -⟩
                      obtain ⟨la, lc, elv, hla, hlc⟩ := hlo.slice
                      obtain ⟨n8, hn8⟩ : ∃ k, Hid (es.length = k) := ⟨_, rfl⟩
                      rw [hn8.out] at elv hlc
                      subst elv
                      have LE8 : Hid (EntsOff T w8 (.slice la n8 lc) es) := hlo.off L7.out.lt
                      have V8 := Lib.hid (L7.out.below hlb)
                      have CX := Lib.hid (C7.out.below hlb C7.out.lt)
                      refine ⟨_, rfl, ?_⟩
                      refine lin_now 2 (.slice la n8 lc) (some 11) (by kernel_rfl) (by kernel_rfl) (by kernel_rfl) ?_
                      refine lin_done 3 (by kernel_rfl) ?_
                      clear hlo hlb L7 C7 c0 CO
                      generalize hact : Act.put _ (some 11) _ = act
                      simp only [Act.put, List.setIfInBounds_toArray, List.set_cons_succ, List.set_cons_zero] at hact
                      subst hact
                      go_upto_region 30 with (fail)
                      refine lin_begin (opsOf Tryz.f4 30) (by kernel_rfl) ?_
                      refine lin_now 0 (.pointer (some ⟨d, 0, none⟩)) (some 97) (by kernel_rfl) (by kernel_rfl) (by kernel_rfl) ?_
                      refine lin_now 1 (.pointer (some ⟨cq, 3, none⟩)) (some 98) (by kernel_rfl) (by kernel_rfl) (by kernel_rfl) ?_
                      refine lin_now 2 (.slice pa pn pcp) (some 99) (by kernel_rfl) (by kernel_rfl) (exec_load_cell 36 (.tmp 98) (by kernel_rfl) cq 3 (by kernel_rfl) _ (CX.out.cell rfl) _ Tryz.underlying36 rfl) ?_
                      refine lin_call 3 24 #[.pointer (some ⟨d, 0, none⟩), .slice pa pn pcp] (some 100) _ (by kernel_rfl) (by kernel_rfl) (by kernel_rfl) (vs_crash V8.out (by omega) _ bs (RO.out T _ V8.out.be.1 V8.out.be.2.1) PBY.out (by rw [hpn.out]; omega)) ?_
                      rintro e w9 ⟨⟨cn, rfl⟩, KK, F9, F9', A9, ap9, kv9, mb9, hk1, hk2, hF9, -, hst9, -, hds9⟩
                      have LE9 : Hid (EntsOff F9' w9 (.slice la n8 lc) es) := (LE8.out.sub hF9).step hst9
                      obtain ⟨et, het⟩ : ∃ l, Hid (es.take KK = l) := ⟨_, rfl⟩
                      have hel : KK = et.length := by rw [← het.out, List.length_take]; omega
                      rw [het.out] at hds9
                      have DS9 := Lib.hid hds9
                      rw [hn8.out] at hk2
                      refine ⟨_, rfl, ?_⟩
                      refine lin_done 4 (by kernel_rfl) ?_
                      clear hst9 hds9 V8 LE8 CX hF9
                      generalize hact : Act.put _ (some 100) _ = act
                      simp only [Act.put, List.setIfInBounds_toArray, List.set_cons_succ, List.set_cons_zero] at hact
                      subst hact
                      go_upto_region 31 with (fail)
                      refine lin_begin (opsOf Tryz.f4 31) (by kernel_rfl) ?_
                      refine lin_now 0 (.pointer (some ⟨d, 0, none⟩)) (some 102) (by kernel_rfl) (by kernel_rfl) (by kernel_rfl) ?_
                      refine lin_call 1 8 #[.pointer (some ⟨d, 0, none⟩)] (some 103) _ (by kernel_rfl) (by kernel_rfl) (by kernel_rfl) (vs_open 0 DS9.out HK1.out KB.out (by omega)) ?_
                      rintro e w10 ⟨vb', T10, rfl, hst10, hv10⟩
                      have V10 := Lib.hid hv10
                      have LE10 : Hid (EntsOff T10 w10 (.slice la n8 lc) es) := LE9.out.step hst10
                      refine ⟨_, rfl, ?_⟩
                      refine lin_now 2 (.tuple #[.pointer (some ⟨vb', 0, none⟩), .int .i64 0]) (some 101) (by kernel_rfl) (by kernel_rfl) (by kernel_rfl) ?_
                      refine lin_now 3 (.pointer (some ⟨vb', 0, none⟩)) (some 104) (by kernel_rfl) (by kernel_rfl) (by kernel_rfl) ?_
                      refine lin_now 4 (.int .i64 0) (some 105) (by kernel_rfl) (by kernel_rfl) (by kernel_rfl) ?_
                      refine lin_now 5 (.pointer (some ⟨vb', 0, none⟩)) (some 12) (by kernel_rfl) (by kernel_rfl) (by kernel_rfl) ?_
                      refine lin_now 6 (.int .i64 0) (some 13) (by kernel_rfl) (by kernel_rfl) (by kernel_rfl) ?_
                      refine lin_done 7 (by kernel_rfl) ?_
                      clear hst10 hv10 DS9 LE9
                      generalize hact : Act.put _ (some 13) _ = act
                      simp only [Act.put, List.setIfInBounds_toArray, List.set_cons_succ, List.set_cons_zero] at hact
                      subst hact
                      go_upto_region 32 with (fail)
                      refine lin_begin (opsOf Tryz.f4 32) (by kernel_rfl) ?_
                      refine lin_now 0 (.int .i64 0) (some 106) (by kernel_rfl) (by kernel_rfl) (by kernel_rfl) ?_
                      refine lin_now 1 (.bool false) (some 107) (by kernel_rfl) (by kernel_rfl) (by kernel_rfl) ?_
                      refine lin_now 2 (.bool false) (some 108) (by kernel_rfl) (by kernel_rfl) (by kernel_rfl) ?_
                      refine lin_now 3 (.pointer (some ⟨vb', 0, none⟩)) (some 109) (by kernel_rfl) (by kernel_rfl) (by kernel_rfl) ?_
                      refine lin_now 4 (.bool false) (some 110) (by kernel_rfl) (by kernel_rfl) (by kernel_rfl) ?_
                      refine lin_now 5 (.bool false) (some 111) (by kernel_rfl) (by kernel_rfl) (by kernel_rfl) ?_
                      refine lin_now 6 (.bool false) (some 112) (by kernel_rfl) (by kernel_rfl) (by kernel_rfl) ?_
                      refine lin_now 7 (.pointer (some ⟨vb', 0, none⟩)) (some 113) (by kernel_rfl) (by kernel_rfl) (by kernel_rfl) ?_
                      refine lin_call 8 19 #[.pointer (some ⟨vb', 0, none⟩)] (some 114) _ (by kernel_rfl) (by kernel_rfl) (by kernel_rfl) (vs_sound V10.out) ?_
                      rintro e w11 ⟨rfl, rfl⟩
                      refine ⟨_, rfl, ?_⟩
                      refine lin_now 9 (.bool false) (some 115) (by kernel_rfl) (by kernel_rfl) (by kernel_rfl) ?_
                      refine lin_now 10 (.bool false) (some 116) (by kernel_rfl) (by kernel_rfl) (by kernel_rfl) ?_
                      refine lin_done 11 (by kernel_rfl) ?_
                      generalize hact : Act.put _ (some 116) _ = act
                      simp only [Act.put, List.setIfInBounds_toArray, List.set_cons_succ, List.set_cons_zero] at hact
                      subst hact
                      go_upto_region 34 with (fail)
                      refine lin_begin (opsOf Tryz.f4 34) (by kernel_rfl) ?_
                      refine lin_now 0 (.pointer (some ⟨vb', 0, none⟩)) (some 117) (by kernel_rfl) (by kernel_rfl) (by kernel_rfl) ?_
                      refine lin_call 1 17 #[.pointer (some ⟨vb', 0, none⟩)] (some 118) _ (by kernel_rfl) (by kernel_rfl) (by kernel_rfl) (vs_entries V10.out) ?_
                      rintro e w11 ⟨mv, rfl, hmo, hmb, -⟩
                      obtain ⟨ma, mc, emv, -, -⟩ := hmo.slice
                      subst emv
                      have ME11 : Hid (EntsOff [] w11 (.slice ma et.length mc) et) := hmo.off (fun k hk => by simp at hk)
                      have V11 := Lib.hid (V10.out.below hmb)
                      have LE11 : Hid (EntsOff [] w11 (.slice la et.length lc) et) := by
                        have h1 : EntsOff [] w11 (.slice la n8 lc) es := (LE10.out.below hmb).sub (fun k hk => by simp at hk)
                        have h2 := h1.take (K := KK) (by rw [hn8.out]; exact hk2)
                        rw [het.out, hel] at h2
                        exact h2
                      refine ⟨_, rfl, ?_⟩
                      refine lin_now 2 (.slice ma et.length mc) (some 14) (by kernel_rfl) (by kernel_rfl) (by kernel_rfl) ?_
                      refine lin_done 3 (by kernel_rfl) ?_
                      clear hmo hmb V10 LE10
                      generalize hact : Act.put _ (some 14) _ = act
                      simp only [Act.put, List.setIfInBounds_toArray, List.set_cons_succ, List.set_cons_zero] at hact
                      subst hact
                      have HEL := Lib.hid hel
                      have k1 : sure ≤ et.length := by omega
                      have k2 : et.length ≤ n8 := by omega
                      have k3 : et.length ≤ 4096 := by have h := V11.out.gd; have := h.1.fit; have := h.2.1; have := h.2.2; omega
                      clear hel
                      go_upto_region 35 with (fail)
                      refine lin_begin (opsOf Tryz.f4 35) (by kernel_rfl) ?_
                      refine lin_now 0 (.slice ma et.length mc) (some 119) (by kernel_rfl) (by kernel_rfl) (by kernel_rfl) ?_
                      refine lin_now 1 (.int .i64 (et.length : Int)) (some 120) (by kernel_rfl) (by kernel_rfl) (by kernel_rfl) ?_
                      refine lin_now 2 (.int .i64 (sure : Int)) (some 121) (by kernel_rfl) (by kernel_rfl) (by kernel_rfl) ?_
                      refine lin_now 3 (.bool (decide ((et.length : Int) < (sure : Int)))) (some 122) (by kernel_rfl) (by kernel_rfl) (by kernel_rfl) ?_
                      rw [decide_eq_false (show ¬ ((et.length : Int) < (sure : Int)) by omega)]
                      refine lin_now 4 (.bool false) (some 123) (by kernel_rfl) (by kernel_rfl) (by kernel_rfl) ?_
                      refine lin_now 5 (.slice ma et.length mc) (some 124) (by kernel_rfl) (by kernel_rfl) (by kernel_rfl) ?_
                      refine lin_now 6 (.int .i64 (et.length : Int)) (some 125) (by kernel_rfl) (by kernel_rfl) (by kernel_rfl) ?_
                      refine lin_now 7 (.slice la n8 lc) (some 126) (by kernel_rfl) (by kernel_rfl) (by kernel_rfl) ?_
                      refine lin_now 8 (.int .i64 (n8 : Int)) (some 127) (by kernel_rfl) (by kernel_rfl) (by kernel_rfl) ?_
                      refine lin_now 9 (.bool (decide ((n8 : Int) < (et.length : Int)))) (some 128) (by kernel_rfl) (by kernel_rfl) (by kernel_rfl) ?_
                      rw [decide_eq_false (show ¬ ((n8 : Int) < (et.length : Int)) by omega)]
                      refine lin_now 10 (.bool false) (some 129) (by kernel_rfl) (by kernel_rfl) (by kernel_rfl) ?_
                      refine lin_now 11 (.bool false) (some 130) (by kernel_rfl) (by kernel_rfl) (by kernel_rfl) ?_
                      refine lin_now 12 (.slice ma et.length mc) (some 131) (by kernel_rfl) (by kernel_rfl) (by kernel_rfl) ?_
                      refine lin_now 13 (.slice la n8 lc) (some 132) (by kernel_rfl) (by kernel_rfl) (by kernel_rfl) ?_
                      refine lin_now 14 (.slice ma et.length mc) (some 133) (by kernel_rfl) (by kernel_rfl) (by kernel_rfl) ?_
                      refine lin_now 15 (.int .i64 (et.length : Int)) (some 134) (by kernel_rfl) (by kernel_rfl) (by kernel_rfl) ?_
                      refine lin_now 16 (.slice la et.length lc) (some 135) (by kernel_rfl) (by kernel_rfl) (exec_of (Instr.sliceAt 32 (.slice la n8 lc) none (some (.int .i64 (et.length : Int))) none) _ (by kernel_rfl) (run_ents_head la hla n8 lc et.length (by omega) _)) ?_
                      refine lin_call 17 16 #[.slice ma et.length mc, .slice la et.length lc] (some 136) _ (by kernel_rfl) (by kernel_rfl) (by kernel_rfl) (same_walk _ _ et _ ME11.out LE11.out (fun e he => ⟨(V11.out.gd.1.g e he).1, (V11.out.gd.1.g e he).2.1⟩) (by omega)) ?_
                      rintro e w12 ⟨rfl, nd, rfl⟩
                      refine ⟨_, rfl, ?_⟩
                      refine lin_now 18 (.bool false) (some 137) (by kernel_rfl) (by kernel_rfl) (by kernel_rfl) ?_
                      refine lin_now 19 (.bool false) (some 138) (by kernel_rfl) (by kernel_rfl) (by kernel_rfl) ?_
                      refine lin_done 20 (by kernel_rfl) ?_
                      have V12 := Lib.hid (V11.out.below (below_drewN w11 nd))
                      generalize w11.drewN nd = w12 at V12 ⊢
                      clear V11 ME11 LE11
                      generalize hact : Act.put _ (some 138) _ = act
                      simp only [Act.put, List.setIfInBounds_toArray, List.set_cons_succ, List.set_cons_zero] at hact
                      subst hact
                      go_upto_region 37 with (fail)
                      refine lin_begin (opsOf Tryz.f4 37) (by kernel_rfl) ?_
                      refine lin_now 0 (.pointer (some ⟨vb', 0, none⟩)) (some 139) (by kernel_rfl) (by kernel_rfl) (by kernel_rfl) ?_
                      refine lin_now 1 (.pointer (some ⟨vb', 0, none⟩)) (some 7) (by kernel_rfl) (by kernel_rfl) (by kernel_rfl) ?_
                      refine lin_done 2 (by kernel_rfl) ?_
                      generalize hact : Act.put _ (some 7) _ = act
                      simp only [Act.put, List.setIfInBounds_toArray, List.set_cons_succ, List.set_cons_zero] at hact
                      subst hact
                      go_upto_region 38 with (fail)
                      refine lin_begin (opsOf Tryz.f4 38) (by kernel_rfl) ?_
                      refine lin_now 0 (.pointer (some ⟨vb', 0, none⟩)) (some 140) (by kernel_rfl) (by kernel_rfl) (by kernel_rfl) ?_
                      refine lin_call 1 18 #[.pointer (some ⟨vb', 0, none⟩)] (some 141) _ (by kernel_rfl) (by kernel_rfl) (by kernel_rfl) (vs_len V12.out) ?_
                      rintro e w13 ⟨rfl, rfl⟩
                      refine ⟨_, rfl, ?_⟩
                      refine lin_now 2 (.int .i64 (et.length : Int)) (some 8) (by kernel_rfl) (by kernel_rfl) (by kernel_rfl) ?_
                      refine lin_done 3 (by kernel_rfl) ?_
                      generalize hact : Act.put _ (some 8) _ = act
                      simp only [Act.put, List.setIfInBounds_toArray, List.set_cons_succ, List.set_cons_zero] at hact
                      subst hact
                      have HLS : Hid (∃ es0 s0 left0 T0, VS B W1 d sz vb' (i + 1 + 1) (4096 * (i + 1)) es0 et.length s0 left0 T0 w12) := ⟨_, _, _, _, V12.out.more (by omega) (by omega) (by omega)⟩
                      clear V12
                      obtain ⟨es8, s8, left8, T8, hv8⟩ := HLS.out
                      have L8 := Lib.hid hv8
                      have SR := hv8.sr
                      clear hv8
                      go_upto_region 39 with (fail)
                      refine lin_begin (opsOf Tryz.f4 39) (by kernel_rfl) ?_
                      refine lin_now 0 (.int .i64 ((et.length : Nat) : Int)) (some 142) (by kernel_rfl) (by kernel_rfl) (by kernel_rfl) ?_
                      refine lin_now 1 (.bool (decide (((et.length : Nat) : Int) < 0))) (some 143) (by kernel_rfl) (by kernel_rfl) (by kernel_rfl) ?_
                      rw [decide_eq_false (show ¬ (((et.length : Nat) : Int) < 0) by omega)]
                      refine lin_now 2 (.bool false) (some 144) (by kernel_rfl) (by kernel_rfl) (by kernel_rfl) ?_
                      refine lin_now 3 (.int .i64 ((et.length : Nat) : Int)) (some 145) (by kernel_rfl) (by kernel_rfl) (by kernel_rfl) ?_
                      refine lin_now 4 (.pointer (some ⟨vb', 0, none⟩)) (some 146) (by kernel_rfl) (by kernel_rfl) (by kernel_rfl) ?_
                      refine lin_call 5 18 #[.pointer (some ⟨vb', 0, none⟩)] (some 147) _ (by kernel_rfl) (by kernel_rfl) (by kernel_rfl) (vs_len L8.out) ?_
                      rintro e w9 ⟨rfl, rfl⟩
                      refine ⟨_, rfl, ?_⟩
                      refine lin_now 6 (.bool (decide ((es8.length : Int) < ((et.length : Nat) : Int)))) (some 148) (by kernel_rfl) (by kernel_rfl) (by kernel_rfl) ?_
                      rw [decide_eq_false (show ¬ ((es8.length : Int) < ((et.length : Nat) : Int)) by omega)]
                      refine lin_now 7 (.bool false) (some 149) (by kernel_rfl) (by kernel_rfl) (by kernel_rfl) ?_
                      refine lin_done 8 (by kernel_rfl) ?_
                      clear L8
                      generalize hact : Act.put _ (some 149) _ = act
                      simp only [Act.put, List.setIfInBounds_toArray, List.set_cons_succ, List.set_cons_zero] at hact
                      subst hact
                      go_wp2
                      go_roundw
                      case rel => exact ⟨i + 1, vb', et.length, by omega, by go_num, rfl, rfl, HLS⟩
                      case measure => simp [intOf]; omega
                    · have e4 : (z == 4) = false := by simpa using hz4
                      clear hz4
                      have HLS : Hid (∃ es0 s0 left0 T0, VS B W1 d sz vb (i + 1 + 1) (4096 * (i + 1)) es0 sure s0 left0 T0 w7) := ⟨_, _, _, _, L7.out.more (by omega) (by omega) (by omega)⟩
                      clear L7 C7 CO
                      obtain ⟨es8, s8, left8, T8, hv8⟩ := HLS.out
                      have L8 := Lib.hid hv8
                      have SR := hv8.sr
                      clear hv8
                      go_upto_region 39 with (fail)
                      refine lin_begin (opsOf Tryz.f4 39) (by kernel_rfl) ?_
                      refine lin_now 0 (.int .i64 ((sure : Nat) : Int)) (some 142) (by kernel_rfl) (by kernel_rfl) (by kernel_rfl) ?_
                      refine lin_now 1 (.bool (decide (((sure : Nat) : Int) < 0))) (some 143) (by kernel_rfl) (by kernel_rfl) (by kernel_rfl) ?_
                      rw [decide_eq_false (show ¬ (((sure : Nat) : Int) < 0) by omega)]
                      refine lin_now 2 (.bool false) (some 144) (by kernel_rfl) (by kernel_rfl) (by kernel_rfl) ?_
                      refine lin_now 3 (.int .i64 ((sure : Nat) : Int)) (some 145) (by kernel_rfl) (by kernel_rfl) (by kernel_rfl) ?_
                      refine lin_now 4 (.pointer (some ⟨vb, 0, none⟩)) (some 146) (by kernel_rfl) (by kernel_rfl) (by kernel_rfl) ?_
                      refine lin_call 5 18 #[.pointer (some ⟨vb, 0, none⟩)] (some 147) _ (by kernel_rfl) (by kernel_rfl) (by kernel_rfl) (vs_len L8.out) ?_
                      rintro e w9 ⟨rfl, rfl⟩
                      refine ⟨_, rfl, ?_⟩
                      refine lin_now 6 (.bool (decide ((es8.length : Int) < ((sure : Nat) : Int)))) (some 148) (by kernel_rfl) (by kernel_rfl) (by kernel_rfl) ?_
                      rw [decide_eq_false (show ¬ ((es8.length : Int) < ((sure : Nat) : Int)) by omega)]
                      refine lin_now 7 (.bool false) (some 149) (by kernel_rfl) (by kernel_rfl) (by kernel_rfl) ?_
                      refine lin_done 8 (by kernel_rfl) ?_
                      clear L8
                      generalize hact : Act.put _ (some 149) _ = act
                      simp only [Act.put, List.setIfInBounds_toArray, List.set_cons_succ, List.set_cons_zero] at hact
                      subst hact
                      go_wp2
                      go_roundw
                      case rel => exact ⟨i + 1, vb, sure, by omega, by go_num, rfl, rfl, HLS⟩
                      case measure => simp [intOf]; omega
          · have r1 : ¬ (i : Int) < (n : Int) := by omega
            obtain ⟨es, s, left, T, hvs⟩ := hls.out
            have BZ : Hid (Below B0 w wr) := BE1.out.trans (hvs.be.2.1.mono BB.out)
            clear hvs
            go_wp2
            go_ret
            exact ⟨rfl, BZ.out⟩
end Go.Proofs.YtpafgoaeokgfcaaGreatDoor
