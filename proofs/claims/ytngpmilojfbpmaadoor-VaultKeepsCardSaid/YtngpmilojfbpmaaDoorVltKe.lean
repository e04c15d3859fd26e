/- VaultKeeps answers true. -/
import Derived.Test.YtngpmilojfbpmaaDoorVltX
import Derived.Test.YtngpmilojfbpmaaDoorVltKp
namespace Go.Proofs.YtngpmilojfbpmaaDoor
open Go Go.RowKit
set_option maxRecDepth 100000

/-- A slice of bools: what it reads as. -/
def BoolsIn (w : World) (v : Value) (bs : List Bool) : Prop :=
  ∃ a cap, v = .slice a bs.length cap ∧ (0 < bs.length → ∃ pb po, a = some ⟨pb, po, none⟩ ∧ pb < w.heap.size ∧ ∀ (i : Nat) (b : Bool), bs[i]? = some b → w.cell? ⟨pb, po + i, none⟩ = some (.bool b))
theorem BoolsIn.below {B : Nat} {w w' : World} {v : Value} {bs : List Bool} (h : BoolsIn w v bs) (hb : Below B w w') (hB : w.heap.size ≤ B) : BoolsIn w' v bs := by
  obtain ⟨a, cap, h1, h3⟩ := h
  refine ⟨a, cap, h1, fun hp => ?_⟩
  obtain ⟨pb, po, h4, h5, h6⟩ := h3 hp
  exact ⟨pb, po, h4, Nat.lt_of_lt_of_le h5 hb.size, fun i b hi => by rw [hb.cell (p := ⟨pb, po + i, none⟩) (Nat.lt_of_lt_of_le h5 hB)]; exact h6 i b hi⟩
theorem OwnW.step3 {T : List Nat} {u w w' : World} {B : Nat} {ov : Value} {es : List Ent} (h : OwnW T u w B ov es) {F F' : List Nat} (hs : Step F w F' w') (hF : ∀ g, ov.ownBlock = some g → g ∉ F) : OwnW T u w' B ov es := by
  obtain ⟨vs, h1, h2⟩ := h
  exact ⟨vs, own_step h1 hs hF, h2⟩
theorem OwnW.in3 {u w : World} {B : Nat} {ov : Value} {es : List Ent} (h : OwnW [] u w B ov es) (hb : Below u.heap.size u w) : EntsOff [] w ov es := h.off hb (fun k hk => by simp at hk)
theorem OwnW.below3 {T : List Nat} {u w w' : World} {B : Nat} {ov : Value} {es : List Ent} (h : OwnW T u w B ov es) (hb : Below w.heap.size w w') : OwnW T u w' B ov es := h.step3 (F := []) (F' := []) (Step.of_below hb (Nat.le_refl _)) (fun g _ => by simp)
def keyW (z : Int) (j : Nat) : List Int := z :: (j : Int) :: List.replicate 30 0
theorem keyW_good {z : Int} {j : Nat} (hz : 0 ≤ z ∧ z ≤ 255) (hj : j ≤ 255) : goodK (keyW z j) := ⟨rfl, fun x hx => by
  simp only [keyW, List.mem_cons, List.mem_replicate] at hx
  rcases hx with rfl | rfl | ⟨-, rfl⟩
  · exact hz
  · omega
  · omega⟩
theorem keyW_inj {z z' : Int} {j j' : Nat} (h : keyW z j = keyW z' j') : j = j' := by
  have h1 := (List.cons.inj (List.cons.inj h).2).1
  omega
def keE (zs : List Int) : List Ent := (List.range zs.length).map fun j => (keyW (zs.getD j 0) j, zs.take j)
theorem keE_len (zs : List Int) : (keE zs).length = zs.length := by simp [keE]
theorem keE_at (zs : List Int) {i : Nat} (h : i < zs.length) : (keE zs)[i]? = some (keyW (zs.getD i 0) i, zs.take i) := by
  unfold keE
  rw [List.getElem?_map, List.getElem?_range h]
  rfl
theorem keE_snoc (zs : List Int) {i : Nat} (h : i < zs.length) : (keE zs).take (i + 1) = (keE zs).take i ++ [(keyW (zs.getD i 0) i, zs.take i)] := by
  rw [List.take_add_one, keE_at zs h]
  rfl
theorem keE_new (zs : List Int) {i : Nat} (h : i < zs.length) (z : Int) : keyW z i ∉ ((keE zs).take i).map (·.1) := fun hc => by
  obtain ⟨e, he, ek⟩ := List.mem_map.1 hc
  obtain ⟨j, hj, hje⟩ := List.getElem_of_mem he
  have hj2 : j < i := by rw [List.length_take] at hj; omega
  have h3 : (keE zs)[j]? = some e := by
    rw [← hje, List.getElem_take, List.getElem?_eq_getElem]
  rw [keE_at zs (by omega)] at h3
  obtain rfl := Option.some.inj h3
  have := keyW_inj ek
  omega
theorem keE_nodup (zs : List Int) : ((keE zs).map (·.1)).Nodup := by
  unfold keE
  rw [List.map_map]
  exact List.pairwise_map.2 (List.nodup_range.imp fun {a b} h e => h (keyW_inj e))
theorem need_small {j : Nat} (h : j ≤ 11) : needN (32 + j) = 2 := by unfold needN; omega
theorem cnt_small (zs : List Int) (h : zs.length ≤ 12) : ∀ i, i ≤ zs.length → cntE ((keE zs).take i) = 2 * i
  | 0, _ => rfl
  | i + 1, hi => by
    rw [keE_snoc zs (by omega), cntE_snoc _ _ _ rfl, cnt_small zs h i (by omega), List.length_take, Nat.min_eq_left (by omega), need_small (by omega)]
    omega
theorem keepE_congr {es : List Ent} {ks ks' : List (List Int)} (h : ∀ k, k ∈ ks ↔ k ∈ ks') : keepE es ks = keepE es ks' := by
  unfold keepE
  exact List.filter_congr fun e _ => by simp only [h]
theorem run_at_u8 (B off n cap m : Nat) (hm : m < n) (w : World) : (Instr.indexAt 22 (.slice (some ⟨B, off, none⟩) n cap) (.int .i64 (m : Int))).run Tryd.prog w = .ok (.pointer (some ⟨B, off + m, none⟩)) w := by
  have he : Tryd.prog.underlying 22 = some (.slice (Tryd.prog.elem 22)) := by kernel_rfl
  rw [run_indexAt_slice w 22 _ _ _ _ _ he]
  have hz : (sizeOf (Tryd.prog.elem 22)).run Tryd.prog w = .ok 1 w := by kernel_rfl
  rw [if_pos (by omega), hz, Result.andThen_ok, Addr.add_mid, Int.toNat_natCast, Nat.mul_one]
theorem run_at_bool (B off n cap m : Nat) (hm : m < n) (w : World) : (Instr.indexAt 23 (.slice (some ⟨B, off, none⟩) n cap) (.int .i64 (m : Int))).run Tryd.prog w = .ok (.pointer (some ⟨B, off + m, none⟩)) w := by
  have he : Tryd.prog.underlying 23 = some (.slice (Tryd.prog.elem 23)) := by kernel_rfl
  rw [run_indexAt_slice w 23 _ _ _ _ _ he]
  have hz : (sizeOf (Tryd.prog.elem 23)).run Tryd.prog w = .ok 1 w := by kernel_rfl
  rw [if_pos (by omega), hz, Result.andThen_ok, Addr.add_mid, Int.toNat_natCast, Nat.mul_one]
theorem run_slice_u8 (a : Addr) (n cap i : Nat) (h : i ≤ cap) (hc : 0 < cap) (w : World) : (Instr.sliceAt 22 (.slice (some a) n cap) none (some (.int .i64 (i : Int))) none).run Tryd.prog w = .ok (.slice (some a) i cap) w := by
  have he : Tryd.prog.underlying 22 = some (.slice (Tryd.prog.elem 22)) := by kernel_rfl
  have hz : (sizeOf (Tryd.prog.elem 22)).run Tryd.prog w = .ok 1 w := by kernel_rfl
  rw [run_sliceAt_slice w 22 _ _ _ _ he, run_slice_h w 22 _ _ _ he .i64 (i : Int) (by omega) (by omega), hz, Result.andThen_ok]
  unfold sliced
  rw [if_neg (by omega)]
  have : (some a).map (fun x : Addr => x.add (0 * 1)) = some a := by
    cases a
    simp [Addr.add]
  rw [this]
  rfl
theorem run_build_kw (z j : Int) (w : World) : (Instr.build 35 #[(0, .int .u8 z), (1, .int .u8 j)]).run Tryd.prog w = .ok (.agg (ints .u8 (z :: j :: List.replicate 30 0)).toArray) w := by kernel_rfl
theorem new80 (w : World) : Calls Tryd.prog 9 #[.int .i64 80] w fun e w' => ∃ d F, e = .returned (.tuple #[.pointer (some ⟨d, 0, none⟩), .int .i64 0]) ∧ Dk w' F d 80 (zeros (64 * 80)) (zeros (64 * 80)) [] (-1) ∧ Step [] w F w' := new_yes 80 (by omega) (by omega) w
/-- Where the loop of VaultKeeps stands. -/
def KeAt (B : Nat) (W1 : World) (d vb i m lg lcap : Nat) (sv : Value) (ES : List Ent) (pk : Nat → Bool) (wr : World) : Prop :=
  ∃ T, (selK pk ES i).length = m ∧ VSE (sv.ownBlock.toList ++ [lg]) B W1 d 80 vb 1 (4096 * i) (ES.take i) 0 true (-1) T wr ∧ OwnW [] W1 wr B (.slice (some ⟨lg, 0, none⟩) m lcap) (selK pk ES i) ∧ OwnD wr B sv ((selK pk ES i).map (·.1)).reverse
theorem OwnD.base {w : World} {b b' : Nat} {v : Value} {ks : List (List Int)} (h : OwnD w b v ks) (hb : b' ≤ b) : OwnD w b' v ks := by
  obtain ⟨h1, h2⟩ := h
  refine ⟨h1, ?_⟩
  rcases h2 with h2 | ⟨g, cap, cur, e, hg, r⟩
  · exact .inl h2
  · exact .inr ⟨g, cap, cur, e, Nat.le_trans hb hg, r⟩
theorem OwnD.step3 {w w' : World} {b : Nat} {v : Value} {ks : List (List Int)} (h : OwnD w b v ks) {F F' : List Nat} (hs : Step F w F' w') (hF : ∀ g, v.ownBlock = some g → g ∉ F) : OwnD w' b v ks := own_step h hs hF
theorem OwnD.slice3 {w : World} {b : Nat} {v : Value} {ks : List (List Int)} (h : OwnD w b v ks) : ∃ a c, v = .slice a ks.length c := by
  rcases h.2 with ⟨h1, h2⟩ | ⟨g, cap, cur, h1, _⟩
  · exact ⟨none, 0, by rw [h1, h2]⟩
  · exact ⟨_, _, h1⟩
theorem selK_len (p : Nat → Bool) (es : List Ent) : ∀ k, (selK p es k).length ≤ k
  | 0 => Nat.le_refl _
  | k + 1 => by
    have := selK_len p es k
    rw [selK, List.length_append]
    split
    · cases es[k]? <;> simp <;> omega
    · simp; omega
set_option maxHeartbeats 8000000 in
theorem vkeeps_main (v v2 : Value) (zs : List Int) (bs : List Bool) (w : World) (hv : BytesIn w v zs) (hz : isBytes zs) (hw : BoolsIn w v2 bs) (hK : KW w) : Calls Tryd.prog 3 #[v, v2] w fun e w' => e = .returned (.bool true) ∧ Below w.heap.size w w' := by
  obtain ⟨la, lc, rfl, hlc, -⟩ := id hv
  have HV0 := Lib.hid hv
  have HZ := Lib.hid hz
  obtain ⟨wa, wc, rfl, -⟩ := id hw
  have HW0 := Lib.hid hw
  have HK := Lib.hid hK
  obtain ⟨n, hn⟩ : ∃ n, Hid (zs.length = n) := ⟨_, rfl⟩
  rw [hn.out] at HV0 hlc ⊢
  obtain ⟨m0, hm0⟩ : ∃ n, Hid (bs.length = n) := ⟨_, rfl⟩
  rw [hm0.out] at HW0 ⊢
  obtain ⟨B0, hB0⟩ : ∃ B, Hid (w.heap.size = B) := ⟨_, rfl⟩
  have KB0 : Hid (4 < B0) := by unfold Hid; rw [← hB0.out]; exact hK.lt
  rw [hB0.out]
  clear hv hz hw hK
  go_enter Tryd.func3, Tryd.ntmps3
  go_wp2_with fail
  refine (v6alive_walk _ HK.out).mono ?_
  rintro e W1 ⟨rfl, hb1⟩
  have BE1 : Hid (Below B0 w W1) := by unfold Hid; rw [← hB0.out]; exact hb1
  have HV : Hid (BytesIn W1 (.slice la n lc) zs) := HV0.out.below hb1 (Nat.le_refl _)
  have HW : Hid (BoolsIn W1 (.slice wa m0 wc) bs) := HW0.out.below hb1 (Nat.le_refl _)
  have HK1 : Hid (KW W1) := HK.out.below hb1 HK.out.lt
  clear hb1 HV0 HW0
  by_cases h12 : 12 < n
  · have r0 : (12 : Int) < (n : Int) := by omega
    go_wp2
    go_ret
    exact ⟨rfl, BE1.out⟩
  · have r0 : ¬ (12 : Int) < (n : Int) := by omega
    by_cases hmn : m0 < n
    · have r1 : (m0 : Int) < (n : Int) := by omega
      go_wp2
      go_ret
      exact ⟨rfl, BE1.out⟩
    · have r1 : ¬ (m0 : Int) < (n : Int) := by omega
      by_cases h100 : 100 < m0
      · have r2 : (100 : Int) < (m0 : Int) := by omega
        go_wp2
        go_ret
        exact ⟨rfl, BE1.out⟩
      · have r2 : ¬ (100 : Int) < (m0 : Int) := by omega
        obtain ⟨B, hB⟩ : ∃ B, Hid (W1.heap.size = B) := ⟨_, rfl⟩
        have KB : Hid (4 < B) := by unfold Hid; rw [← hB.out]; exact HK1.out.lt
        have BB : Hid (B0 ≤ B) := by unfold Hid; have := BE1.out.size; have := hB0.out; have := hB.out; omega
        go_wp2_with fail
        refine (new80 _).mono ?_
        rintro e w3 ⟨d, F, rfl, hd3, hs3⟩
        have FG : Hid (∀ k ∈ F, B ≤ k) := fun k hk => by rcases hs3.fresh k hk with h | h; simp at h; rw [← hB.out]; exact h
        have B3 : Hid (Below B W1 w3) := by unfold Hid; rw [← hB.out]; exact hs3.below
        have DS3 : Hid (Ds B W1 d 80 0 [] F w3) := ds_new hd3 (by omega) (by omega) FG.out B3.out (Nat.le_of_eq hB.out.symm)
        clear hd3 hs3 FG B3
        go_wp2_with fail
        refine (vs_open 0 DS3.out HK1.out KB.out (by omega)).mono ?_
        rintro e w4 ⟨vb, T0, rfl, hs4, hv4⟩
        have V4 : Hid (VS B W1 d 80 vb 1 (4096 * 0) [] 0 true (-1) T0 w4) := hv4
        clear hv4 hs4 DS3
        obtain ⟨q0, hq0⟩ : ∃ q, Hid (w4.heap.size = q) := ⟨_, rfl⟩
        have hmk := run_build_noent w4
        have be5 : Below w4.heap.size w4 (w4.alloc (.cells #[] 38)) := (Below.refl _ _).alloc (Nat.le_refl _) _
        have V5 : VSE [w4.heap.size] B W1 d 80 vb 1 (4096 * 0) [] 0 true (-1) T0 (w4.alloc (.cells #[] 38)) := V4.out.vse.grow be5 (E2 := [w4.heap.size]) (fun x hx => by obtain rfl : x = w4.heap.size := (by simpa using hx); exact ⟨Nat.le_refl _, by simp⟩)
        have O5 : OwnW [] W1 (w4.alloc (.cells #[] 38)) B (.slice (some ⟨w4.heap.size, 0, none⟩) 0 0) [] := ⟨[], ⟨rfl, .inr ⟨w4.heap.size, 0, #[], rfl, (by have h := V4.out.be; exact Nat.le_trans h.2.2 h.2.1.size), heap_alloc_last w4 _, Nat.le_refl _, by unfold maxLen; omega, rfl, rfl⟩⟩, rfl, fun e he => by simp at he, fun i v e hv => by simp at hv⟩
        rw [hq0.out] at hmk V5 O5
        generalize w4.alloc (.cells #[] 38) = w5 at hmk V5 O5
        have H5 := Lib.hid V5
        have P5 := Lib.hid O5
        clear V5 O5 be5 V4 hq0
        go_upto_region 11 with (fail)
        refine lin_begin (opsOf Tryd.f3 11) (by kernel_rfl) ?_
        refine lin_value 0 (.slice (some ⟨q0, 0, none⟩) 0 0) (some 54) w5 (by kernel_rfl) (by kernel_rfl) (exec_of (Instr.buildSlice 32 0 #[]) _ (by kernel_rfl) hmk) ?_
        refine lin_now 1 (.slice (some ⟨q0, 0, none⟩) 0 0) (some 9) (by kernel_rfl) (by kernel_rfl) (by kernel_rfl) ?_
        refine lin_done 2 (by kernel_rfl) ?_
        clear hmk
        generalize hact : Act.put _ (some 9) _ = act
        simp only [Act.put, List.setIfInBounds_toArray, List.set_cons_succ, List.set_cons_zero] at hact
        subst hact
        have hmk := run_build_nodig w5
        have be6 : Below w5.heap.size w5 (w5.alloc (.cells #[] 35)) := (Below.refl _ _).alloc (Nat.le_refl _) _
        have V6 : VSE ([w5.heap.size] ++ [q0]) B W1 d 80 vb 1 (4096 * 0) [] 0 true (-1) T0 (w5.alloc (.cells #[] 35)) := H5.out.grow be6 (E2 := [w5.heap.size]) (fun x hx => by obtain rfl : x = w5.heap.size := (by simpa using hx); exact ⟨Nat.le_refl _, by simp⟩)
        have O6 : OwnW [] W1 (w5.alloc (.cells #[] 35)) B (.slice (some ⟨q0, 0, none⟩) 0 0) [] := P5.out.below3 be6
        have D6 : OwnD (w5.alloc (.cells #[] 35)) B (.slice (some ⟨w5.heap.size, 0, none⟩) 0 0) [] := ⟨rfl, .inr ⟨w5.heap.size, 0, #[], rfl, (by have h := H5.out.vs.be; exact Nat.le_trans h.2.2 h.2.1.size), heap_alloc_last w5 _, Nat.le_refl _, by unfold maxLen; omega, rfl, rfl⟩⟩
        generalize w5.alloc (.cells #[] 35) = w6 at hmk V6 O6 D6
        generalize w5.heap.size = s0 at hmk V6 O6 D6
        obtain ⟨ES, hES⟩ : ∃ x, Hid (keE zs = x) := ⟨_, rfl⟩
        obtain ⟨pk, hpk⟩ : ∃ f : Nat → Bool, Hid ((fun j => bs.getD j false) = f) := ⟨_, rfl⟩
        have A6 : Hid (KeAt B W1 d vb 0 0 q0 0 (.slice (some ⟨s0, 0, none⟩) 0 0) ES pk w6) := ⟨T0, rfl, V6, O6, D6⟩
        clear V6 O6 D6 be6 H5 P5
        go_upto_region 12 with (fail)
        refine lin_begin (opsOf Tryd.f3 12) (by kernel_rfl) ?_
        refine lin_value 0 (.slice (some ⟨s0, 0, none⟩) 0 0) (some 55) w6 (by kernel_rfl) (by kernel_rfl) (exec_of (Instr.buildSlice 33 0 #[]) _ (by kernel_rfl) hmk) ?_
        refine lin_now 1 (.slice (some ⟨s0, 0, none⟩) 0 0) (some 10) (by kernel_rfl) (by kernel_rfl) (by kernel_rfl) ?_
        refine lin_done 2 (by kernel_rfl) ?_
        clear hmk
        generalize hact : Act.put _ (some 10) _ = act
        simp only [Act.put, List.setIfInBounds_toArray, List.set_cons_succ, List.set_cons_zero] at hact
        subst hact
        go_wp2
        go_loopw [9, 10, 11] (fun lv sv iv wr => ∃ (i m lg lcap : Nat) (sa : Option Addr) (sn sc : Nat), i ≤ n ∧ iv = .int .i64 (i : Int) ∧ lv = .slice (some ⟨lg, 0, none⟩) m lcap ∧ sv = .slice sa sn sc ∧ Hid (KeAt B W1 d vb i m lg lcap (.slice sa sn sc) ES pk wr)) (fun _ _ iv _ => n - (intOf iv).toNat)
        case atStart => exact ⟨0, 0, q0, 0, _, 0, 0, Nat.zero_le _, rfl, rfl, rfl, A6⟩
        case round =>
          obtain ⟨i, m, lg, lcap, sa, sn, sc, hi, rfl, rfl, rfl, hka⟩ := hrel
          clear A6
          by_cases hlt : i < n
          · have r3 : (i : Int) < (n : Int) := by omega
            obtain ⟨T, hsel, hvs, how, hod⟩ := hka.out
            have SEL := Lib.hid hsel
            have VX := Lib.hid hvs
            have OX := Lib.hid how
            have DX := Lib.hid hod
            clear hsel hvs how hod hka
            obtain ⟨a', c', hce, hcc, hcq⟩ := id HV.out
            rw [hn.out] at hce hcc hcq
            obtain ⟨ec1, -, ec3⟩ := Value.slice.inj hce
            subst ec3
            obtain ⟨pb, po, eca, hpb, hrg⟩ := hcq (by omega)
            rw [eca] at ec1
            subst ec1
            subst eca
            obtain ⟨z, hz⟩ : ∃ z, Hid (zs.getD i 0 = z) := ⟨_, rfl⟩
            have ZB : Hid (0 ≤ z ∧ z ≤ 255) := by rw [Hid, ← hz.out, List.getD_eq_getElem?_getD, List.getElem?_eq_getElem (by rw [hn.out]; exact hlt)]; exact HZ.out _ (List.getElem_mem _)
            have CL : Hid (∀ W, Below B W1 W → W.cell? ⟨pb, po + i, none⟩ = some (.int .u8 z)) := fun W hW => by rw [hW.cell (p := ⟨pb, po + i, none⟩) (by rw [← hB.out]; exact hpb)]; exact hrg i _ (by rw [ints_getD (by rw [hn.out]; exact hlt), hz.out])
            have PA : Hid (BytesIn W1 (.slice (some ⟨pb, po, none⟩) i lc) (zs.take i)) := by
              have hl : (zs.take i).length = i := by rw [List.length_take, hn.out]; omega
              refine ⟨_, lc, by rw [hl], by rw [hl]; omega, fun hp => ⟨pb, po, rfl, hpb, fun j u hu => hrg j u ?_⟩⟩
              have hj := (List.getElem?_eq_some_iff.1 hu).1
              rw [ints_length, hl] at hj
              rw [← hu]
              simp only [ints, List.getElem?_map, List.getElem?_take, if_pos hj]
            have PAL : Hid ((zs.take i).length = i) := by rw [Hid, List.length_take, hn.out]; omega
            have PAB : Hid (isBytes (zs.take i)) := fun x hx => HZ.out x (List.mem_of_mem_take hx)
            obtain ⟨wa', wc', hwe, hwq⟩ := id HW.out
            rw [hm0.out] at hwe hwq
            obtain ⟨we1, -, -⟩ := Value.slice.inj hwe
            obtain ⟨qb, qo, ewa, hqb, hwc⟩ := hwq (by omega)
            rw [ewa] at we1
            subst we1
            obtain ⟨b, hb⟩ : ∃ b, Hid (pk i = b) := ⟨_, rfl⟩
            have CW : Hid (∀ W, Below B W1 W → W.cell? ⟨qb, qo + i, none⟩ = some (.bool b)) := fun W hW => by
              rw [hW.cell (p := ⟨qb, qo + i, none⟩) (by rw [← hB.out]; exact hqb), ← hb.out, ← hpk.out]
              refine hwc i _ ?_
              simp [List.getD_eq_getElem?_getD, show i < bs.length by rw [hm0.out]; omega]
            obtain ⟨k, hk⟩ : ∃ k, Hid (keyW z i = k) := ⟨_, rfl⟩
            have GK : Hid (goodK k) := by rw [Hid, ← hk.out]; exact keyW_good ZB.out (by omega)
            have KS : Hid ((Tryd.prog.info? 35).map (·.size) = some (ints .u8 k).length) := blk_goodK GK.out.1
            have ESN : Hid (ES.take (i + 1) = ES.take i ++ [(k, zs.take i)]) := by rw [Hid, ← hES.out, keE_snoc zs (by rw [hn.out]; exact hlt), hz.out, hk.out]
            have ESA : Hid (ES[i]? = some (k, zs.take i)) := by rw [Hid, ← hES.out, keE_at zs (by rw [hn.out]; exact hlt), hz.out, hk.out]
            have NEW : Hid (valOf (ES.take i) k = none) := by rw [Hid, ← hES.out, ← hk.out]; exact valOf_none (keE_new zs (by rw [hn.out]; exact hlt) z)
            have CNT : Hid (cntE (ES.take i) = 2 * i) := by rw [Hid, ← hES.out]; exact cnt_small zs (by rw [hn.out]; omega) i (by rw [hn.out]; omega)
            clear hce hcc hcq hpb hrg hwe hwq ewa hqb hwc
            obtain ⟨q, hq⟩ : ∃ q, Hid (wr.heap.size = q) := ⟨_, rfl⟩
            go_upto_region 16 with (fail)
            refine lin_begin (opsOf Tryd.f3 16) (by kernel_rfl) ?_
            refine lin_now 0 (.slice (some ⟨pb, po, none⟩) n lc) (some 62) (by kernel_rfl) (by kernel_rfl) (by kernel_rfl) ?_
            refine lin_now 1 (.int .i64 (i : Int)) (some 63) (by kernel_rfl) (by kernel_rfl) (by kernel_rfl) ?_
            refine lin_now 2 (.pointer (some ⟨pb, po + i, none⟩)) (some 64) (by kernel_rfl) (by kernel_rfl) (exec_indexAt 22 (.tmp 62) (.tmp 63) (by kernel_rfl) _ _ _ (by kernel_rfl) (by kernel_rfl) (run_at_u8 pb po n lc i hlt _)) ?_
            refine lin_now 3 (.int .u8 z) (some 65) (by kernel_rfl) (by kernel_rfl) (exec_load_cell 5 (.tmp 64) (by kernel_rfl) pb (po + i) (by kernel_rfl) _ (CL.out _ VX.out.vs.be.2.1) _ Tryd.underlying5 rfl) ?_
            refine lin_now 4 (.int .i64 (i : Int)) (some 66) (by kernel_rfl) (by kernel_rfl) (by kernel_rfl) ?_
            refine lin_now 5 (.int .u8 (IntKind.u8.wrap (i : Int))) (some 67) (by kernel_rfl) (by kernel_rfl) (by kernel_rfl) ?_
            rw [show IntKind.u8.wrap (i : Int) = (i : Int) by rw [IntKind.wrap_u8]; omega]
            refine lin_now 6 (.agg (ints .u8 (z :: (i : Int) :: List.replicate 30 0)).toArray) (some 68) (by kernel_rfl) (by kernel_rfl) (exec_of (Instr.build 35 #[(0, .int .u8 z), (1, .int .u8 (i : Int))]) _ (by kernel_rfl) (run_build_kw z (i : Int) _)) ?_
            rw [show (z :: (i : Int) :: List.replicate 30 0) = k from hk.out]
            refine lin_alloc 7 35 (ints .u8 z32) (q) (some 12) (by kernel_rfl) (by kernel_rfl) (by kernel_rfl) zeroDig hq ?_
            intro w6 b6 be6 hs6
            refine lin_put 8 35 (.tmp 12) (.tmp 68) q _ (ints .u8 z32) (ints .u8 k) (by kernel_rfl) (by kernel_rfl) (by kernel_rfl) (by kernel_rfl) (by kernel_rfl) b6 (by rw [ints_length, ints_length, GK.out.1]; rfl) KS.out (ints_oneCell _ _) ?_
            intro w7 b7 u7
            refine lin_done 9 (by kernel_rfl) ?_
            have BB7 : Below wr.heap.size wr w7 := u7.below (by rw [hq.out]; exact be6) (by rw [hq.out]; exact Nat.le_refl _) be6.size
            have V7 := Lib.hid (VX.out.below BB7)
            have O7 := Lib.hid (OX.out.below3 BB7)
            have D7 := Lib.hid (DX.out.below BB7)
            have K7 := Lib.hid b7
            have QT : Hid (q ∉ T) := fun hc => by have := VX.out.vs.lt q hc; have := hq.out; omega
            have QE : Hid (∀ x ∈ (Value.slice sa sn sc).ownBlock.toList ++ [lg], x ≠ q) := fun x hx e => by have := (VX.out.el x hx).1; have := hq.out; omega
            clear b6 be6 hs6 b7 u7 BB7 VX OX DX hq
            generalize hact : Act.put _ none undef = act
            simp only [Act.put, List.setIfInBounds_toArray, List.set_cons_succ, List.set_cons_zero] at hact
            subst hact
            go_upto_region 17 with (fail)
            refine region_begin (opsOf Tryd.f3 17) (fun w => Blk w q 35 (ints .u8 k)) (by kernel_rfl) (by kernel_rfl) 7 (by kernel_rfl) ?_
            intro Q' hQN hN
            have hbd : Below w7.heap.size w7 w7.drew := (Below.refl _ _).drew
            have V8 := Lib.hid (V7.out.below hbd)
            have O8 := Lib.hid (O7.out.below3 hbd)
            have D8 := Lib.hid (D7.out.below hbd)
            have X := K7.out.below hbd K7.out.lt
            generalize w7.drew = w8 at V8 O8 D8 X ⊢
            clear hbd V7 O7 D7 K7
            have UX : BytesOff T w8 (.slice (some ⟨pb, po, none⟩) i lc) (zs.take i) := PA.out.off (by rw [hB.out]; exact V8.out.vs.be.2.1) (fun x hx => by rw [hB.out]; exact V8.out.vs.be.1 x hx)
            refine reg_now 0 (.pointer (some ⟨vb, 0, none⟩)) (some 69) hQN X (by kernel_rfl) (by kernel_rfl) (fun w => by kernel_rfl) ?_
            refine reg_nowIf 1 (.agg (ints .u8 k).toArray) (some 70) hQN X (by kernel_rfl) (by kernel_rfl) (fun w hw => exec_load_mid 35 (.tmp 12) (by kernel_rfl) q 0 (by kernel_rfl) (ints .u8 k) _ hw.whole digUnder rfl KS.out) ?_
            refine reg_now 2 (.slice (some ⟨pb, po, none⟩) n lc) (some 71) hQN X (by kernel_rfl) (by kernel_rfl) (fun w => by kernel_rfl) ?_
            refine reg_now 3 (.int .i64 (i : Int)) (some 72) hQN X (by kernel_rfl) (by kernel_rfl) (fun w => by kernel_rfl) ?_
            refine reg_now 4 (.slice (some ⟨pb, po, none⟩) i lc) (some 73) hQN X (by kernel_rfl) (by kernel_rfl) (fun w => exec_of (Instr.sliceAt 22 (.slice (some ⟨pb, po, none⟩) n lc) none (some (.int .i64 (i : Int))) none) _ (by kernel_rfl) (run_slice_u8 ⟨pb, po, none⟩ n lc i (by omega) (by omega) w)) ?_
            refine reg_call 5 11 #[.pointer (some ⟨vb, 0, none⟩), .agg (ints .u8 k).toArray, .slice (some ⟨pb, po, none⟩) i lc] (some 74) _ (by kernel_rfl) (by kernel_rfl) (by kernel_rfl) (vse_put V8.out HK1.out KB.out (by omega) _ GK.out UX trivial PAB.out) ?_
            rintro e wp ⟨nn, T', rfl, hst, hcase⟩
            have key : nn = 0 ∧ VSE ((Value.slice sa sn sc).ownBlock.toList ++ [lg]) B W1 d 80 vb 1 (4096 * i + 4096) (ES.take (i + 1)) 0 true (-1) T' wp := by
              rw [ESN.out]
              rcases hcase with ⟨h1, _⟩ | ⟨_, ⟨o, h1, _⟩ | ⟨_, ⟨h1, _⟩ | ⟨_, h2, h3⟩⟩⟩
              · exact absurd h1 (by rw [PAL.out]; omega)
              · rw [NEW.out] at h1; cases h1
              · exact absurd h1 (by rw [PAL.out, CNT.out, need_small (by omega)]; omega)
              · exact ⟨h2, h3⟩
            obtain ⟨rfl, hvp⟩ := key
            have VD := Lib.hid hvp
            have OD : Hid (OwnW [] W1 wp B (.slice (some ⟨lg, 0, none⟩) m lcap) (selK pk ES i)) := O8.out.step3 hst (fun g hg => by obtain rfl : lg = g := (by simpa [Value.ownBlock] using hg); exact (V8.out.el lg (by simp)).2.2)
            have DD : Hid (OwnD wp B (.slice sa sn sc) ((selK pk ES i).map (·.1)).reverse) := D8.out.step3 hst (fun g hg => (V8.out.el g (by rw [hg]; simp)).2.2)
            have XP : Blk wp q 35 (ints .u8 k) := hst.blk X QT.out
            refine ⟨_, rfl, XP, ?_⟩
            refine reg_now 6 (.bool false) (some 75) hQN XP (by kernel_rfl) (by kernel_rfl) (fun w => by kernel_rfl) ?_
            refine reg_done (by kernel_rfl) (hN _ _ ?_)
            have KP := Lib.hid XP
            clear hst hcase hvp V8 O8 D8 X XP UX hQN hN QT
            generalize hact : Act.put _ (some 75) _ = act
            simp only [Act.put, List.setIfInBounds_toArray, List.set_cons_succ, List.set_cons_zero] at hact
            subst hact
            go_upto_region 19 with (fail)
            refine lin_begin (opsOf Tryd.f3 19) (by kernel_rfl) ?_
            refine lin_now 0 (.slice (some ⟨qb, qo, none⟩) m0 wc) (some 76) (by kernel_rfl) (by kernel_rfl) (by kernel_rfl) ?_
            refine lin_now 1 (.int .i64 (i : Int)) (some 77) (by kernel_rfl) (by kernel_rfl) (by kernel_rfl) ?_
            refine lin_now 2 (.pointer (some ⟨qb, qo + i, none⟩)) (some 78) (by kernel_rfl) (by kernel_rfl) (exec_indexAt 23 (.tmp 76) (.tmp 77) (by kernel_rfl) _ _ _ (by kernel_rfl) (by kernel_rfl) (run_at_bool qb qo m0 wc i (by omega) _)) ?_
            refine lin_now 3 (.bool b) (some 79) (by kernel_rfl) (by kernel_rfl) (exec_load_cell 4 (.tmp 78) (by kernel_rfl) qb (qo + i) (by kernel_rfl) _ (CW.out _ VD.out.vs.be.2.1) _ Tryd.underlying4 rfl) ?_
            refine lin_done 4 (by kernel_rfl) ?_
            generalize hact : Act.put _ (some 79) _ = act
            simp only [Act.put, List.setIfInBounds_toArray, List.set_cons_succ, List.set_cons_zero] at hact
            subst hact
            cases b with
            | false =>
              have SN : Hid (selK pk ES (i + 1) = selK pk ES i) := by rw [Hid, selK, hb.out]; simp
              have KN : Hid (KeAt B W1 d vb (i + 1) m lg lcap (.slice sa sn sc) ES pk wp) := ⟨T', by rw [SN.out]; exact SEL.out, VD.out, by rw [SN.out]; exact OD.out, by rw [SN.out]; exact DD.out⟩
              clear VD OD DD KP
              go_wp2
              go_roundw
              case rel => exact ⟨i + 1, m, lg, lcap, sa, sn, sc, by omega, by go_num, rfl, rfl, KN⟩
              case measure => simp [intOf]; omega
            | true =>
              have SN : Hid (selK pk ES (i + 1) = selK pk ES i ++ [(k, zs.take i)]) := by rw [Hid, selK, hb.out, if_pos rfl, ESA.out]; rfl
              obtain ⟨s9, hs9⟩ : ∃ s, Hid (wp.heap.size = s) := ⟨_, rfl⟩
              have BP : Hid (B ≤ wp.heap.size) := Nat.le_trans VD.out.vs.be.2.2 VD.out.vs.be.2.1.size
              have SN32 : Hid (∀ x ∈ ((selK pk ES i).map (·.1)).reverse, x.length = 32) := fun x hx => by
                obtain ⟨e, he, rfl⟩ := List.mem_map.1 (List.mem_reverse.1 hx)
                obtain ⟨_, _, _, h, _⟩ := OD.out
                exact h e he
              go_upto_region 20 with (fail)
              refine lin_begin (opsOf Tryd.f3 20) (by kernel_rfl) ?_
              refine lin_now 0 (.agg (ints .u8 k).toArray) (some 80) (by kernel_rfl) (by kernel_rfl) (exec_load_mid 35 (.tmp 12) (by kernel_rfl) q 0 (by kernel_rfl) (ints .u8 k) _ KP.out.whole digUnder rfl KS.out) ?_
              refine lin_newrow 1 35 (ints .u8 k) s9 1 (some 81) (by kernel_rfl) (by kernel_rfl) hs9 (exec_of (Instr.buildSlice 33 1 #[(0, .agg (ints .u8 k).toArray)]) _ (by kernel_rfl) (run_build_dig k GK.out.1 _)) ?_
              intro w9 b9 be9 hs9b
              have be9' : Below wp.heap.size wp w9 := by rw [hs9.out]; exact be9
              refine lin_now 2 (.slice sa sn sc) (some 82) (by kernel_rfl) (by kernel_rfl) (by kernel_rfl) ?_
              have ON : OwnD w9 s9 (.slice (some ⟨s9, 0, none⟩) 1 1) [k] := ⟨by rw [ints_length]; simp [GK.out.1], .inr ⟨s9, 1, (ints .u8 k).toArray, rfl, Nat.le_refl _, b9, Nat.le_refl _, by unfold maxLen; omega, by rw [List.size_toArray, ints_length, GK.out.1], by rw [List.take_of_length_le (by simp [ints_length, GK.out.1])]; simp⟩⟩
              have D9 := DD.out.below be9'
              have DL : ((selK pk ES i).map (·.1)).reverse.length = m := by rw [List.length_reverse, List.length_map, SEL.out]
              have mi : m ≤ i := by rw [← SEL.out]; exact selK_len pk ES i
              refine lin_appendd 3 (some 83) (by kernel_rfl) (by kernel_rfl) (by kernel_rfl) (.tmp 81) (.tmp 82) (by kernel_rfl) s9 (.slice (some ⟨s9, 0, none⟩) 1 1) [k] (by kernel_rfl) ON (.slice sa sn sc) ((selK pk ES i).map (·.1)).reverse (by kernel_rfl) D9.in SN32.out D9.nilok (by rw [DL]; simp; omega) (by rw [← hs9.out]; exact be9'.size) ?_
              intro v10 w10 o10 g10
              obtain ⟨sa1, sc1, ev1⟩ := o10.slice3
              obtain ⟨sn1, hsn1⟩ : ∃ x, Hid (([k] ++ ((selK pk ES i).map (·.1)).reverse).length = x) := ⟨_, rfl⟩
              rw [hsn1.out] at ev1
              subst ev1
              refine lin_now 4 (.slice sa1 sn1 sc1) (some 10) (by kernel_rfl) (by kernel_rfl) (by kernel_rfl) ?_
              refine lin_done 5 (by kernel_rfl) ?_
              have be10 : Below s9 w9 w10 := (Below.refl _ _).grown g10 (by rw [← hs9.out]; exact be9'.size) (fun x hx => by obtain rfl : s9 = x := (by simpa [Value.ownBlock] using hx); exact Nat.le_refl _)
              have bw : Below wp.heap.size wp w10 := be9'.trans (by rw [hs9.out]; exact be10)
              have V10 : Hid (VSE ((Value.slice sa1 sn1 sc1).ownBlock.toList ++ [lg]) B W1 d 80 vb 1 (4096 * i + 4096) (ES.take (i + 1)) 0 true (-1) T' w10) := by
                have h1 := VD.out.grow bw (E2 := (Value.slice sa1 sn1 sc1).ownBlock.toList) (fun x hx => by
                  have hx2 : (Value.slice sa1 sn1 sc1).ownBlock = some x := by simpa using hx
                  have := o10.lt x hx2
                  have := hs9.out
                  omega)
                refine h1.sub (fun x hx => ?_)
                rcases List.mem_append.1 hx with h | h
                · exact List.mem_append_left _ h
                · exact List.mem_append_right _ (List.mem_append_right _ h)
              have O10 := Lib.hid (OD.out.below3 bw)
              have D10 : Hid (OwnD w10 B (.slice sa1 sn1 sc1) ((selK pk ES (i + 1)).map (·.1)).reverse) := by
                rw [Hid, SN.out, List.map_append, List.reverse_append]
                exact o10.base (by rw [← hs9.out]; exact BP.out)
              have K10 := Lib.hid (KP.out.below bw KP.out.lt)
              have MI := Lib.hid mi
              clear ON D9 DL mi b9 be9 be9' hs9b o10 g10 be10 bw VD OD DD KP hs9 SN32 BP
              generalize hact : Act.put _ (some 10) _ = act
              simp only [Act.put, List.setIfInBounds_toArray, List.set_cons_succ, List.set_cons_zero] at hact
              subst hact
              go_upto_region 21 with (fail)
              refine region_begin (opsOf Tryd.f3 21) (fun w => Blk w q 35 (ints .u8 k)) (by kernel_rfl) (by kernel_rfl) 9 (by kernel_rfl) ?_
              intro Q' hQN hN
              have hbd : Below w10.heap.size w10 w10.drew := (Below.refl _ _).drew
              have V11 := Lib.hid (V10.out.below hbd)
              have L11 := Lib.hid (O10.out.below3 hbd)
              have D11 := Lib.hid (D10.out.below hbd)
              have X := K10.out.below hbd K10.out.lt
              generalize w10.drew = w11 at V11 L11 D11 X ⊢
              clear hbd V10 O10 D10 K10
              refine reg_now 0 (.slice (some ⟨lg, 0, none⟩) m lcap) (some 84) hQN X (by kernel_rfl) (by kernel_rfl) (fun w => by kernel_rfl) ?_
              refine reg_nowIf 1 (.agg (ints .u8 k).toArray) (some 85) hQN X (by kernel_rfl) (by kernel_rfl) (fun w hw => exec_load_mid 35 (.tmp 12) (by kernel_rfl) q 0 (by kernel_rfl) (ints .u8 k) _ hw.whole digUnder rfl KS.out) ?_
              refine reg_now 2 (.slice (some ⟨pb, po, none⟩) n lc) (some 86) hQN X (by kernel_rfl) (by kernel_rfl) (fun w => by kernel_rfl) ?_
              refine reg_now 3 (.int .i64 (i : Int)) (some 87) hQN X (by kernel_rfl) (by kernel_rfl) (fun w => by kernel_rfl) ?_
              refine reg_now 4 (.slice (some ⟨pb, po, none⟩) i lc) (some 88) hQN X (by kernel_rfl) (by kernel_rfl) (fun w => exec_of (Instr.sliceAt 22 (.slice (some ⟨pb, po, none⟩) n lc) none (some (.int .i64 (i : Int))) none) _ (by kernel_rfl) (run_slice_u8 ⟨pb, po, none⟩ n lc i (by omega) (by omega) w)) ?_
              refine reg_now 5 (.agg (ints .u8 k ++ [Value.slice (some ⟨pb, po, none⟩) i lc]).toArray) (some 89) hQN X (by kernel_rfl) (by kernel_rfl) (fun w => exec_of (Instr.build 38 #[(0, .agg (ints .u8 k).toArray), (1, .slice (some ⟨pb, po, none⟩) i lc)]) _ (by kernel_rfl) (run_build_ent k GK.out.1 _ i lc _)) ?_
              obtain ⟨q11, hq11⟩ : ∃ q, Hid (w11.heap.size = q) := ⟨_, rfl⟩
              refine reg_newrow 6 38 (ints .u8 k ++ [Value.slice (some ⟨pb, po, none⟩) i lc]) q11 1 (some 90) (by kernel_rfl) (by kernel_rfl) hq11 (exec_of (Instr.buildSlice 32 1 #[(0, .agg (ints .u8 k ++ [Value.slice (some ⟨pb, po, none⟩) i lc]).toArray)]) _ (by kernel_rfl) (run_build_ents k GK.out.1 _ i lc _)) ?_
              intro w12 b12 be12 hs12
              have be12' : Below w11.heap.size w11 w12 := by rw [hq11.out]; exact be12
              have BB12 : Below B W1 w12 := V11.out.vs.be.2.1.trans (be12'.mono (Nat.le_trans V11.out.vs.be.2.2 V11.out.vs.be.2.1.size))
              refine ⟨X.below be12' X.lt, ?_⟩
              obtain ⟨i0, hi0, hz0, hz1, hz2⟩ := info_parts infoEnt
              obtain ⟨vs, ho0, hvl, h32, hve⟩ := L11.out
              rw [SEL.out] at ho0
              have ho := own_step (F := []) (F' := []) ho0 (Step.of_below be12' (Nat.le_refl _)) (fun g _ => by simp)
              have cl : (ints .u8 k ++ [Value.slice (some ⟨pb, po, none⟩) i lc]).length = 33 := by rw [List.length_append, ints_length, GK.out.1]; rfl
              have B12 : B ≤ w12.heap.size := Nat.le_trans V11.out.vs.be.2.2 BB12.size
              obtain ⟨g0, cap, w13, hr13, ho13, hg13, hat13, hlt13⟩ := run_append_lies (P := Tryd.prog) w12 32 32 B 38 i0 _ 33 56 elemEnt hi0 hz0 hz1 hz2 (by show (ints .u8 (List.replicate 32 0) ++ [Value.slice none 0 0]).toArray.size = 33; rw [List.size_toArray, List.length_append, ints_length, List.length_replicate]; rfl) (by decide) (.slice (some ⟨lg, 0, none⟩) m lcap) m (ecells (selK pk ES i) vs) ho ⟨q11, 0, none⟩ 1 1 (ints .u8 k ++ [Value.slice (some ⟨pb, po, none⟩) i lc]) (by rw [cl]) (fun j u hj => by rw [Addr.add_mid]; exact b12.whole j u hj) (fun u hu => by
                rcases List.mem_append.1 hu with h | h
                · exact ints_one _ _ u h
                · obtain rfl : u = Value.slice (some ⟨pb, po, none⟩) i lc := (by simpa using h)
                  rfl) (by omega) (by have := MI.out; unfold maxLen; omega) (by have := MI.out; omega) B12 _ rfl
              have OLGe : (Value.slice (some ⟨lg, 0, none⟩) m lcap).ownBlock = some lg := rfl
              rw [OLGe] at hg13 hat13
              have K13 : Blk w13 q 35 (ints .u8 k) := by unfold Blk; rw [hg13.block q (X.below be12' X.lt).lt (fun e => QE.out lg (by simp) (Option.some.inj e).symm)]; exact X.below be12' X.lt
              refine reg_value 7 (.slice (some ⟨g0, 0, none⟩) (m + 1) cap) (some 91) w13 (by kernel_rfl) (by kernel_rfl) (exec_of (Builtin.append_ #[32, 32] 32 #[.slice (some ⟨lg, 0, none⟩) m lcap, .slice (some ⟨q11, 0, none⟩) 1 1]) _ (by kernel_rfl) hr13) K13 ?_
              refine reg_now 8 (.slice (some ⟨g0, 0, none⟩) (m + 1) cap) (some 9) hQN K13 (by kernel_rfl) (by kernel_rfl) (fun w => by kernel_rfl) ?_
              refine reg_done (by kernel_rfl) (hN _ _ ?_)
              have blk13 : ∀ x, x < w11.heap.size → x ≠ lg → w13.heap[x]? = w11.heap[x]? := fun x hx hxl => by rw [hg13.block x (Nat.lt_of_lt_of_le hx be12'.size) (fun e => hxl (Option.some.inj e)), be12'.block x hx]
              have fr13 : lg = g0 ∨ w11.heap.size ≤ g0 := by
                rcases hat13 with h2 | h2
                · exact .inl (Option.some.inj h2)
                · exact .inr (by rw [h2]; exact be12'.size)
              have hst : Step ((Value.slice sa1 sn1 sc1).ownBlock.toList ++ [lg]) w11 ((Value.slice sa1 sn1 sc1).ownBlock.toList ++ [g0]) w13 := ⟨hg13.os.trans be12'.os, hg13.tape.trans be12'.tape, hg13.output.trans be12'.output, Nat.le_trans be12'.size hg13.size, fun x hx hxF => blk13 x hx (fun e => hxF (by simp [e])), fun x hx => by
                rcases List.mem_append.1 hx with h | h
                · exact .inl (List.mem_append_left _ h)
                · obtain rfl : x = g0 := (by simpa using h)
                  rcases fr13 with h2 | h2
                  · exact .inl (by simp [h2])
                  · exact .inr h2⟩
              have VC := Lib.hid (V11.out.move hst (fun x hx => by
                rcases List.mem_append.1 hx with h | h
                · exact Nat.lt_of_lt_of_le (V11.out.el x (List.mem_append_left _ h)).1 hst.size
                · obtain rfl : x = g0 := (by simpa using h)
                  exact hlt13))
              have LC : Hid (OwnW [] W1 w13 B (.slice (some ⟨g0, 0, none⟩) (m + 1) cap) (selK pk ES (i + 1))) := by
                rw [Hid, SN.out]
                exact OwnW.snoc L11.out SEL.out hvl hve (PA.out.off (Below.refl _ _) (fun x hx => by simp at hx)) trivial GK.out.1 ho13
              have hst1 : Step [lg] w11 [g0] w13 := ⟨hst.os, hst.tape, hst.output, hst.size, fun x hx hxF => blk13 x hx (fun e => hxF (by simp [e])), fun x hx => by
                obtain rfl : x = g0 := (by simpa using hx)
                rcases fr13 with h2 | h2
                · exact .inl (by simp [h2])
                · exact .inr h2⟩
              have DC : Hid (OwnD w13 B (.slice sa1 sn1 sc1) ((selK pk ES (i + 1)).map (·.1)).reverse) := D11.out.step3 hst1 (fun g hg hgl => by
                obtain rfl : g = lg := (by simpa using hgl)
                exact rows_apart D11.out ho0 (by decide) g hg rfl)
              have SEL1 : Hid ((selK pk ES (i + 1)).length = m + 1) := by rw [Hid, SN.out, List.length_append, SEL.out]; rfl
              have KN : Hid (KeAt B W1 d vb (i + 1) (m + 1) g0 cap (.slice sa1 sn1 sc1) ES pk w13) := ⟨T', SEL1.out, VC.out, LC.out, DC.out⟩
              clear hst hst1 blk13 fr13 hr13 ho13 hg13 hat13 hlt13 ho ho0 hve hvl h32 b12 be12 be12' hs12 cl hi0 hz0 hz1 hz2 X K13 BB12 B12 OLGe V11 L11 D11 hQN hN hq11 VC LC DC
              generalize hact : Act.put _ (some 9) _ = act
              simp only [Act.put, List.setIfInBounds_toArray, List.set_cons_succ, List.set_cons_zero] at hact
              subst hact
              go_wp2
              go_roundw
              case rel => exact ⟨i + 1, m + 1, g0, cap, sa1, sn1, sc1, by omega, by go_num, rfl, rfl, KN⟩
              case measure => simp [intOf]; omega
          · have r3 : ¬ (i : Int) < (n : Int) := by omega
            obtain rfl : i = n := by omega
            obtain ⟨T, hsel, hvs, how, hod⟩ := hka.out
            have EL : Hid (ES.length = i) := by rw [Hid, ← hES.out, keE_len, hn.out]
            have ET : Hid (ES.take i = ES) := List.take_of_length_le (by rw [EL.out]; exact Nat.le_refl _)
            rw [ET.out] at hvs
            have SEL := Lib.hid hsel
            have V := Lib.hid hvs
            have L := Lib.hid how
            have D := Lib.hid hod
            clear hsel hvs how hod hka
            have EN : Hid ((ES.map (·.1)).Nodup) := by rw [Hid, ← hES.out]; exact keE_nodup zs
            have KE : Hid (keepE ES ((selK pk ES i).map (·.1)).reverse = selK pk ES i) := by
              rw [Hid, keepE_congr (ks' := (selK pk ES i).map (·.1)) (fun x => List.mem_reverse)]
              have h := selK_keep (p := pk) EN.out
              rw [EL.out] at h
              exact h
            obtain ⟨KS0, hKS⟩ : ∃ x, Hid (selK pk ES i = x) := ⟨_, rfl⟩
            rw [hKS.out] at SEL L D KE
            have GS : Hid (∀ x ∈ KS0, goodK x.1) := fun x hx => by
              rw [← KE.out] at hx
              exact (V.out.vs.gd.1.g x (List.mem_filter.1 hx).1).1
            have mi : m ≤ i := by rw [← SEL.out, ← hKS.out]; exact selK_len pk ES i
            go_wp2_with fail
            refine (vs_keep V.out.vs HK1.out KB.out (by omega) (by omega) _ (KS0.map (·.1)).reverse D.out.in (fun x hx => by
              obtain ⟨e, he, rfl⟩ := List.mem_map.1 (List.mem_reverse.1 hx)
              exact GS.out e he) (by rw [List.length_reverse, List.length_map, SEL.out]; omega)).mono ?_
            rintro e w5 ⟨nn, T1, rfl, hs5, hcase⟩
            rw [KE.out] at hcase
            have key : nn = 0 ∧ VS B W1 d 80 vb 2 (4096 * i + 4096) KS0 KS0.length true (-1) T1 w5 := by
              rcases hcase with ⟨-, h, -⟩ | ⟨h1, h2⟩
              · omega
              · exact ⟨h1, h2⟩
            obtain ⟨rfl, hv5⟩ := key
            have V5 := Lib.hid hv5
            have LT : lg ∉ T := (V.out.el lg (by simp)).2.2
            have L5 : Hid (OwnW [] W1 w5 B (.slice (some ⟨lg, 0, none⟩) m lcap) KS0) := L.out.step3 hs5 (fun g hg => by obtain rfl : lg = g := (by simpa [Value.ownBlock] using hg); exact LT)
            have LT1 : Hid (lg ∉ T1 ∧ lg < w5.heap.size) := ⟨hs5.off (V.out.el lg (by simp)).1 LT, Nat.lt_of_lt_of_le (V.out.el lg (by simp)).1 hs5.size⟩
            clear hcase hv5 hs5 V L D LT GS
            go_wp2_with fail
            refine (vs_crash V5.out (by omega) (.slice none 0 0) [] ⟨none, 0, rfl, Nat.le_refl _, fun h => by simp at h⟩ (fun x hx => by simp at hx) (by simp)).mono ?_
            rintro e w6 ⟨⟨ne, rfl⟩, K0, F1, F2, A, ap, kv, mb, hK1, hK2, hF, hFT, hs6, hvm, hds⟩
            obtain rfl : K0 = KS0.length := by omega
            rw [List.take_length] at hds
            have L6 : Hid (OwnW [] W1 w6 B (.slice (some ⟨lg, 0, none⟩) m lcap) KS0) := L5.out.step3 hs6 (fun g hg => by obtain rfl : lg = g := (by simpa [Value.ownBlock] using hg); exact fun hc => LT1.out.1 (hF _ hc))
            have LF : Hid (lg ∉ F2) := hs6.off LT1.out.2 (fun hc => LT1.out.1 (hF _ hc))
            have VM6 := Lib.hid hvm
            have DS6 := Lib.hid hds
            clear hvm hds hs6 hF hFT V5 L5
            go_wp2_with fail
            refine (vs_open 0 DS6.out HK1.out KB.out (by omega)).mono ?_
            rintro e w7 ⟨vb2, T2, rfl, hs7, hv7⟩
            have V7 := Lib.hid hv7
            have L7 : Hid (OwnW [] W1 w7 B (.slice (some ⟨lg, 0, none⟩) m lcap) KS0) := L6.out.step3 hs7 (fun g hg => by obtain rfl : lg = g := (by simpa [Value.ownBlock] using hg); exact LF.out)
            have VM7 := Lib.hid (VM6.out.step (hs7.left (A := A)))
            clear hs7 hv7 VM6 DS6 L6 LF LT1
            have G7 := Lib.hid V7.out.gd
            have GE : Hid (∀ x ∈ KS0, goodK x.1 ∧ x.2.length ≤ 1000) := fun x hx => ⟨(G7.out.1.g x hx).1, (G7.out.1.g x hx).2.1⟩
            go_upto_region 25 with (fail)
            refine lin_begin (opsOf Tryd.f3 25) (by kernel_rfl) ?_
            refine lin_now 0 (.int .i64 0) (some 102) (by kernel_rfl) (by kernel_rfl) (by kernel_rfl) ?_
            refine lin_now 1 (.bool true) (some 103) (by kernel_rfl) (by kernel_rfl) (by kernel_rfl) ?_
            refine lin_now 2 (.bool true) (some 104) (by kernel_rfl) (by kernel_rfl) (by kernel_rfl) ?_
            refine lin_now 3 (.int .i64 0) (some 105) (by kernel_rfl) (by kernel_rfl) (by kernel_rfl) ?_
            refine lin_now 4 (.bool true) (some 106) (by kernel_rfl) (by kernel_rfl) (by kernel_rfl) ?_
            refine lin_now 5 (.bool true) (some 107) (by kernel_rfl) (by kernel_rfl) (by kernel_rfl) ?_
            refine lin_now 6 (.bool true) (some 108) (by kernel_rfl) (by kernel_rfl) (by kernel_rfl) ?_
            refine lin_now 7 (.pointer (some ⟨vb2, 0, none⟩)) (some 109) (by kernel_rfl) (by kernel_rfl) (by kernel_rfl) ?_
            refine lin_now 8 (.bool true) (some 110) (by kernel_rfl) (by kernel_rfl) (by kernel_rfl) ?_
            refine lin_now 9 (.bool true) (some 111) (by kernel_rfl) (by kernel_rfl) (by kernel_rfl) ?_
            refine lin_now 10 (.bool true) (some 112) (by kernel_rfl) (by kernel_rfl) (by kernel_rfl) ?_
            refine lin_now 11 (.pointer (some ⟨vb, 0, none⟩)) (some 113) (by kernel_rfl) (by kernel_rfl) (by kernel_rfl) ?_
            refine lin_call 12 15 #[.pointer (some ⟨vb, 0, none⟩)] (some 114) _ (by kernel_rfl) (by kernel_rfl) (by kernel_rfl) (entries_walk _ vb d ap kv mb KS0 _ VM7.out (by rw [SEL.out]; omega)) ?_
            rintro e w8 ⟨v8, rfl, hmo, hmb, -⟩
            obtain ⟨ma, mc, emv, -, -⟩ := hmo.slice
            rw [SEL.out] at emv
            subst emv
            have ME : EntsOff [] w8 (.slice ma m mc) KS0 := hmo.off (fun k hk => by simp at hk)
            have L8 := Lib.hid (L7.out.below3 hmb)
            have V8 := Lib.hid (V7.out.below hmb)
            have LE : EntsOff [] w8 (.slice (some ⟨lg, 0, none⟩) m lcap) KS0 := L8.out.in3 (by rw [hB.out]; exact V8.out.be.2.1)
            refine ⟨_, rfl, ?_⟩
            refine lin_now 13 (.slice (some ⟨lg, 0, none⟩) m lcap) (some 115) (by kernel_rfl) (by kernel_rfl) (by kernel_rfl) ?_
            refine lin_call 14 14 #[.slice ma m mc, .slice (some ⟨lg, 0, none⟩) m lcap] (some 116) _ (by kernel_rfl) (by kernel_rfl) (by kernel_rfl) (same_walk _ _ KS0 _ ME LE GE.out (by rw [SEL.out]; omega)) ?_
            rintro e w9 ⟨rfl, nd, rfl⟩
            have V9 := Lib.hid (V8.out.below (below_drewN w8 nd))
            have L9 := Lib.hid (L8.out.below3 (below_drewN w8 nd))
            generalize w8.drewN nd = w9 at V9 L9 ⊢
            clear hmo hmb ME LE L8 V8 VM7 L7 V7
            refine ⟨_, rfl, ?_⟩
            refine lin_now 15 (.bool true) (some 117) (by kernel_rfl) (by kernel_rfl) (by kernel_rfl) ?_
            refine lin_now 16 (.bool true) (some 118) (by kernel_rfl) (by kernel_rfl) (by kernel_rfl) ?_
            refine lin_now 17 (.pointer (some ⟨vb2, 0, none⟩)) (some 119) (by kernel_rfl) (by kernel_rfl) (by kernel_rfl) ?_
            refine lin_call 18 15 #[.pointer (some ⟨vb2, 0, none⟩)] (some 120) _ (by kernel_rfl) (by kernel_rfl) (by kernel_rfl) (vs_entries V9.out) ?_
            rintro e w10 ⟨v10, rfl, hmo, hmb, -⟩
            obtain ⟨ma2, mc2, emv, -, -⟩ := hmo.slice
            rw [SEL.out] at emv
            subst emv
            have ME : EntsOff [] w10 (.slice ma2 m mc2) KS0 := hmo.off (fun k hk => by simp at hk)
            have L10 := Lib.hid (L9.out.below3 hmb)
            have V10 := Lib.hid (V9.out.below hmb)
            have LE : EntsOff [] w10 (.slice (some ⟨lg, 0, none⟩) m lcap) KS0 := L10.out.in3 (by rw [hB.out]; exact V10.out.be.2.1)
            refine ⟨_, rfl, ?_⟩
            refine lin_now 19 (.slice (some ⟨lg, 0, none⟩) m lcap) (some 121) (by kernel_rfl) (by kernel_rfl) (by kernel_rfl) ?_
            refine lin_call 20 14 #[.slice ma2 m mc2, .slice (some ⟨lg, 0, none⟩) m lcap] (some 122) _ (by kernel_rfl) (by kernel_rfl) (by kernel_rfl) (same_walk _ _ KS0 _ ME LE GE.out (by rw [SEL.out]; omega)) ?_
            rintro e w11 ⟨rfl, nd2, rfl⟩
            have BZ : Hid (Below B0 w (w10.drewN nd2)) := BE1.out.trans ((V10.out.below (below_drewN w10 nd2)).be.2.1.mono BB.out)
            generalize w10.drewN nd2 = w12 at BZ ⊢
            clear hmo hmb ME LE L10 V10
            refine ⟨_, rfl, ?_⟩
            refine lin_now 21 (.bool true) (some 123) (by kernel_rfl) (by kernel_rfl) (by kernel_rfl) ?_
            refine lin_now 22 (.bool true) (some 4) (by kernel_rfl) (by kernel_rfl) (by kernel_rfl) ?_
            refine lin_done 23 (by kernel_rfl) ?_
            generalize hact : Act.put _ (some 4) _ = act
            simp only [Act.put, List.setIfInBounds_toArray, List.set_cons_succ, List.set_cons_zero] at hact
            subst hact
            go_wp2
            go_ret
            exact ⟨rfl, BZ.out⟩
end Go.Proofs.YtngpmilojfbpmaaDoor
