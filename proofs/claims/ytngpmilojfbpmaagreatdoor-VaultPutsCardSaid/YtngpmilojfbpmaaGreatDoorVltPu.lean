/- VaultPuts answers true. -/
import Derived.Test.YtngpmilojfbpmaaGreatDoorVltX
import Derived.Test.YtngpmilojfbpmaaGreatDoorVltRf
import Derived.Test.YtngpmilojfbpmaaGreatDoorVltKp
namespace Go.Proofs.YtngpmilojfbpmaaGreatDoor
open Go Go.RowKit
set_option maxRecDepth 100000

theorem and7 (z : Int) (h : 0 ≤ z ∧ z ≤ 255) : 0 ≤ bits BinOp.and IntKind.u8 z 7 ∧ bits BinOp.and IntKind.u8 z 7 ≤ 255 := by
  have h1 : ∀ m : Fin 256, 0 ≤ bits BinOp.and IntKind.u8 ((m.val : Nat) : Int) 7 ∧ bits BinOp.and IntKind.u8 ((m.val : Nat) : Int) 7 ≤ 255 := by decide
  obtain ⟨m, rfl⟩ := Int.eq_ofNat_of_zero_le h.1
  exact h1 ⟨m, by omega⟩
/-- Where the loop of VaultPuts stands. -/
def PuAt (B : Nat) (W1 : World) (d sz vb i m lg lcap : Nat) (wr : World) : Prop :=
  ∃ es T, es.length = m ∧ m ≤ i ∧ VSE [lg] B W1 d sz vb 1 (4096 * i) es 0 true (-1) T wr ∧ OwnW [] W1 wr B (.slice (some ⟨lg, 0, none⟩) m lcap) es
theorem OwnW.step {T : List Nat} {u w w' : World} {B : Nat} {ov : Value} {es : List Ent} (h : OwnW T u w B ov es) {F F' : List Nat} (hs : Step F w F' w') (hF : ∀ g, ov.ownBlock = some g → g ∉ F) : OwnW T u w' B ov es := by
  obtain ⟨vs, h1, h2⟩ := h
  exact ⟨vs, own_step h1 hs hF, h2⟩
theorem OwnW.in {u w : World} {B : Nat} {ov : Value} {es : List Ent} (h : OwnW [] u w B ov es) (hb : Below u.heap.size u w) : EntsOff [] w ov es := h.off hb (fun k hk => by simp at hk)
def OwnB6 (O : List Nat) (pn : Nat) (oa : Option Addr) (w : World) : Prop :=
  0 < pn → ∃ (ow : Nat) (cur : List Value), oa = some ⟨ow, 0, none⟩ ∧ ow ∈ O ∧ Blk w ow 5 cur ∧ ∀ j, j < pn → ∃ x, cur[j]? = some (.int .u8 x)
theorem OwnB6.step {O : List Nat} {pn : Nat} {oa : Option Addr} {w w' : World} (h : OwnB6 O pn oa w) {F F' : List Nat} (hs : Step F w F' w') (hF : ∀ x ∈ O, x ∉ F) : OwnB6 O pn oa w' := fun hp => by
  obtain ⟨ow, cur, h1, h2, h3, h4⟩ := h hp
  exact ⟨ow, cur, h1, h2, hs.blk h3 (hF ow h2), h4⟩
theorem OwnB6.set {O : List Nat} {pn : Nat} {ow : Nat} {w : World} {cur : List Value} (hO : ow ∈ O) (hB : Blk w ow 5 cur) (hx : ∀ j, j < pn → ∃ x, cur[j]? = some (.int .u8 x)) {j : Nat} (y : Int) : OwnB6 O pn (some ⟨ow, 0, none⟩) (w.setCell ⟨ow, j, none⟩ (.int .u8 y)) := fun _ => by
  refine ⟨ow, cur.set j (.int .u8 y), rfl, hO, hB.set j _, fun j' hj' => ?_⟩
  obtain ⟨x, h⟩ := hx j' hj'
  have hl := (List.getElem?_eq_some_iff.1 h).1
  by_cases e : j = j'
  · subst e
    exact ⟨y, by rw [List.getElem?_set_self hl]⟩
  · exact ⟨x, by rw [List.getElem?_set_ne e]; exact h⟩
theorem own_split {B : Nat} {w0 w7 w8 : World} {d sz vb c P lg : Nat} {es : List Ent} {sure : Nat} {s : Bool} {left : Int} {T : List Nat} (h : VSE [lg] B w0 d sz vb c P es sure s left T w7) (hb : Below w7.heap.size w7 w8) {oa : Option Addr} {oc pn : Nat} {bs : List Int} (ho : w8.ownsRow w7.heap.size 5 1 (.slice oa pn oc) bs.length (ints .u8 bs)) (hl : bs.length = pn) :
    ∃ O : List Nat, VSE (O ++ [lg]) B w0 d sz vb c P es sure s left T w8 ∧ (∀ x ∈ O, w7.heap.size ≤ x) ∧ OwnB6 O pn oa w8 := by
  rw [hl] at ho
  rcases ho.2 with ⟨e, h0⟩ | ⟨g, cap, cur, e, hg, hbk, hc, hm, hs, ht⟩
  · exact ⟨[], h.below hb, fun x hx => by simp at hx, fun hp => by omega⟩
  · obtain ⟨rfl, -, rfl⟩ := Value.slice.inj e
    refine ⟨[g], h.grow hb (fun x hx => ?_), fun x hx => ?_, fun hp => ⟨g, cur.toList, rfl, by simp, by unfold Blk; simpa using hbk, fun j hj => ?_⟩⟩
    · obtain rfl : x = g := by simpa using hx
      exact ⟨hg, (Array.getElem?_eq_some_iff.1 hbk).1⟩
    · obtain rfl : x = g := by simpa using hx
      exact hg
    · have h1 : (ints .u8 bs)[j]? = some (.int .u8 (bs[j]'(by omega))) := ints_get (k := .u8) (List.getElem?_eq_getElem (by omega))
      rw [← ht, List.getElem?_take] at h1
      split at h1
      · exact ⟨_, h1⟩
      · cases h1
set_option maxHeartbeats 8000000 in
theorem vputs_main (size : Int) (v : Value) (cs : List C6) (w : World) (hv : C6sIn w v cs) (hK : KW w) :
    Calls Tryz.prog 3 #[.int .i64 size, v] w fun e w' => e = .returned (.bool true) ∧ Below w.heap.size w w' := by
  obtain ⟨ca, ccap, rfl, hcl, -⟩ := id hv
  have HV := Lib.hid hv
  have HK := Lib.hid hK
  obtain ⟨n, hn⟩ : ∃ n, Hid (cs.length = n) := ⟨_, rfl⟩
  rw [hn.out] at HV hcl ⊢
  obtain ⟨B0, hB0⟩ : ∃ B, Hid (w.heap.size = B) := ⟨_, rfl⟩
  have KB0 : Hid (0 < B0) := by unfold Hid; rw [← hB0.out]; exact hK.lt
  rw [hB0.out]
  clear hv hK
  go_enter Tryz.func3, Tryz.ntmps3
  go_wp2_with fail
  refine (v6alive_walk _ HK.out).mono ?_
  rintro e w1 ⟨rfl, hb1⟩
  go_wp2_with fail
  refine (great6_walk _ cs _ (HV.out.below hb1)).mono ?_
  rintro e w2 ⟨gb, rfl, hgb, nd0, rfl⟩
  have HG := Lib.hid hgb
  have hb2 := hb1.trans ((below_drewN w1 nd0).mono hb1.size)
  have BE1 : Hid (Below B0 w (w1.drewN nd0)) := by unfold Hid; rw [← hB0.out]; exact hb2
  have HV1 : Hid (C6sIn (w1.drewN nd0) (.slice ca n ccap) cs) := HV.out.below hb2
  have HK1 : Hid (KW (w1.drewN nd0)) := HK.out.below hb2 HK.out.lt
  generalize w1.drewN nd0 = W1 at *
  clear hgb hb1 hb2
  cases gb with
  | true =>
    go_wp2
    go_ret
    exact ⟨rfl, BE1.out⟩
  | false =>
    by_cases s4 : size < 4
    · go_wp2
      go_ret
      exact ⟨rfl, BE1.out⟩
    · by_cases s40 : 40 < size
      · go_wp2
        go_ret
        exact ⟨rfl, BE1.out⟩
      · obtain ⟨sz, rfl⟩ := Int.eq_ofNat_of_zero_le (show 0 ≤ size by omega)
        have z4 : 4 ≤ sz := by omega
        have z40 : sz ≤ 40 := by omega
        have hgl := HG.out rfl
        rw [hn.out] at hgl
        have n40 : n ≤ 40 := hgl.1
        have HCL := Lib.hid hgl.2
        obtain ⟨B, hB⟩ : ∃ B, Hid (W1.heap.size = B) := ⟨_, rfl⟩
        have KB : Hid (0 < B) := by unfold Hid; rw [← hB.out]; exact HK1.out.lt
        have BB : Hid (B0 ≤ B) := by unfold Hid; have := BE1.out.size; have := hB0.out; have := hB.out; omega
        clear hgl HG
        go_wp2_with fail
        refine (new_yes sz (by omega) (by omega) _).mono ?_
        rintro e w3 ⟨d, F, rfl, hd3, hs3⟩
        have FG : Hid (∀ k ∈ F, B ≤ k) := fun k hk => by rcases hs3.fresh k hk with h | h; simp at h; rw [← hB.out]; exact h
        have B3 : Hid (Below B W1 w3) := by unfold Hid; rw [← hB.out]; exact hs3.below
        have DS3 : Hid (Ds B W1 d sz 0 [] F w3) := ds_new hd3 z4 (by omega) FG.out B3.out (Nat.le_of_eq hB.out.symm)
        clear hd3 hs3 FG B3
        go_wp2_with fail
        refine (vs_open 0 DS3.out HK1.out KB.out (by omega)).mono ?_
        rintro e w4 ⟨vb, T0, rfl, hs4, hv4⟩
        have V4 : Hid (VS B W1 d sz vb 1 (4096 * 0) [] 0 true (-1) T0 w4) := hv4
        clear hv4 hs4 DS3
        have hmk := run_build_noent w4
        have be5 : Below w4.heap.size w4 (w4.alloc (.cells #[] 46)) := (Below.refl _ _).alloc (Nat.le_refl _) _
        have O5 : Hid (PuAt B W1 d sz vb 0 0 w4.heap.size 0 (w4.alloc (.cells #[] 46))) := ⟨[], T0, rfl, Nat.le_refl _, V4.out.vse.grow be5 (E2 := [w4.heap.size]) (fun x hx => by obtain rfl : x = w4.heap.size := (by simpa using hx); exact ⟨Nat.le_refl _, by simp⟩), [], ⟨rfl, .inr ⟨w4.heap.size, 0, #[], rfl, (by have h := V4.out.be; exact Nat.le_trans h.2.2 h.2.1.size), heap_alloc_last w4 _, Nat.le_refl _, by unfold maxLen; omega, rfl, rfl⟩⟩, rfl, fun e he => by simp at he, fun i v e hv => by simp at hv⟩
        generalize w4.alloc (.cells #[] 46) = w5 at hmk be5 O5
        generalize w4.heap.size = q0 at hmk be5 O5
        go_upto_region 11 with (fail)
        refine lin_begin (opsOf Tryz.f3 11) (by kernel_rfl) ?_
        refine lin_value 0 (.slice (some ⟨q0, 0, none⟩) 0 0) (some 52) w5 (by kernel_rfl) (by kernel_rfl) (exec_of (Instr.buildSlice 32 0 #[]) _ (by kernel_rfl) hmk) ?_
        refine lin_now 1 (.slice (some ⟨q0, 0, none⟩) 0 0) (some 8) (by kernel_rfl) (by kernel_rfl) (by kernel_rfl) ?_
        refine lin_done 2 (by kernel_rfl) ?_
        clear hmk V4 be5
        generalize hact : Act.put _ (some 8) _ = act
        simp only [Act.put, List.setIfInBounds_toArray, List.set_cons_succ, List.set_cons_zero] at hact
        subst hact
        go_wp2
        go_loopw [9, 8] (fun iv lv wr => ∃ (i m lg lcap : Nat), i ≤ n ∧ iv = .int .i64 (i : Int) ∧ lv = .slice (some ⟨lg, 0, none⟩) m lcap ∧ Hid (PuAt B W1 d sz vb i m lg lcap wr)) (fun iv _ _ => n - (intOf iv).toNat)
        case atStart => exact ⟨0, 0, q0, 0, Nat.zero_le _, rfl, rfl, O5⟩
        case round =>
          obtain ⟨i, m, lg, lcap, hi, rfl, rfl, hls⟩ := hrel
          clear O5
          by_cases hlt : i < n
          · have r1 : (i : Int) < (n : Int) := by omega
            obtain ⟨es, T, hes, hmi, hvs, how⟩ := hls.out
            have HES := Lib.hid hes
            obtain ⟨ca', ccap', hce, -, hcq⟩ := id HV1.out
            rw [hn.out] at hce hcq
            obtain ⟨ec1, -, -⟩ := Value.slice.inj hce
            obtain ⟨qb, qo, eca, hqb, hcat⟩ := hcq (by omega)
            rw [eca] at ec1
            subst ec1
            obtain ⟨c, hck⟩ : ∃ c, cs[i]? = some c := ⟨_, List.getElem?_eq_getElem (by rw [hn.out]; exact hlt)⟩
            have hca := hcat i c hck
            have hcm := HCL.out c (List.mem_of_getElem? hck)
            obtain ⟨pv, hpv1, hpv2, hpv3⟩ := hca.bs
            obtain ⟨pa, pcp, epv⟩ := bytes_slice6 hpv2
            obtain ⟨bs, hbs⟩ : ∃ r, Hid (c.bs = r) := ⟨_, rfl⟩
            rw [hbs.out] at hpv2 epv hcm
            obtain ⟨pn, hpn⟩ : ∃ r, Hid (bs.length = r) := ⟨_, rfl⟩
            rw [hpn.out] at epv
            subst epv
            have PB := Lib.hid hpv2
            have PN := Lib.hid hpv3
            have PBY : Hid (isBytes bs) := by unfold Hid; rw [← hbs.out]; exact hca.bbytes
            have P3 : pn ≤ 3000 := by rw [← hpn.out]; exact hcm
            obtain ⟨ky, hky⟩ : ∃ z, Hid (c.key = z) := ⟨_, rfl⟩
            have KY : Hid (0 ≤ ky ∧ ky ≤ 255) := by unfold Hid; rw [← hky.out]; exact hca.kr
            have CK : Hid (∀ W, Below B W1 W → W.cell? ⟨qb, qo + 4 * i + 2, none⟩ = some (.int .u8 ky)) := fun W hW => by rw [hW.cell (p := ⟨qb, qo + 4 * i + 2, none⟩) (by rw [← hB.out]; exact hqb), hca.key, hky.out]
            have CB : Hid (∀ W, Below B W1 W → W.cell? ⟨qb, qo + 4 * i + 3, none⟩ = some (.slice pa pn pcp)) := fun W hW => by rw [hW.cell (p := ⟨qb, qo + 4 * i + 3, none⟩) (by rw [← hB.out]; exact hqb), hpv1]
            obtain ⟨k, hk⟩ : ∃ k, Hid (keyL (bits BinOp.and IntKind.u8 ky 7) = k) := ⟨_, rfl⟩
            have GK : Hid (goodK k) := by rw [Hid, ← hk.out]; exact keyL_good (and7 ky KY.out)
            have KS : Hid ((Tryz.prog.info? 34).map (·.size) = some (ints .u8 k).length) := blk_goodK GK.out.1
            have VX := Lib.hid hvs
            have OX := Lib.hid how
            clear hvs how hls hca hcat hck hcm hpv1 hpv2 hpv3 hce hcq eca hqb hes
            go_upto_region 15 with (fail)
            refine lin_begin (opsOf Tryz.f3 15) (by kernel_rfl) ?_
            refine lin_now 0 (.slice (some ⟨qb, qo, none⟩) n ccap) (some 59) (by kernel_rfl) (by kernel_rfl) (by kernel_rfl) ?_
            refine lin_now 1 (.int .i64 (i : Int)) (some 60) (by kernel_rfl) (by kernel_rfl) (by kernel_rfl) ?_
            refine lin_now 2 (.pointer (some ⟨qb, qo + 4 * i, none⟩)) (some 61) (by kernel_rfl) (by kernel_rfl) (exec_indexAt 22 (.tmp 59) (.tmp 60) (by kernel_rfl) _ _ _ (by kernel_rfl) (by kernel_rfl) (run_at_call6 qb qo n ccap i hlt _)) ?_
            refine lin_now 3 (.pointer (some ⟨qb, qo + 4 * i + 2, none⟩)) (some 62) (by kernel_rfl) (by kernel_rfl) (by kernel_rfl) ?_
            refine lin_now 4 (.int .u8 ky) (some 63) (by kernel_rfl) (by kernel_rfl) (exec_load_cell 5 (.tmp 62) (by kernel_rfl) qb (qo + 4 * i + 2) (by kernel_rfl) _ (CK.out _ VX.out.vs.be.2.1) _ Tryz.underlying5 rfl) ?_
            refine lin_now 5 (.int .u8 (bits BinOp.and IntKind.u8 ky 7)) (some 64) (by kernel_rfl) (by kernel_rfl) (by kernel_rfl) ?_
            refine lin_call 6 8 #[.int .u8 (bits BinOp.and IntKind.u8 ky 7)] (some 65) _ (by kernel_rfl) (by kernel_rfl) (by kernel_rfl) (v6key_walk _ _) ?_
            rintro e w5 ⟨rfl, hb5⟩
            rw [hk.out]
            have V5 := Lib.hid (VX.out.below hb5)
            have O5 : Hid (OwnW [] W1 w5 B (.slice (some ⟨lg, 0, none⟩) m lcap) es) := OX.out.step (F := []) (F' := []) (Step.of_below hb5 (Nat.le_refl _)) (fun g _ => by simp)
            obtain ⟨q, hq⟩ : ∃ q, Hid (w5.heap.size = q) := ⟨_, rfl⟩
            refine ⟨_, rfl, ?_⟩
            refine lin_alloc 7 34 (ints .u8 z32) (q) (some 10) (by kernel_rfl) (by kernel_rfl) (by kernel_rfl) zeroDig hq ?_
            intro w6 b6 be6 hs6
            refine lin_put 8 34 (.tmp 10) (.tmp 65) q _ (ints .u8 z32) (ints .u8 k) (by kernel_rfl) (by kernel_rfl) (by kernel_rfl) (by kernel_rfl) (by kernel_rfl) b6 (by rw [ints_length, ints_length, GK.out.1]; rfl) KS.out (ints_oneCell _ _) ?_
            intro w7 b7 u7
            refine lin_done 9 (by kernel_rfl) ?_
            have BB7 : Below w5.heap.size w5 w7 := u7.below (by rw [hq.out]; exact be6) (by rw [hq.out]; exact Nat.le_refl _) be6.size
            have V7 := Lib.hid (V5.out.below BB7)
            have O7 : Hid (OwnW [] W1 w7 B (.slice (some ⟨lg, 0, none⟩) m lcap) es) := O5.out.step (F := []) (F' := []) (Step.of_below BB7 (Nat.le_refl _)) (fun g _ => by simp)
            have K7 := Lib.hid b7
            have QT : Hid (q ∉ T) := fun hc => by have := V5.out.vs.lt q hc; have := hq.out; omega
            have QL : Hid (q ≠ lg) := fun hc => by have := (V5.out.el lg (by simp)).1; have := hq.out; omega
            clear b6 be6 hs6 b7 u7 BB7 VX OX V5 O5 hb5 hq
            generalize hact : Act.put _ none undef = act
            simp only [Act.put, List.setIfInBounds_toArray, List.set_cons_succ, List.set_cons_zero] at hact
            subst hact
            go_upto_region 16 with (fail)
            refine lin_begin (opsOf Tryz.f3 16) (by kernel_rfl) ?_
            refine lin_now 0 (.slice (some ⟨qb, qo, none⟩) n ccap) (some 66) (by kernel_rfl) (by kernel_rfl) (by kernel_rfl) ?_
            refine lin_now 1 (.int .i64 (i : Int)) (some 67) (by kernel_rfl) (by kernel_rfl) (by kernel_rfl) ?_
            refine lin_now 2 (.pointer (some ⟨qb, qo + 4 * i, none⟩)) (some 68) (by kernel_rfl) (by kernel_rfl) (exec_indexAt 22 (.tmp 66) (.tmp 67) (by kernel_rfl) _ _ _ (by kernel_rfl) (by kernel_rfl) (run_at_call6 qb qo n ccap i hlt _)) ?_
            refine lin_now 3 (.pointer (some ⟨qb, qo + 4 * i + 3, none⟩)) (some 69) (by kernel_rfl) (by kernel_rfl) (by kernel_rfl) ?_
            refine lin_now 4 (.slice pa pn pcp) (some 70) (by kernel_rfl) (by kernel_rfl) (exec_load_cell 36 (.tmp 69) (by kernel_rfl) qb (qo + 4 * i + 3) (by kernel_rfl) _ (CB.out _ V7.out.vs.be.2.1) _ Tryz.underlying36 rfl) ?_
            refine lin_call 5 9 #[.slice pa pn pcp] (some 71) _ (by kernel_rfl) (by kernel_rfl) (by kernel_rfl) (copyb_walk _ bs _ (PB.out.below V7.out.vs.be.2.1 (Nat.le_of_eq hB.out)) PN.out (by rw [hpn.out]; omega)) ?_
            rintro e w8 ⟨cv, rfl, ho8, hb8⟩
            obtain ⟨oa, oc, ecv, -⟩ := owns_bytes ho8
            rw [hpn.out] at ecv
            subst ecv
            refine ⟨_, rfl, ?_⟩
            refine lin_now 6 (.slice oa pn oc) (some 11) (by kernel_rfl) (by kernel_rfl) (by kernel_rfl) ?_
            refine lin_done 7 (by kernel_rfl) ?_
            obtain ⟨O, hvo, hOl, hob⟩ := own_split V7.out hb8 ho8 hpn.out
            have V8 := Lib.hid hvo
            have OB8 := Lib.hid hob
            have OLG : Hid (∀ x ∈ O, x ≠ lg) := fun x hx => by have := hOl x hx; have := (V7.out.el lg (by simp)).1; omega
            have OQ : Hid (∀ x ∈ O, x ≠ q) := fun x hx => by have := hOl x hx; have := K7.out.lt; omega
            have UX8 : Hid (BytesOff T w8 (.slice oa pn oc) bs) := by
              have h := owns_off (F := T) ho8 (fun x hx => V7.out.vs.lt x hx)
              exact h
            have ON : Hid (NilOk (.slice oa pn oc)) := owns_nilok ho8
            have L8 : Hid (OwnW [] W1 w8 B (.slice (some ⟨lg, 0, none⟩) m lcap) es) := O7.out.step (F := []) (F' := []) (Step.of_below hb8 (Nat.le_refl _)) (fun g _ => by simp)
            have K8 := Lib.hid (K7.out.below hb8 K7.out.lt)
            clear hvo hob hOl ho8 hb8 V7 O7 K7
            generalize hact : Act.put _ (some 11) _ = act
            simp only [Act.put, List.setIfInBounds_toArray, List.set_cons_succ, List.set_cons_zero] at hact
            subst hact
            go_upto_region 17 with (fail)
            refine lin_begin (opsOf Tryz.f3 17) (by kernel_rfl) ?_
            refine lin_now 0 (.pointer (some ⟨vb, 0, none⟩)) (some 72) (by kernel_rfl) (by kernel_rfl) (by kernel_rfl) ?_
            refine lin_call 1 10 #[.pointer (some ⟨vb, 0, none⟩)] (some 73) _ (by kernel_rfl) (by kernel_rfl) (by kernel_rfl) (vs_free V8.out.vs) ?_
            rintro e w9 ⟨rfl, hb9⟩
            have V9 := Lib.hid (V8.out.below hb9)
            have OB9 : Hid (OwnB6 O pn oa w9) := OB8.out.step (F := []) (F' := []) (Step.of_below hb9 (Nat.le_refl _)) (fun x _ => by simp)
            have UX9 : Hid (BytesOff T w9 (.slice oa pn oc) bs) := UX8.out.step (Step.of_below hb9 (Nat.le_refl _))
            have L9 : Hid (OwnW [] W1 w9 B (.slice (some ⟨lg, 0, none⟩) m lcap) es) := L8.out.step (F := []) (F' := []) (Step.of_below hb9 (Nat.le_refl _)) (fun g _ => by simp)
            have K9 := Lib.hid (K8.out.below hb9 K8.out.lt)
            obtain ⟨fr, hfr⟩ : ∃ f : Nat, Hid (sz / 2 - (1 + cntE es) = f) := ⟨_, rfl⟩
            rw [hfr.out]
            refine ⟨_, rfl, ?_⟩
            refine lin_now 2 (.int .i64 (fr : Int)) (some 12) (by kernel_rfl) (by kernel_rfl) (by kernel_rfl) ?_
            refine lin_done 3 (by kernel_rfl) ?_
            clear V8 OB8 UX8 L8 K8 hb9
            generalize hact : Act.put _ (some 12) _ = act
            simp only [Act.put, List.setIfInBounds_toArray, List.set_cons_succ, List.set_cons_zero] at hact
            subst hact
            go_upto_region 18 with (fail)
            refine lin_begin (opsOf Tryz.f3 18) (by kernel_rfl) ?_
            refine lin_now 0 (.slice oa pn oc) (some 74) (by kernel_rfl) (by kernel_rfl) (by kernel_rfl) ?_
            refine lin_now 1 (.int .i64 (pn : Int)) (some 75) (by kernel_rfl) (by kernel_rfl) (by kernel_rfl) ?_
            refine lin_now 2 (.int .i64 (IntKind.i64.wrap (32 + (pn : Int)))) (some 76) (by kernel_rfl) (by kernel_rfl) (by kernel_rfl) ?_
            rw [show IntKind.i64.wrap (32 + (pn : Int)) = ((32 + pn : Nat) : Int) by rw [IntWalk.i64_in _ (by omega)]; omega]
            refine lin_call 3 11 #[.int .i64 ((32 + pn : Nat) : Int)] (some 77) _ (by kernel_rfl) (by kernel_rfl) (by kernel_rfl) (rlneed_walk _ _) ?_
            rintro e w10 ⟨rfl, rfl⟩
            obtain ⟨nd, hnd⟩ : ∃ f : Int, Hid (needI ((32 + pn : Nat) : Int) = f) := ⟨_, rfl⟩
            rw [hnd.out]
            refine ⟨_, rfl, ?_⟩
            refine lin_now 4 (.int .i64 nd) (some 13) (by kernel_rfl) (by kernel_rfl) (by kernel_rfl) ?_
            refine lin_done 5 (by kernel_rfl) ?_
            generalize hact : Act.put _ (some 13) _ = act
            simp only [Act.put, List.setIfInBounds_toArray, List.set_cons_succ, List.set_cons_zero] at hact
            subst hact
            have GD := Lib.hid V9.out.vs.gd
            have EG : Hid (∀ e ∈ es, goodK e.1 ∧ e.2.length ≤ 1000) := fun e he => ⟨(GD.out.1.g e he).1, (GD.out.1.g e he).2.1⟩
            go_upto_region 19 with (fail)
            refine lin_begin (opsOf Tryz.f3 19) (by kernel_rfl) ?_
            refine lin_now 0 (.slice (some ⟨lg, 0, none⟩) m lcap) (some 79) (by kernel_rfl) (by kernel_rfl) (by kernel_rfl) ?_
            refine lin_now 1 (.agg (ints .u8 k).toArray) (some 80) (by kernel_rfl) (by kernel_rfl) (exec_load_mid 34 (.tmp 10) (by kernel_rfl) q 0 (by kernel_rfl) (ints .u8 k) _ K9.out.whole digUnder rfl KS.out) ?_
            refine lin_call 2 12 #[.slice (some ⟨lg, 0, none⟩) m lcap, .agg (ints .u8 k).toArray] (some 81) _ (by kernel_rfl) (by kernel_rfl) (by kernel_rfl) (r6get_walk _ es k _ (L9.out.in (by rw [hB.out]; exact V9.out.vs.be.2.1)) GK.out EG.out (by rw [HES.out]; omega)) ?_
            rintro e w10 ⟨r, rfl, hb10, hget⟩
            have V10 := Lib.hid (V9.out.below hb10)
            have OB10 : Hid (OwnB6 O pn oa w10) := OB9.out.step (F := []) (F' := []) (Step.of_below hb10 (Nat.le_refl _)) (fun x _ => by simp)
            have UX10 : Hid (BytesOff T w10 (.slice oa pn oc) bs) := UX9.out.step (Step.of_below hb10 (Nat.le_refl _))
            have L10 : Hid (OwnW [] W1 w10 B (.slice (some ⟨lg, 0, none⟩) m lcap) es) := L9.out.step (F := []) (F' := []) (Step.of_below hb10 (Nat.le_refl _)) (fun g _ => by simp)
            have K10 := Lib.hid (K9.out.below hb10 K9.out.lt)
            have TH : Hid (∃ (old : Value) (th : Bool), r = .tuple #[old, .bool th] ∧ ((th = false ∧ valOf es k = none) ∨ (th = true ∧ ∃ zs, valOf es k = some zs ∧ BytesIn w10 old zs ∧ zs.length ≤ 1000))) := by
              rcases hget with ⟨h1, rfl⟩ | ⟨j, zs, u, h1, rfl, h2, h3⟩
              · exact ⟨_, _, rfl, .inl ⟨rfl, valOf_none (fun hc => by obtain ⟨e, he, ek⟩ := List.mem_map.1 hc; exact h1 e he ek)⟩⟩
              · exact ⟨_, _, rfl, .inr ⟨rfl, zs, valOf_some GD.out.1.nd h1 rfl, h2.below hb10 (Nat.le_refl _), (EG.out _ (List.mem_of_getElem? h1)).2⟩⟩
            obtain ⟨old, th, er, hth⟩ := TH.out
            subst er
            have HTH := Lib.hid hth
            clear TH hget hth hb10 V9 OB9 UX9 L9 K9
            refine ⟨_, rfl, ?_⟩
            refine lin_now 3 (.tuple #[old, .bool th]) (some 78) (by kernel_rfl) (by kernel_rfl) (by kernel_rfl) ?_
            refine lin_now 4 (old) (some 82) (by kernel_rfl) (by kernel_rfl) (by kernel_rfl) ?_
            refine lin_now 5 (.bool th) (some 83) (by kernel_rfl) (by kernel_rfl) (by kernel_rfl) ?_
            refine lin_now 6 (old) (some 14) (by kernel_rfl) (by kernel_rfl) (by kernel_rfl) ?_
            refine lin_now 7 (.bool th) (some 15) (by kernel_rfl) (by kernel_rfl) (by kernel_rfl) ?_
            refine lin_done 8 (by kernel_rfl) ?_
            generalize hact : Act.put _ (some 15) _ = act
            simp only [Act.put, List.setIfInBounds_toArray, List.set_cons_succ, List.set_cons_zero] at hact
            subst hact
            have H10 := Lib.hid V10.out.vs.be.2.1
            by_cases hlong : 1000 < pn
            · have q1 : (1000 : Int) < (pn : Int) := by omega
              have VC := V10
              have LC := L10
              have OBC := OB10
              have UXC := UX10
              have KC := K10
              have OLG1 := OLG
              have HES1 := HES
              clear V10 L10 OB10 UX10 K10
              go_upto_region 29 with (fail)
              refine lin_begin (opsOf Tryz.f3 29) (by kernel_rfl) ?_
              refine lin_now 0 (.pointer (some ⟨vb, 0, none⟩)) (some 117) (by kernel_rfl) (by kernel_rfl) (by kernel_rfl) ?_
              refine lin_now 1 (.agg (ints .u8 k).toArray) (some 118) (by kernel_rfl) (by kernel_rfl) (exec_load_mid 34 (.tmp 10) (by kernel_rfl) q 0 (by kernel_rfl) (ints .u8 k) _ KC.out.whole digUnder rfl KS.out) ?_
              refine lin_now 2 (.slice oa pn oc) (some 119) (by kernel_rfl) (by kernel_rfl) (by kernel_rfl) ?_
              refine lin_call 3 14 #[.pointer (some ⟨vb, 0, none⟩), .agg (ints .u8 k).toArray, .slice oa pn oc] (some 120) _ (by kernel_rfl) (by kernel_rfl) (by kernel_rfl) (vse_put VC.out HK1.out KB.out (by omega) _ GK.out UXC.out ON.out PBY.out) ?_
              rintro e wp ⟨nn, T', rfl, hst, hcase⟩
              have key : nn = 10 ∧ VSE (O ++ [lg]) B W1 d sz vb 1 (4096 * i + 4096) (es) 0 true (-1) T' wp := by
                rcases hcase with ⟨_, h1, h2⟩ | ⟨h1, _⟩
                · exact ⟨h1, h2⟩
                · exact absurd h1 (by rw [hpn.out]; omega)
              obtain ⟨rfl, hvp⟩ := key
              have VD := Lib.hid hvp
              have LD : Hid (OwnW [] W1 wp B (.slice (some ⟨lg, 0, none⟩) m lcap) (es)) := LC.out.step hst (fun g hg => by obtain rfl : lg = g := (by simpa [Value.ownBlock] using hg); exact (VC.out.el lg (by simp)).2.2)
              have OBD : Hid (OwnB6 O pn oa wp) := OBC.out.step hst (fun x hx => (VC.out.el x (List.mem_append_left _ hx)).2.2)
              refine ⟨_, rfl, ?_⟩
              refine lin_now 4 (.int .i64 (10)) (some 121) (by kernel_rfl) (by kernel_rfl) (by kernel_rfl) ?_
              refine lin_now 5 (.bool false) (some 122) (by kernel_rfl) (by kernel_rfl) (by kernel_rfl) ?_
              refine lin_done 6 (by kernel_rfl) ?_
              clear hvp hst hcase VC LC OBC UXC KC
              generalize hact : Act.put _ (some 122) _ = act
              simp only [Act.put, List.setIfInBounds_toArray, List.set_cons_succ, List.set_cons_zero] at hact
              subst hact
              go_wp2
              go_loopw [17] (fun jv wj => ∃ j : Nat, j ≤ pn ∧ jv = .int .i64 (j : Int) ∧ Hid (VSE (O ++ [lg]) B W1 d sz vb 1 (4096 * i + 4096) (es) 0 true (-1) T' wj) ∧ Hid (OwnW [] W1 wj B (.slice (some ⟨lg, 0, none⟩) m lcap) (es)) ∧ Hid (OwnB6 O pn oa wj)) (fun jv _ => pn - (intOf jv).toNat)
              case atStart => exact ⟨0, Nat.zero_le _, rfl, VD, LD, OBD⟩
              case round =>
                obtain ⟨j, hj, rfl, VE, LE, OBE⟩ := hrel
                clear VD LD OBD
                by_cases hjl : j < pn
                · have j1 : (j : Int) < (pn : Int) := by omega
                  have j0 : (0 : Int) ≤ (j : Int) := by omega
                  obtain ⟨ow, cur, rfl, hO, hBk, hxs⟩ := OBE.out (by omega)
                  obtain ⟨x, hx⟩ := hxs j hjl
                  have c1 := hBk.cell hx
                  have f1 := hBk.free j
                  have hu : Upd ow wr (wr.setCell ⟨ow, j, none⟩ (.int .u8 (IntKind.u8.wrap (x + 1)))) := (Upd.refl ow wr).setCell j (.int .u8 (IntKind.u8.wrap (x + 1)))
                  have hs := Step.of_upd (F := O ++ [lg]) hu (List.mem_append_left _ hO)
                  have VF := Lib.hid (VE.out.other hs)
                  have OBF := Lib.hid (OwnB6.set hO hBk hxs (j := j) (IntKind.u8.wrap (x + 1)))
                  have LF : Hid (OwnW [] W1 (wr.setCell ⟨ow, j, none⟩ (.int .u8 (IntKind.u8.wrap (x + 1)))) B (.slice (some ⟨lg, 0, none⟩) m lcap) (es)) := by
                    obtain ⟨vs, h1, h2⟩ := LE.out
                    exact ⟨vs, own_upd h1 hu (fun g hg => by obtain rfl : lg = g := (by simpa [Value.ownBlock] using hg); exact fun e => OLG1.out ow hO e.symm), h2⟩
                  clear hu hs hBk hxs hx VE LE OBE
                  go_wp2
                  exact ⟨⟨j + 1, by omega, by go_num, VF, LF, OBF⟩, by simp [intOf]; omega⟩
                · have j1 : ¬ (j : Int) < (pn : Int) := by omega
                  have GDE := Lib.hid VE.out.vs.gd
                  clear OBE
                  go_upto_region 35 with (fail)
                  refine lin_begin (opsOf Tryz.f3 35) (by kernel_rfl) ?_
                  refine lin_now 0 (.pointer (some ⟨vb, 0, none⟩)) (some 135) (by kernel_rfl) (by kernel_rfl) (by kernel_rfl) ?_
                  refine lin_call 1 16 #[.pointer (some ⟨vb, 0, none⟩)] (some 136) _ (by kernel_rfl) (by kernel_rfl) (by kernel_rfl) (vs_entries VE.out.vs) ?_
                  rintro e wf ⟨mv, rfl, hmo, hmb, -⟩
                  obtain ⟨ma, mc, emv, -, -⟩ := hmo.slice
                  rw [HES1.out] at emv
                  subst emv
                  have ME : EntsOff [] wf (.slice ma m mc) (es) := hmo.off (fun k hk => by simp at hk)
                  have LEE : EntsOff [] wf (.slice (some ⟨lg, 0, none⟩) m lcap) (es) := (LE.out.in (by rw [hB.out]; exact VE.out.vs.be.2.1)).below hmb
                  have VG := VE.out.below hmb
                  have LG : OwnW [] W1 wf B (.slice (some ⟨lg, 0, none⟩) m lcap) (es) := LE.out.step (F := []) (F' := []) (Step.of_below hmb (Nat.le_refl _)) (fun g _ => by simp)
                  refine ⟨_, rfl, ?_⟩
                  refine lin_now 2 (.slice (some ⟨lg, 0, none⟩) m lcap) (some 137) (by kernel_rfl) (by kernel_rfl) (by kernel_rfl) ?_
                  refine lin_call 3 15 #[.slice ma m mc, .slice (some ⟨lg, 0, none⟩) m lcap] (some 138) _ (by kernel_rfl) (by kernel_rfl) (by kernel_rfl) (same_walk _ _ (es) _ ME LEE (fun e he => ⟨(GDE.out.1.g e he).1, (GDE.out.1.g e he).2.1⟩) (by rw [HES1.out]; omega)) ?_
                  rintro e wg ⟨rfl, nd2, rfl⟩
                  have VH := Lib.hid (VG.below (below_drewN wf nd2))
                  have LH : Hid (OwnW [] W1 (wf.drewN nd2) B (.slice (some ⟨lg, 0, none⟩) m lcap) (es)) := LG.step (F := []) (F' := []) (Step.of_below (below_drewN wf nd2) (Nat.le_refl _)) (fun g _ => by simp)
                  refine ⟨_, rfl, ?_⟩
                  refine lin_now 4 (.bool false) (some 139) (by kernel_rfl) (by kernel_rfl) (by kernel_rfl) ?_
                  refine lin_now 5 (.bool false) (some 140) (by kernel_rfl) (by kernel_rfl) (by kernel_rfl) ?_
                  refine lin_now 6 (.pointer (some ⟨vb, 0, none⟩)) (some 141) (by kernel_rfl) (by kernel_rfl) (by kernel_rfl) ?_
                  refine lin_call 7 17 #[.pointer (some ⟨vb, 0, none⟩)] (some 142) _ (by kernel_rfl) (by kernel_rfl) (by kernel_rfl) (vs_len VH.out.vs) ?_
                  rintro e wh ⟨rfl, rfl⟩
                  rw [HES1.out]
                  refine ⟨_, rfl, ?_⟩
                  refine lin_now 8 (.slice (some ⟨lg, 0, none⟩) m lcap) (some 143) (by kernel_rfl) (by kernel_rfl) (by kernel_rfl) ?_
                  refine lin_now 9 (.int .i64 ((m : Nat) : Int)) (some 144) (by kernel_rfl) (by kernel_rfl) (by kernel_rfl) ?_
                  refine lin_now 10 (.bool (((m : Nat) : Int) != ((m : Nat) : Int))) (some 145) (by kernel_rfl) (by kernel_rfl) (by kernel_rfl) ?_
                  rw [show (((m : Nat) : Int) != ((m : Nat) : Int)) = false by simp]
                  refine lin_now 11 (.bool false) (some 146) (by kernel_rfl) (by kernel_rfl) (by kernel_rfl) ?_
                  refine lin_now 12 (.bool false) (some 147) (by kernel_rfl) (by kernel_rfl) (by kernel_rfl) ?_
                  refine lin_now 13 (.pointer (some ⟨vb, 0, none⟩)) (some 148) (by kernel_rfl) (by kernel_rfl) (by kernel_rfl) ?_
                  refine lin_call 14 18 #[.pointer (some ⟨vb, 0, none⟩)] (some 149) _ (by kernel_rfl) (by kernel_rfl) (by kernel_rfl) (vs_sound VH.out.vs) ?_
                  rintro e wh ⟨rfl, rfl⟩
                  refine ⟨_, rfl, ?_⟩
                  refine lin_now 15 (.bool false) (some 150) (by kernel_rfl) (by kernel_rfl) (by kernel_rfl) ?_
                  refine lin_now 16 (.bool false) (some 151) (by kernel_rfl) (by kernel_rfl) (by kernel_rfl) ?_
                  refine lin_done 17 (by kernel_rfl) ?_
                  have HLS : Hid (PuAt B W1 d sz vb (i + 1) (m) lg lcap (wf.drewN nd2)) := ⟨es, T', HES1.out, by omega, VH.out.sub (fun x hx => List.mem_append_right _ hx), LH.out⟩
                  generalize wf.drewN nd2 = wz at HLS ⊢
                  clear ME LEE VG LG VH LH VE LE hmo hmb
                  generalize hact : Act.put _ (some 151) _ = act
                  simp only [Act.put, List.setIfInBounds_toArray, List.set_cons_succ, List.set_cons_zero] at hact
                  subst hact
                  go_wp2
                  go_roundw
                  case rel => exact ⟨i + 1, m, lg, lcap, by omega, by go_num, rfl, HLS⟩
                  case measure => simp [intOf]; omega
            · have q1 : ¬ (1000 : Int) < (pn : Int) := by omega
              have ND : Hid (nd = ((needN (32 + pn) : Nat) : Int)) := by rw [Hid, ← hnd.out, needI_nat _ (by omega)]
              rcases HTH.out with ⟨rfl, hval⟩ | ⟨rfl, zs, hval, hold, hzl⟩
              · have HVAL := Lib.hid hval
                clear hval
                by_cases hfull : fr < needN (32 + pn)
                · have q2 : (fr : Int) < nd := by rw [ND.out]; omega
                  have VC := V10
                  have LC := L10
                  have OBC := OB10
                  have UXC := UX10
                  have KC := K10
                  have OLG1 := OLG
                  have HES1 := HES
                  clear V10 L10 OB10 UX10 K10
                  go_upto_region 29 with (fail)
                  refine lin_begin (opsOf Tryz.f3 29) (by kernel_rfl) ?_
                  refine lin_now 0 (.pointer (some ⟨vb, 0, none⟩)) (some 117) (by kernel_rfl) (by kernel_rfl) (by kernel_rfl) ?_
                  refine lin_now 1 (.agg (ints .u8 k).toArray) (some 118) (by kernel_rfl) (by kernel_rfl) (exec_load_mid 34 (.tmp 10) (by kernel_rfl) q 0 (by kernel_rfl) (ints .u8 k) _ KC.out.whole digUnder rfl KS.out) ?_
                  refine lin_now 2 (.slice oa pn oc) (some 119) (by kernel_rfl) (by kernel_rfl) (by kernel_rfl) ?_
                  refine lin_call 3 14 #[.pointer (some ⟨vb, 0, none⟩), .agg (ints .u8 k).toArray, .slice oa pn oc] (some 120) _ (by kernel_rfl) (by kernel_rfl) (by kernel_rfl) (vse_put VC.out HK1.out KB.out (by omega) _ GK.out UXC.out ON.out PBY.out) ?_
                  rintro e wp ⟨nn, T', rfl, hst, hcase⟩
                  have key : nn = 15 ∧ VSE (O ++ [lg]) B W1 d sz vb 1 (4096 * i + 4096) (es) 0 true (-1) T' wp := by
                    rcases hcase with ⟨h1, _⟩ | ⟨_, ⟨o, h1, _⟩ | ⟨_, ⟨_, h2, h3⟩ | ⟨h1, _⟩⟩⟩
                    · exact absurd h1 (by rw [hpn.out]; omega)
                    · rw [HVAL.out] at h1; cases h1
                    · exact ⟨h2, h3⟩
                    · exact absurd h1 (by rw [hpn.out, hfr.out]; omega)
                  obtain ⟨rfl, hvp⟩ := key
                  have VD := Lib.hid hvp
                  have LD : Hid (OwnW [] W1 wp B (.slice (some ⟨lg, 0, none⟩) m lcap) (es)) := LC.out.step hst (fun g hg => by obtain rfl : lg = g := (by simpa [Value.ownBlock] using hg); exact (VC.out.el lg (by simp)).2.2)
                  have OBD : Hid (OwnB6 O pn oa wp) := OBC.out.step hst (fun x hx => (VC.out.el x (List.mem_append_left _ hx)).2.2)
                  refine ⟨_, rfl, ?_⟩
                  refine lin_now 4 (.int .i64 (15)) (some 121) (by kernel_rfl) (by kernel_rfl) (by kernel_rfl) ?_
                  refine lin_now 5 (.bool false) (some 122) (by kernel_rfl) (by kernel_rfl) (by kernel_rfl) ?_
                  refine lin_done 6 (by kernel_rfl) ?_
                  clear hvp hst hcase VC LC OBC UXC KC
                  generalize hact : Act.put _ (some 122) _ = act
                  simp only [Act.put, List.setIfInBounds_toArray, List.set_cons_succ, List.set_cons_zero] at hact
                  subst hact
                  go_wp2
                  go_loopw [17] (fun jv wj => ∃ j : Nat, j ≤ pn ∧ jv = .int .i64 (j : Int) ∧ Hid (VSE (O ++ [lg]) B W1 d sz vb 1 (4096 * i + 4096) (es) 0 true (-1) T' wj) ∧ Hid (OwnW [] W1 wj B (.slice (some ⟨lg, 0, none⟩) m lcap) (es)) ∧ Hid (OwnB6 O pn oa wj)) (fun jv _ => pn - (intOf jv).toNat)
                  case atStart => exact ⟨0, Nat.zero_le _, rfl, VD, LD, OBD⟩
                  case round =>
                    obtain ⟨j, hj, rfl, VE, LE, OBE⟩ := hrel
                    clear VD LD OBD
                    by_cases hjl : j < pn
                    · have j1 : (j : Int) < (pn : Int) := by omega
                      have j0 : (0 : Int) ≤ (j : Int) := by omega
                      obtain ⟨ow, cur, rfl, hO, hBk, hxs⟩ := OBE.out (by omega)
                      obtain ⟨x, hx⟩ := hxs j hjl
                      have c1 := hBk.cell hx
                      have f1 := hBk.free j
                      have hu : Upd ow wr (wr.setCell ⟨ow, j, none⟩ (.int .u8 (IntKind.u8.wrap (x + 1)))) := (Upd.refl ow wr).setCell j (.int .u8 (IntKind.u8.wrap (x + 1)))
                      have hs := Step.of_upd (F := O ++ [lg]) hu (List.mem_append_left _ hO)
                      have VF := Lib.hid (VE.out.other hs)
                      have OBF := Lib.hid (OwnB6.set hO hBk hxs (j := j) (IntKind.u8.wrap (x + 1)))
                      have LF : Hid (OwnW [] W1 (wr.setCell ⟨ow, j, none⟩ (.int .u8 (IntKind.u8.wrap (x + 1)))) B (.slice (some ⟨lg, 0, none⟩) m lcap) (es)) := by
                        obtain ⟨vs, h1, h2⟩ := LE.out
                        exact ⟨vs, own_upd h1 hu (fun g hg => by obtain rfl : lg = g := (by simpa [Value.ownBlock] using hg); exact fun e => OLG1.out ow hO e.symm), h2⟩
                      clear hu hs hBk hxs hx VE LE OBE
                      go_wp2
                      exact ⟨⟨j + 1, by omega, by go_num, VF, LF, OBF⟩, by simp [intOf]; omega⟩
                    · have j1 : ¬ (j : Int) < (pn : Int) := by omega
                      have GDE := Lib.hid VE.out.vs.gd
                      clear OBE
                      go_upto_region 35 with (fail)
                      refine lin_begin (opsOf Tryz.f3 35) (by kernel_rfl) ?_
                      refine lin_now 0 (.pointer (some ⟨vb, 0, none⟩)) (some 135) (by kernel_rfl) (by kernel_rfl) (by kernel_rfl) ?_
                      refine lin_call 1 16 #[.pointer (some ⟨vb, 0, none⟩)] (some 136) _ (by kernel_rfl) (by kernel_rfl) (by kernel_rfl) (vs_entries VE.out.vs) ?_
                      rintro e wf ⟨mv, rfl, hmo, hmb, -⟩
                      obtain ⟨ma, mc, emv, -, -⟩ := hmo.slice
                      rw [HES1.out] at emv
                      subst emv
                      have ME : EntsOff [] wf (.slice ma m mc) (es) := hmo.off (fun k hk => by simp at hk)
                      have LEE : EntsOff [] wf (.slice (some ⟨lg, 0, none⟩) m lcap) (es) := (LE.out.in (by rw [hB.out]; exact VE.out.vs.be.2.1)).below hmb
                      have VG := VE.out.below hmb
                      have LG : OwnW [] W1 wf B (.slice (some ⟨lg, 0, none⟩) m lcap) (es) := LE.out.step (F := []) (F' := []) (Step.of_below hmb (Nat.le_refl _)) (fun g _ => by simp)
                      refine ⟨_, rfl, ?_⟩
                      refine lin_now 2 (.slice (some ⟨lg, 0, none⟩) m lcap) (some 137) (by kernel_rfl) (by kernel_rfl) (by kernel_rfl) ?_
                      refine lin_call 3 15 #[.slice ma m mc, .slice (some ⟨lg, 0, none⟩) m lcap] (some 138) _ (by kernel_rfl) (by kernel_rfl) (by kernel_rfl) (same_walk _ _ (es) _ ME LEE (fun e he => ⟨(GDE.out.1.g e he).1, (GDE.out.1.g e he).2.1⟩) (by rw [HES1.out]; omega)) ?_
                      rintro e wg ⟨rfl, nd2, rfl⟩
                      have VH := Lib.hid (VG.below (below_drewN wf nd2))
                      have LH : Hid (OwnW [] W1 (wf.drewN nd2) B (.slice (some ⟨lg, 0, none⟩) m lcap) (es)) := LG.step (F := []) (F' := []) (Step.of_below (below_drewN wf nd2) (Nat.le_refl _)) (fun g _ => by simp)
                      refine ⟨_, rfl, ?_⟩
                      refine lin_now 4 (.bool false) (some 139) (by kernel_rfl) (by kernel_rfl) (by kernel_rfl) ?_
                      refine lin_now 5 (.bool false) (some 140) (by kernel_rfl) (by kernel_rfl) (by kernel_rfl) ?_
                      refine lin_now 6 (.pointer (some ⟨vb, 0, none⟩)) (some 141) (by kernel_rfl) (by kernel_rfl) (by kernel_rfl) ?_
                      refine lin_call 7 17 #[.pointer (some ⟨vb, 0, none⟩)] (some 142) _ (by kernel_rfl) (by kernel_rfl) (by kernel_rfl) (vs_len VH.out.vs) ?_
                      rintro e wh ⟨rfl, rfl⟩
                      rw [HES1.out]
                      refine ⟨_, rfl, ?_⟩
                      refine lin_now 8 (.slice (some ⟨lg, 0, none⟩) m lcap) (some 143) (by kernel_rfl) (by kernel_rfl) (by kernel_rfl) ?_
                      refine lin_now 9 (.int .i64 ((m : Nat) : Int)) (some 144) (by kernel_rfl) (by kernel_rfl) (by kernel_rfl) ?_
                      refine lin_now 10 (.bool (((m : Nat) : Int) != ((m : Nat) : Int))) (some 145) (by kernel_rfl) (by kernel_rfl) (by kernel_rfl) ?_
                      rw [show (((m : Nat) : Int) != ((m : Nat) : Int)) = false by simp]
                      refine lin_now 11 (.bool false) (some 146) (by kernel_rfl) (by kernel_rfl) (by kernel_rfl) ?_
                      refine lin_now 12 (.bool false) (some 147) (by kernel_rfl) (by kernel_rfl) (by kernel_rfl) ?_
                      refine lin_now 13 (.pointer (some ⟨vb, 0, none⟩)) (some 148) (by kernel_rfl) (by kernel_rfl) (by kernel_rfl) ?_
                      refine lin_call 14 18 #[.pointer (some ⟨vb, 0, none⟩)] (some 149) _ (by kernel_rfl) (by kernel_rfl) (by kernel_rfl) (vs_sound VH.out.vs) ?_
                      rintro e wh ⟨rfl, rfl⟩
                      refine ⟨_, rfl, ?_⟩
                      refine lin_now 15 (.bool false) (some 150) (by kernel_rfl) (by kernel_rfl) (by kernel_rfl) ?_
                      refine lin_now 16 (.bool false) (some 151) (by kernel_rfl) (by kernel_rfl) (by kernel_rfl) ?_
                      refine lin_done 17 (by kernel_rfl) ?_
                      have HLS : Hid (PuAt B W1 d sz vb (i + 1) (m) lg lcap (wf.drewN nd2)) := ⟨es, T', HES1.out, by omega, VH.out.sub (fun x hx => List.mem_append_right _ hx), LH.out⟩
                      generalize wf.drewN nd2 = wz at HLS ⊢
                      clear ME LEE VG LG VH LH VE LE hmo hmb
                      generalize hact : Act.put _ (some 151) _ = act
                      simp only [Act.put, List.setIfInBounds_toArray, List.set_cons_succ, List.set_cons_zero] at hact
                      subst hact
                      go_wp2
                      go_roundw
                      case rel => exact ⟨i + 1, m, lg, lcap, by omega, by go_num, rfl, HLS⟩
                      case measure => simp [intOf]; omega
                · have hbd : Below w10.heap.size w10 w10.drew := (Below.refl _ _).drew
                  have q2 : ¬ (fr : Int) < nd := by rw [ND.out]; omega
                  have V11 := Lib.hid (V10.out.below hbd)
                  have OB11 : Hid (OwnB6 O pn oa w10.drew) := OB10.out.step (F := []) (F' := []) (Step.of_below hbd (Nat.le_refl _)) (fun x _ => by simp)
                  have UX11 : Hid (BytesOff T w10.drew (.slice oa pn oc) bs) := UX10.out.step (Step.of_below hbd (Nat.le_refl _))
                  have L11 : Hid (OwnW [] W1 w10.drew B (.slice (some ⟨lg, 0, none⟩) m lcap) es) := L10.out.step (F := []) (F' := []) (Step.of_below hbd (Nat.le_refl _)) (fun g0 _ => by simp)
                  have K11 := Lib.hid (K10.out.below hbd K10.out.lt)
                  clear hbd V10 OB10 UX10 L10 K10 H10 HTH
                  go_upto_region 28 with (fail)
                  refine region_begin (opsOf Tryz.f3 28) (fun w => Blk w q 34 (ints .u8 k) ∧ w.cell? ⟨qb, qo + 4 * i + 3, none⟩ = some (.slice pa pn pcp)) (by kernel_rfl) (by kernel_rfl) 11 (by kernel_rfl) ?_
                  intro Q' hQN hN
                  generalize w10.drew = w11 at V11 OB11 UX11 L11 K11 ⊢
                  have X : Blk w11 q 34 (ints .u8 k) ∧ w11.cell? ⟨qb, qo + 4 * i + 3, none⟩ = some (.slice pa pn pcp) := ⟨K11.out, CB.out _ V11.out.vs.be.2.1⟩
                  refine reg_now 0 (.slice (some ⟨lg, 0, none⟩) m lcap) (some 107) hQN X (by kernel_rfl) (by kernel_rfl) (fun w => by kernel_rfl) ?_
                  refine reg_nowIf 1 (.agg (ints .u8 k).toArray) (some 108) hQN X (by kernel_rfl) (by kernel_rfl) (fun w hw => exec_load_mid 34 (.tmp 10) (by kernel_rfl) q 0 (by kernel_rfl) (ints .u8 k) _ hw.1.whole digUnder rfl KS.out) ?_
                  refine reg_now 2 (.slice (some ⟨qb, qo, none⟩) n ccap) (some 109) hQN X (by kernel_rfl) (by kernel_rfl) (fun w => by kernel_rfl) ?_
                  refine reg_now 3 (.int .i64 (i : Int)) (some 110) hQN X (by kernel_rfl) (by kernel_rfl) (fun w => by kernel_rfl) ?_
                  refine reg_now 4 (.pointer (some ⟨qb, qo + 4 * i, none⟩)) (some 111) hQN X (by kernel_rfl) (by kernel_rfl) (fun w => exec_indexAt 22 (.tmp 109) (.tmp 110) (by kernel_rfl) _ _ _ (by kernel_rfl) (by kernel_rfl) (run_at_call6 qb qo n ccap i hlt _)) ?_
                  refine reg_now 5 (.pointer (some ⟨qb, qo + 4 * i + 3, none⟩)) (some 112) hQN X (by kernel_rfl) (by kernel_rfl) (fun w => by kernel_rfl) ?_
                  refine reg_nowIf 6 (.slice pa pn pcp) (some 113) hQN X (by kernel_rfl) (by kernel_rfl) (fun w hw => exec_load_cell 36 (.tmp 112) (by kernel_rfl) qb (qo + 4 * i + 3) (by kernel_rfl) _ hw.2 _ Tryz.underlying36 rfl) ?_
                  refine reg_now 7 (.agg (ints .u8 k ++ [Value.slice pa pn pcp]).toArray) (some 114) hQN X (by kernel_rfl) (by kernel_rfl) (fun w => exec_of (Instr.build 46 #[(0, .agg (ints .u8 k).toArray), (1, .slice pa pn pcp)]) _ (by kernel_rfl) (run_build_ent k GK.out.1 pa pn pcp _)) ?_
                  obtain ⟨q11, hq11⟩ : ∃ q, Hid (w11.heap.size = q) := ⟨_, rfl⟩
                  refine reg_newrow 8 46 (ints .u8 k ++ [Value.slice pa pn pcp]) q11 1 (some 115) (by kernel_rfl) (by kernel_rfl) hq11 (exec_of (Instr.buildSlice 32 1 #[(0, .agg (ints .u8 k ++ [Value.slice pa pn pcp]).toArray)]) _ (by kernel_rfl) (run_build_ents k GK.out.1 pa pn pcp _)) ?_
                  intro w12 b12 be12 hs12
                  have be12' : Below w11.heap.size w11 w12 := by rw [hq11.out]; exact be12
                  have BB12 : Below B W1 w12 := V11.out.vs.be.2.1.trans (be12'.mono (Nat.le_trans V11.out.vs.be.2.2 V11.out.vs.be.2.1.size))
                  refine ⟨⟨K11.out.below be12' K11.out.lt, CB.out _ BB12⟩, ?_⟩
                  obtain ⟨i0, hi0, hz0, hz1, hz2⟩ := info_parts infoEnt
                  obtain ⟨vs, ho0, hvl, h32, hve⟩ := L11.out
                  rw [HES.out] at ho0
                  have ho := own_step (F := []) (F' := []) ho0 (Step.of_below be12' (Nat.le_refl _)) (fun g0 _ => by simp)
                  have cl : (ints .u8 k ++ [Value.slice pa pn pcp]).length = 33 := by rw [List.length_append, ints_length, GK.out.1]; rfl
                  have B12 : B ≤ w12.heap.size := Nat.le_trans V11.out.vs.be.2.2 BB12.size
                  obtain ⟨g0, cap, w13, hr13, ho13, hg13, hat13, hlt13⟩ := run_append_lies (P := Tryz.prog) w12 32 32 B 46 i0 _ 33 56 elemEnt hi0 hz0 hz1 hz2 (by show (ints .u8 (List.replicate 32 0) ++ [Value.slice none 0 0]).toArray.size = 33; rw [List.size_toArray, List.length_append, ints_length, List.length_replicate]; rfl) (by decide) (.slice (some ⟨lg, 0, none⟩) m lcap) m (ecells es vs) ho ⟨q11, 0, none⟩ 1 1 (ints .u8 k ++ [Value.slice pa pn pcp]) (by rw [cl]) (fun j u hj => by rw [Addr.add_mid]; exact b12.whole j u hj) (fun u hu => by
                    rcases List.mem_append.1 hu with h | h
                    · exact ints_one _ _ u h
                    · obtain rfl : u = Value.slice pa pn pcp := (by simpa using h)
                      rfl) (by omega) (by unfold maxLen; omega) (by omega) B12 _ rfl
                  have OLGe : (Value.slice (some ⟨lg, 0, none⟩) m lcap).ownBlock = some lg := rfl
                  rw [OLGe] at hg13 hat13
                  have BLG : B ≤ lg := (V11.out.el lg (by simp)).2.1
                  have BB13 : Below B W1 w13 := BB12.grown hg13 B12 (fun x hx => by obtain rfl : lg = x := (by simpa using hx); exact BLG)
                  have K13 : Blk w13 q 34 (ints .u8 k) := by unfold Blk; rw [hg13.block q (K11.out.below be12' K11.out.lt).lt (fun e => QL.out (Option.some.inj e))]; exact K11.out.below be12' K11.out.lt
                  refine reg_value 9 (.slice (some ⟨g0, 0, none⟩) (m + 1) cap) (some 116) w13 (by kernel_rfl) (by kernel_rfl) (exec_of (Builtin.append_ #[32, 32] 32 #[.slice (some ⟨lg, 0, none⟩) m lcap, .slice (some ⟨q11, 0, none⟩) 1 1]) _ (by kernel_rfl) hr13) ⟨K13, CB.out _ BB13⟩ ?_
                  have X13 : Blk w13 q 34 (ints .u8 k) ∧ w13.cell? ⟨qb, qo + 4 * i + 3, none⟩ = some (.slice pa pn pcp) := ⟨K13, CB.out _ BB13⟩
                  refine reg_now 10 (.slice (some ⟨g0, 0, none⟩) (m + 1) cap) (some 8) hQN X13 (by kernel_rfl) (by kernel_rfl) (fun w => by kernel_rfl) ?_
                  refine reg_done (by kernel_rfl) (hN _ _ ?_)
                  have hst : Step (O ++ [lg]) w11 (O ++ [g0]) w13 := ⟨hg13.os.trans be12'.os, hg13.tape.trans be12'.tape, hg13.output.trans be12'.output, Nat.le_trans be12'.size hg13.size, fun x hx hxF => by rw [hg13.block x (Nat.lt_of_lt_of_le hx be12'.size) (fun e => hxF (by simp [Option.some.inj e])), be12'.block x hx], fun x hx => by
                    rcases List.mem_append.1 hx with h | h
                    · exact .inl (List.mem_append_left _ h)
                    · obtain rfl : x = g0 := (by simpa using h)
                      rcases hat13 with h2 | h2
                      · exact .inl (by simp [Option.some.inj h2])
                      · exact .inr (by rw [h2]; exact be12'.size)⟩
                  have VC := Lib.hid (V11.out.move hst (fun x hx => by
                    rcases List.mem_append.1 hx with h | h
                    · exact Nat.lt_of_lt_of_le (V11.out.el x (List.mem_append_left _ h)).1 hst.size
                    · obtain rfl : x = g0 := (by simpa using h)
                      exact hlt13))
                  have LC : Hid (OwnW [] W1 w13 B (.slice (some ⟨g0, 0, none⟩) (m + 1) cap) (es ++ [(k, bs)])) := OwnW.snoc L11.out HES.out hvl hve (PB.out.off (Below.refl _ _) (fun x hx => by simp at hx)) PN.out GK.out.1 ho13
                  have OLG1 : Hid (∀ x ∈ O, x ≠ g0) := fun x hx e => by
                    subst e
                    rcases hat13 with h2 | h2
                    · exact OLG.out x hx (Option.some.inj h2).symm
                    · have := (V11.out.el x (List.mem_append_left _ hx)).1
                      have := be12'.size
                      omega
                  have OBC : Hid (OwnB6 O pn oa w13) := OB11.out.step (F := [lg]) (F' := [g0]) ⟨hst.os, hst.tape, hst.output, hst.size, fun x hx hxF => by rw [hg13.block x (Nat.lt_of_lt_of_le hx be12'.size) (fun e => hxF (by simp [Option.some.inj e])), be12'.block x hx], fun x hx => by
                    obtain rfl : x = g0 := (by simpa using hx)
                    rcases hat13 with h2 | h2
                    · exact .inl (by simp [Option.some.inj h2])
                    · exact .inr (by rw [h2]; exact be12'.size)⟩ (fun x hx => by simpa using OLG.out x hx)
                  have LGT : lg ∉ T := (V11.out.el lg (by simp)).2.2
                  have UXL : BytesOff (lg :: T) w11 (.slice oa pn oc) bs := by
                    obtain ⟨a, cp, h1, h2, h3⟩ := UX11.out
                    refine ⟨a, cp, h1, h2, fun hp => ?_⟩
                    obtain ⟨pb, po, e1, h4, h5, h6⟩ := h3 hp
                    refine ⟨pb, po, e1, ?_, h5, h6⟩
                    obtain ⟨ow, cur, e2, hO, -, -⟩ := OB11.out (by rw [← hpn.out]; exact hp)
                    obtain ⟨e3, -, -⟩ := Value.slice.inj h1
                    rw [e1, e2] at e3
                    obtain rfl : ow = pb := by simpa using congrArg (fun x => (Option.getD x ⟨0, 0, none⟩ : Addr).block) e3
                    intro hc
                    rcases List.mem_cons.1 hc with h | h
                    · exact OLG.out ow hO h
                    · exact h4 h
                  have hst2 : Step (lg :: T) w11 (g0 :: T) w13 := ⟨hst.os, hst.tape, hst.output, hst.size, fun x hx hxF => by rw [hg13.block x (Nat.lt_of_lt_of_le hx be12'.size) (fun e => hxF (by simp [Option.some.inj e])), be12'.block x hx], fun x hx => by
                    rcases List.mem_cons.1 hx with h | h
                    · rcases hat13 with h2 | h2
                      · exact .inl (by simp [h, Option.some.inj h2])
                      · exact .inr (by rw [h, h2]; exact be12'.size)
                    · exact .inl (by simp [h])⟩
                  have UXC : Hid (BytesOff T w13 (.slice oa pn oc) bs) := (UXL.step hst2).sub (fun x hx => by simp [hx])
                  have KC := Lib.hid K13
                  have HES1 : Hid ((es ++ [(k, bs)]).length = m + 1) := by rw [Hid, List.length_append, HES.out]; rfl
                  clear hst hst2 UXL hr13 ho13 hg13 hat13 hlt13 ho ho0 hve hvl h32 b12 be12 be12' hs12 cl hi0 hz0 hz1 hz2 X X13 K13 BB12 BB13 B12 BLG OLGe LGT V11 L11 OB11 UX11 K11 hQN hN hq11
                  generalize hact : Act.put _ (some 8) _ = act
                  simp only [Act.put, List.setIfInBounds_toArray, List.set_cons_succ, List.set_cons_zero] at hact
                  subst hact
                  go_upto_region 29 with (fail)
                  refine lin_begin (opsOf Tryz.f3 29) (by kernel_rfl) ?_
                  refine lin_now 0 (.pointer (some ⟨vb, 0, none⟩)) (some 117) (by kernel_rfl) (by kernel_rfl) (by kernel_rfl) ?_
                  refine lin_now 1 (.agg (ints .u8 k).toArray) (some 118) (by kernel_rfl) (by kernel_rfl) (exec_load_mid 34 (.tmp 10) (by kernel_rfl) q 0 (by kernel_rfl) (ints .u8 k) _ KC.out.whole digUnder rfl KS.out) ?_
                  refine lin_now 2 (.slice oa pn oc) (some 119) (by kernel_rfl) (by kernel_rfl) (by kernel_rfl) ?_
                  refine lin_call 3 14 #[.pointer (some ⟨vb, 0, none⟩), .agg (ints .u8 k).toArray, .slice oa pn oc] (some 120) _ (by kernel_rfl) (by kernel_rfl) (by kernel_rfl) (vse_put VC.out HK1.out KB.out (by omega) _ GK.out UXC.out ON.out PBY.out) ?_
                  rintro e wp ⟨nn, T', rfl, hst, hcase⟩
                  have key : nn = 0 ∧ VSE (O ++ [g0]) B W1 d sz vb 1 (4096 * i + 4096) (es ++ [(k, bs)]) 0 true (-1) T' wp := by
                    rcases hcase with ⟨h1, _⟩ | ⟨_, ⟨o, h1, _⟩ | ⟨_, ⟨h1, _⟩ | ⟨_, h2, h3⟩⟩⟩
                    · exact absurd h1 (by rw [hpn.out]; omega)
                    · rw [HVAL.out] at h1; cases h1
                    · exact absurd h1 (by rw [hpn.out, hfr.out]; omega)
                    · exact ⟨h2, h3⟩
                  obtain ⟨rfl, hvp⟩ := key
                  have VD := Lib.hid hvp
                  have LD : Hid (OwnW [] W1 wp B (.slice (some ⟨g0, 0, none⟩) (m + 1) cap) (es ++ [(k, bs)])) := LC.out.step hst (fun g hg => by obtain rfl : g0 = g := (by simpa [Value.ownBlock] using hg); exact (VC.out.el g0 (by simp)).2.2)
                  have OBD : Hid (OwnB6 O pn oa wp) := OBC.out.step hst (fun x hx => (VC.out.el x (List.mem_append_left _ hx)).2.2)
                  refine ⟨_, rfl, ?_⟩
                  refine lin_now 4 (.int .i64 (0)) (some 121) (by kernel_rfl) (by kernel_rfl) (by kernel_rfl) ?_
                  refine lin_now 5 (.bool false) (some 122) (by kernel_rfl) (by kernel_rfl) (by kernel_rfl) ?_
                  refine lin_done 6 (by kernel_rfl) ?_
                  clear hvp hst hcase VC LC OBC UXC KC
                  generalize hact : Act.put _ (some 122) _ = act
                  simp only [Act.put, List.setIfInBounds_toArray, List.set_cons_succ, List.set_cons_zero] at hact
                  subst hact
                  go_wp2
                  go_loopw [17] (fun jv wj => ∃ j : Nat, j ≤ pn ∧ jv = .int .i64 (j : Int) ∧ Hid (VSE (O ++ [g0]) B W1 d sz vb 1 (4096 * i + 4096) (es ++ [(k, bs)]) 0 true (-1) T' wj) ∧ Hid (OwnW [] W1 wj B (.slice (some ⟨g0, 0, none⟩) (m + 1) cap) (es ++ [(k, bs)])) ∧ Hid (OwnB6 O pn oa wj)) (fun jv _ => pn - (intOf jv).toNat)
                  case atStart => exact ⟨0, Nat.zero_le _, rfl, VD, LD, OBD⟩
                  case round =>
                    obtain ⟨j, hj, rfl, VE, LE, OBE⟩ := hrel
                    clear VD LD OBD
                    by_cases hjl : j < pn
                    · have j1 : (j : Int) < (pn : Int) := by omega
                      have j0 : (0 : Int) ≤ (j : Int) := by omega
                      obtain ⟨ow, cur, rfl, hO, hBk, hxs⟩ := OBE.out (by omega)
                      obtain ⟨x, hx⟩ := hxs j hjl
                      have c1 := hBk.cell hx
                      have f1 := hBk.free j
                      have hu : Upd ow wr (wr.setCell ⟨ow, j, none⟩ (.int .u8 (IntKind.u8.wrap (x + 1)))) := (Upd.refl ow wr).setCell j (.int .u8 (IntKind.u8.wrap (x + 1)))
                      have hs := Step.of_upd (F := O ++ [g0]) hu (List.mem_append_left _ hO)
                      have VF := Lib.hid (VE.out.other hs)
                      have OBF := Lib.hid (OwnB6.set hO hBk hxs (j := j) (IntKind.u8.wrap (x + 1)))
                      have LF : Hid (OwnW [] W1 (wr.setCell ⟨ow, j, none⟩ (.int .u8 (IntKind.u8.wrap (x + 1)))) B (.slice (some ⟨g0, 0, none⟩) (m + 1) cap) (es ++ [(k, bs)])) := by
                        obtain ⟨vs, h1, h2⟩ := LE.out
                        exact ⟨vs, own_upd h1 hu (fun g hg => by obtain rfl : g0 = g := (by simpa [Value.ownBlock] using hg); exact fun e => OLG1.out ow hO e.symm), h2⟩
                      clear hu hs hBk hxs hx VE LE OBE
                      go_wp2
                      exact ⟨⟨j + 1, by omega, by go_num, VF, LF, OBF⟩, by simp [intOf]; omega⟩
                    · have j1 : ¬ (j : Int) < (pn : Int) := by omega
                      have GDE := Lib.hid VE.out.vs.gd
                      clear OBE
                      go_upto_region 35 with (fail)
                      refine lin_begin (opsOf Tryz.f3 35) (by kernel_rfl) ?_
                      refine lin_now 0 (.pointer (some ⟨vb, 0, none⟩)) (some 135) (by kernel_rfl) (by kernel_rfl) (by kernel_rfl) ?_
                      refine lin_call 1 16 #[.pointer (some ⟨vb, 0, none⟩)] (some 136) _ (by kernel_rfl) (by kernel_rfl) (by kernel_rfl) (vs_entries VE.out.vs) ?_
                      rintro e wf ⟨mv, rfl, hmo, hmb, -⟩
                      obtain ⟨ma, mc, emv, -, -⟩ := hmo.slice
                      rw [HES1.out] at emv
                      subst emv
                      have ME : EntsOff [] wf (.slice ma (m + 1) mc) (es ++ [(k, bs)]) := hmo.off (fun k hk => by simp at hk)
                      have LEE : EntsOff [] wf (.slice (some ⟨g0, 0, none⟩) (m + 1) cap) (es ++ [(k, bs)]) := (LE.out.in (by rw [hB.out]; exact VE.out.vs.be.2.1)).below hmb
                      have VG := VE.out.below hmb
                      have LG : OwnW [] W1 wf B (.slice (some ⟨g0, 0, none⟩) (m + 1) cap) (es ++ [(k, bs)]) := LE.out.step (F := []) (F' := []) (Step.of_below hmb (Nat.le_refl _)) (fun g _ => by simp)
                      refine ⟨_, rfl, ?_⟩
                      refine lin_now 2 (.slice (some ⟨g0, 0, none⟩) (m + 1) cap) (some 137) (by kernel_rfl) (by kernel_rfl) (by kernel_rfl) ?_
                      refine lin_call 3 15 #[.slice ma (m + 1) mc, .slice (some ⟨g0, 0, none⟩) (m + 1) cap] (some 138) _ (by kernel_rfl) (by kernel_rfl) (by kernel_rfl) (same_walk _ _ (es ++ [(k, bs)]) _ ME LEE (fun e he => ⟨(GDE.out.1.g e he).1, (GDE.out.1.g e he).2.1⟩) (by rw [HES1.out]; omega)) ?_
                      rintro e wg ⟨rfl, nd2, rfl⟩
                      have VH := Lib.hid (VG.below (below_drewN wf nd2))
                      have LH : Hid (OwnW [] W1 (wf.drewN nd2) B (.slice (some ⟨g0, 0, none⟩) (m + 1) cap) (es ++ [(k, bs)])) := LG.step (F := []) (F' := []) (Step.of_below (below_drewN wf nd2) (Nat.le_refl _)) (fun g _ => by simp)
                      refine ⟨_, rfl, ?_⟩
                      refine lin_now 4 (.bool false) (some 139) (by kernel_rfl) (by kernel_rfl) (by kernel_rfl) ?_
                      refine lin_now 5 (.bool false) (some 140) (by kernel_rfl) (by kernel_rfl) (by kernel_rfl) ?_
                      refine lin_now 6 (.pointer (some ⟨vb, 0, none⟩)) (some 141) (by kernel_rfl) (by kernel_rfl) (by kernel_rfl) ?_
                      refine lin_call 7 17 #[.pointer (some ⟨vb, 0, none⟩)] (some 142) _ (by kernel_rfl) (by kernel_rfl) (by kernel_rfl) (vs_len VH.out.vs) ?_
                      rintro e wh ⟨rfl, rfl⟩
                      rw [HES1.out]
                      refine ⟨_, rfl, ?_⟩
                      refine lin_now 8 (.slice (some ⟨g0, 0, none⟩) (m + 1) cap) (some 143) (by kernel_rfl) (by kernel_rfl) (by kernel_rfl) ?_
                      refine lin_now 9 (.int .i64 (((m + 1) : Nat) : Int)) (some 144) (by kernel_rfl) (by kernel_rfl) (by kernel_rfl) ?_
                      refine lin_now 10 (.bool ((((m + 1) : Nat) : Int) != (((m + 1) : Nat) : Int))) (some 145) (by kernel_rfl) (by kernel_rfl) (by kernel_rfl) ?_
                      rw [show ((((m + 1) : Nat) : Int) != (((m + 1) : Nat) : Int)) = false by simp]
                      refine lin_now 11 (.bool false) (some 146) (by kernel_rfl) (by kernel_rfl) (by kernel_rfl) ?_
                      refine lin_now 12 (.bool false) (some 147) (by kernel_rfl) (by kernel_rfl) (by kernel_rfl) ?_
                      refine lin_now 13 (.pointer (some ⟨vb, 0, none⟩)) (some 148) (by kernel_rfl) (by kernel_rfl) (by kernel_rfl) ?_
                      refine lin_call 14 18 #[.pointer (some ⟨vb, 0, none⟩)] (some 149) _ (by kernel_rfl) (by kernel_rfl) (by kernel_rfl) (vs_sound VH.out.vs) ?_
                      rintro e wh ⟨rfl, rfl⟩
                      refine ⟨_, rfl, ?_⟩
                      refine lin_now 15 (.bool false) (some 150) (by kernel_rfl) (by kernel_rfl) (by kernel_rfl) ?_
                      refine lin_now 16 (.bool false) (some 151) (by kernel_rfl) (by kernel_rfl) (by kernel_rfl) ?_
                      refine lin_done 17 (by kernel_rfl) ?_
                      have HLS : Hid (PuAt B W1 d sz vb (i + 1) ((m + 1)) g0 cap (wf.drewN nd2)) := ⟨es ++ [(k, bs)], T', HES1.out, by omega, VH.out.sub (fun x hx => List.mem_append_right _ hx), LH.out⟩
                      generalize wf.drewN nd2 = wz at HLS ⊢
                      clear ME LEE VG LG VH LH VE LE hmo hmb
                      generalize hact : Act.put _ (some 151) _ = act
                      simp only [Act.put, List.setIfInBounds_toArray, List.set_cons_succ, List.set_cons_zero] at hact
                      subst hact
                      go_wp2
                      go_roundw
                      case rel => exact ⟨i + 1, (m + 1), g0, cap, by omega, by go_num, rfl, HLS⟩
                      case measure => simp [intOf]; omega
              · have HVAL := Lib.hid hval
                clear hval
                go_upto_region 23 with (fail)
                refine lin_begin (opsOf Tryz.f3 23) (by kernel_rfl) ?_
                refine lin_now 0 (.bool true) (some 89) (by kernel_rfl) (by kernel_rfl) (by kernel_rfl) ?_
                refine lin_now 1 (.bool true) (some 90) (by kernel_rfl) (by kernel_rfl) (by kernel_rfl) ?_
                refine lin_now 2 (old) (some 91) (by kernel_rfl) (by kernel_rfl) (by kernel_rfl) ?_
                refine lin_now 3 (.slice oa pn oc) (some 92) (by kernel_rfl) (by kernel_rfl) (by kernel_rfl) ?_
                refine lin_call 4 13 #[old, .slice oa pn oc] (some 93) _ (by kernel_rfl) (by kernel_rfl) (by kernel_rfl) (sameb_walk _ _ zs bs _ hold UX10.out.in (by omega)) ?_
                rintro e w11 ⟨rfl, n2, rfl⟩
                have SB : Hid (Step ([] : List Nat) w10 [] (w10.drewN n2)) := Step.of_below (below_drewN w10 n2) (Nat.le_refl _)
                have VC := Lib.hid (V10.out.below (below_drewN w10 n2))
                have LC : Hid (OwnW [] W1 (w10.drewN n2) B (.slice (some ⟨lg, 0, none⟩) m lcap) es) := L10.out.step SB.out (fun g _ => by simp)
                have OBC : Hid (OwnB6 O pn oa (w10.drewN n2)) := OB10.out.step SB.out (fun x _ => by simp)
                have UXC : Hid (BytesOff T (w10.drewN n2) (.slice oa pn oc) bs) := UX10.out.step (Step.of_below (below_drewN w10 n2) (Nat.le_refl _))
                have KC := Lib.hid (K10.out.below (below_drewN w10 n2) K10.out.lt)
                have OLG1 := OLG
                have HES1 := HES
                clear V10 L10 OB10 UX10 K10 SB H10 hold HTH
                generalize w10.drewN n2 = w11 at VC LC OBC UXC KC ⊢
                obtain ⟨bb, hbb⟩ : ∃ b, Hid (decide (zs = bs) = b) := ⟨_, rfl⟩
                rw [hbb.out]
                refine ⟨_, rfl, ?_⟩
                cases bb with
                | true =>
                  refine lin_now 5 (.bool false) (some 94) (by kernel_rfl) (by kernel_rfl) (by kernel_rfl) ?_
                  refine lin_now 6 (.bool false) (some 95) (by kernel_rfl) (by kernel_rfl) (by kernel_rfl) ?_
                  refine lin_now 7 (.bool false) (some 88) (by kernel_rfl) (by kernel_rfl) (by kernel_rfl) ?_
                  refine lin_done 8 (by kernel_rfl) ?_
                  generalize hact : Act.put _ (some 88) _ = act
                  simp only [Act.put, List.setIfInBounds_toArray, List.set_cons_succ, List.set_cons_zero] at hact
                  subst hact
                  go_upto_region 29 with (fail)
                  refine lin_begin (opsOf Tryz.f3 29) (by kernel_rfl) ?_
                  refine lin_now 0 (.pointer (some ⟨vb, 0, none⟩)) (some 117) (by kernel_rfl) (by kernel_rfl) (by kernel_rfl) ?_
                  refine lin_now 1 (.agg (ints .u8 k).toArray) (some 118) (by kernel_rfl) (by kernel_rfl) (exec_load_mid 34 (.tmp 10) (by kernel_rfl) q 0 (by kernel_rfl) (ints .u8 k) _ KC.out.whole digUnder rfl KS.out) ?_
                  refine lin_now 2 (.slice oa pn oc) (some 119) (by kernel_rfl) (by kernel_rfl) (by kernel_rfl) ?_
                  refine lin_call 3 14 #[.pointer (some ⟨vb, 0, none⟩), .agg (ints .u8 k).toArray, .slice oa pn oc] (some 120) _ (by kernel_rfl) (by kernel_rfl) (by kernel_rfl) (vse_put VC.out HK1.out KB.out (by omega) _ GK.out UXC.out ON.out PBY.out) ?_
                  rintro e wp ⟨nn, T', rfl, hst, hcase⟩
                  have key : nn = 0 ∧ VSE (O ++ [lg]) B W1 d sz vb 1 (4096 * i + 4096) (es) 0 true (-1) T' wp := by
                    rcases hcase with ⟨h1, _⟩ | ⟨_, ⟨o, h1, h2, h3⟩ | ⟨h1, _⟩⟩
                    · exact absurd h1 (by rw [hpn.out]; omega)
                    · rw [HVAL.out] at h1
                      obtain rfl := Option.some.inj h1
                      rw [hbb.out] at h2
                      exact ⟨h2, h3⟩
                    · rw [HVAL.out] at h1; cases h1
                  obtain ⟨rfl, hvp⟩ := key
                  have VD := Lib.hid hvp
                  have LD : Hid (OwnW [] W1 wp B (.slice (some ⟨lg, 0, none⟩) m lcap) (es)) := LC.out.step hst (fun g hg => by obtain rfl : lg = g := (by simpa [Value.ownBlock] using hg); exact (VC.out.el lg (by simp)).2.2)
                  have OBD : Hid (OwnB6 O pn oa wp) := OBC.out.step hst (fun x hx => (VC.out.el x (List.mem_append_left _ hx)).2.2)
                  refine ⟨_, rfl, ?_⟩
                  refine lin_now 4 (.int .i64 (0)) (some 121) (by kernel_rfl) (by kernel_rfl) (by kernel_rfl) ?_
                  refine lin_now 5 (.bool false) (some 122) (by kernel_rfl) (by kernel_rfl) (by kernel_rfl) ?_
                  refine lin_done 6 (by kernel_rfl) ?_
                  clear hvp hst hcase VC LC OBC UXC KC
                  generalize hact : Act.put _ (some 122) _ = act
                  simp only [Act.put, List.setIfInBounds_toArray, List.set_cons_succ, List.set_cons_zero] at hact
                  subst hact
                  go_wp2
                  go_loopw [17] (fun jv wj => ∃ j : Nat, j ≤ pn ∧ jv = .int .i64 (j : Int) ∧ Hid (VSE (O ++ [lg]) B W1 d sz vb 1 (4096 * i + 4096) (es) 0 true (-1) T' wj) ∧ Hid (OwnW [] W1 wj B (.slice (some ⟨lg, 0, none⟩) m lcap) (es)) ∧ Hid (OwnB6 O pn oa wj)) (fun jv _ => pn - (intOf jv).toNat)
                  case atStart => exact ⟨0, Nat.zero_le _, rfl, VD, LD, OBD⟩
                  case round =>
                    obtain ⟨j, hj, rfl, VE, LE, OBE⟩ := hrel
                    clear VD LD OBD
                    by_cases hjl : j < pn
                    · have j1 : (j : Int) < (pn : Int) := by omega
                      have j0 : (0 : Int) ≤ (j : Int) := by omega
                      obtain ⟨ow, cur, rfl, hO, hBk, hxs⟩ := OBE.out (by omega)
                      obtain ⟨x, hx⟩ := hxs j hjl
                      have c1 := hBk.cell hx
                      have f1 := hBk.free j
                      have hu : Upd ow wr (wr.setCell ⟨ow, j, none⟩ (.int .u8 (IntKind.u8.wrap (x + 1)))) := (Upd.refl ow wr).setCell j (.int .u8 (IntKind.u8.wrap (x + 1)))
                      have hs := Step.of_upd (F := O ++ [lg]) hu (List.mem_append_left _ hO)
                      have VF := Lib.hid (VE.out.other hs)
                      have OBF := Lib.hid (OwnB6.set hO hBk hxs (j := j) (IntKind.u8.wrap (x + 1)))
                      have LF : Hid (OwnW [] W1 (wr.setCell ⟨ow, j, none⟩ (.int .u8 (IntKind.u8.wrap (x + 1)))) B (.slice (some ⟨lg, 0, none⟩) m lcap) (es)) := by
                        obtain ⟨vs, h1, h2⟩ := LE.out
                        exact ⟨vs, own_upd h1 hu (fun g hg => by obtain rfl : lg = g := (by simpa [Value.ownBlock] using hg); exact fun e => OLG1.out ow hO e.symm), h2⟩
                      clear hu hs hBk hxs hx VE LE OBE
                      go_wp2
                      exact ⟨⟨j + 1, by omega, by go_num, VF, LF, OBF⟩, by simp [intOf]; omega⟩
                    · have j1 : ¬ (j : Int) < (pn : Int) := by omega
                      have GDE := Lib.hid VE.out.vs.gd
                      clear OBE
                      go_upto_region 35 with (fail)
                      refine lin_begin (opsOf Tryz.f3 35) (by kernel_rfl) ?_
                      refine lin_now 0 (.pointer (some ⟨vb, 0, none⟩)) (some 135) (by kernel_rfl) (by kernel_rfl) (by kernel_rfl) ?_
                      refine lin_call 1 16 #[.pointer (some ⟨vb, 0, none⟩)] (some 136) _ (by kernel_rfl) (by kernel_rfl) (by kernel_rfl) (vs_entries VE.out.vs) ?_
                      rintro e wf ⟨mv, rfl, hmo, hmb, -⟩
                      obtain ⟨ma, mc, emv, -, -⟩ := hmo.slice
                      rw [HES1.out] at emv
                      subst emv
                      have ME : EntsOff [] wf (.slice ma m mc) (es) := hmo.off (fun k hk => by simp at hk)
                      have LEE : EntsOff [] wf (.slice (some ⟨lg, 0, none⟩) m lcap) (es) := (LE.out.in (by rw [hB.out]; exact VE.out.vs.be.2.1)).below hmb
                      have VG := VE.out.below hmb
                      have LG : OwnW [] W1 wf B (.slice (some ⟨lg, 0, none⟩) m lcap) (es) := LE.out.step (F := []) (F' := []) (Step.of_below hmb (Nat.le_refl _)) (fun g _ => by simp)
                      refine ⟨_, rfl, ?_⟩
                      refine lin_now 2 (.slice (some ⟨lg, 0, none⟩) m lcap) (some 137) (by kernel_rfl) (by kernel_rfl) (by kernel_rfl) ?_
                      refine lin_call 3 15 #[.slice ma m mc, .slice (some ⟨lg, 0, none⟩) m lcap] (some 138) _ (by kernel_rfl) (by kernel_rfl) (by kernel_rfl) (same_walk _ _ (es) _ ME LEE (fun e he => ⟨(GDE.out.1.g e he).1, (GDE.out.1.g e he).2.1⟩) (by rw [HES1.out]; omega)) ?_
                      rintro e wg ⟨rfl, nd2, rfl⟩
                      have VH := Lib.hid (VG.below (below_drewN wf nd2))
                      have LH : Hid (OwnW [] W1 (wf.drewN nd2) B (.slice (some ⟨lg, 0, none⟩) m lcap) (es)) := LG.step (F := []) (F' := []) (Step.of_below (below_drewN wf nd2) (Nat.le_refl _)) (fun g _ => by simp)
                      refine ⟨_, rfl, ?_⟩
                      refine lin_now 4 (.bool false) (some 139) (by kernel_rfl) (by kernel_rfl) (by kernel_rfl) ?_
                      refine lin_now 5 (.bool false) (some 140) (by kernel_rfl) (by kernel_rfl) (by kernel_rfl) ?_
                      refine lin_now 6 (.pointer (some ⟨vb, 0, none⟩)) (some 141) (by kernel_rfl) (by kernel_rfl) (by kernel_rfl) ?_
                      refine lin_call 7 17 #[.pointer (some ⟨vb, 0, none⟩)] (some 142) _ (by kernel_rfl) (by kernel_rfl) (by kernel_rfl) (vs_len VH.out.vs) ?_
                      rintro e wh ⟨rfl, rfl⟩
                      rw [HES1.out]
                      refine ⟨_, rfl, ?_⟩
                      refine lin_now 8 (.slice (some ⟨lg, 0, none⟩) m lcap) (some 143) (by kernel_rfl) (by kernel_rfl) (by kernel_rfl) ?_
                      refine lin_now 9 (.int .i64 ((m : Nat) : Int)) (some 144) (by kernel_rfl) (by kernel_rfl) (by kernel_rfl) ?_
                      refine lin_now 10 (.bool (((m : Nat) : Int) != ((m : Nat) : Int))) (some 145) (by kernel_rfl) (by kernel_rfl) (by kernel_rfl) ?_
                      rw [show (((m : Nat) : Int) != ((m : Nat) : Int)) = false by simp]
                      refine lin_now 11 (.bool false) (some 146) (by kernel_rfl) (by kernel_rfl) (by kernel_rfl) ?_
                      refine lin_now 12 (.bool false) (some 147) (by kernel_rfl) (by kernel_rfl) (by kernel_rfl) ?_
                      refine lin_now 13 (.pointer (some ⟨vb, 0, none⟩)) (some 148) (by kernel_rfl) (by kernel_rfl) (by kernel_rfl) ?_
                      refine lin_call 14 18 #[.pointer (some ⟨vb, 0, none⟩)] (some 149) _ (by kernel_rfl) (by kernel_rfl) (by kernel_rfl) (vs_sound VH.out.vs) ?_
                      rintro e wh ⟨rfl, rfl⟩
                      refine ⟨_, rfl, ?_⟩
                      refine lin_now 15 (.bool false) (some 150) (by kernel_rfl) (by kernel_rfl) (by kernel_rfl) ?_
                      refine lin_now 16 (.bool false) (some 151) (by kernel_rfl) (by kernel_rfl) (by kernel_rfl) ?_
                      refine lin_done 17 (by kernel_rfl) ?_
                      have HLS : Hid (PuAt B W1 d sz vb (i + 1) (m) lg lcap (wf.drewN nd2)) := ⟨es, T', HES1.out, by omega, VH.out.sub (fun x hx => List.mem_append_right _ hx), LH.out⟩
                      generalize wf.drewN nd2 = wz at HLS ⊢
                      clear ME LEE VG LG VH LH VE LE hmo hmb
                      generalize hact : Act.put _ (some 151) _ = act
                      simp only [Act.put, List.setIfInBounds_toArray, List.set_cons_succ, List.set_cons_zero] at hact
                      subst hact
                      go_wp2
                      go_roundw
                      case rel => exact ⟨i + 1, m, lg, lcap, by omega, by go_num, rfl, HLS⟩
                      case measure => simp [intOf]; omega
                | false =>
                  refine lin_now 5 (.bool true) (some 94) (by kernel_rfl) (by kernel_rfl) (by kernel_rfl) ?_
                  refine lin_now 6 (.bool true) (some 95) (by kernel_rfl) (by kernel_rfl) (by kernel_rfl) ?_
                  refine lin_now 7 (.bool true) (some 88) (by kernel_rfl) (by kernel_rfl) (by kernel_rfl) ?_
                  refine lin_done 8 (by kernel_rfl) ?_
                  generalize hact : Act.put _ (some 88) _ = act
                  simp only [Act.put, List.setIfInBounds_toArray, List.set_cons_succ, List.set_cons_zero] at hact
                  subst hact
                  go_upto_region 29 with (fail)
                  refine lin_begin (opsOf Tryz.f3 29) (by kernel_rfl) ?_
                  refine lin_now 0 (.pointer (some ⟨vb, 0, none⟩)) (some 117) (by kernel_rfl) (by kernel_rfl) (by kernel_rfl) ?_
                  refine lin_now 1 (.agg (ints .u8 k).toArray) (some 118) (by kernel_rfl) (by kernel_rfl) (exec_load_mid 34 (.tmp 10) (by kernel_rfl) q 0 (by kernel_rfl) (ints .u8 k) _ KC.out.whole digUnder rfl KS.out) ?_
                  refine lin_now 2 (.slice oa pn oc) (some 119) (by kernel_rfl) (by kernel_rfl) (by kernel_rfl) ?_
                  refine lin_call 3 14 #[.pointer (some ⟨vb, 0, none⟩), .agg (ints .u8 k).toArray, .slice oa pn oc] (some 120) _ (by kernel_rfl) (by kernel_rfl) (by kernel_rfl) (vse_put VC.out HK1.out KB.out (by omega) _ GK.out UXC.out ON.out PBY.out) ?_
                  rintro e wp ⟨nn, T', rfl, hst, hcase⟩
                  have key : nn = 13 ∧ VSE (O ++ [lg]) B W1 d sz vb 1 (4096 * i + 4096) (es) 0 true (-1) T' wp := by
                    rcases hcase with ⟨h1, _⟩ | ⟨_, ⟨o, h1, h2, h3⟩ | ⟨h1, _⟩⟩
                    · exact absurd h1 (by rw [hpn.out]; omega)
                    · rw [HVAL.out] at h1
                      obtain rfl := Option.some.inj h1
                      rw [hbb.out] at h2
                      exact ⟨h2, h3⟩
                    · rw [HVAL.out] at h1; cases h1
                  obtain ⟨rfl, hvp⟩ := key
                  have VD := Lib.hid hvp
                  have LD : Hid (OwnW [] W1 wp B (.slice (some ⟨lg, 0, none⟩) m lcap) (es)) := LC.out.step hst (fun g hg => by obtain rfl : lg = g := (by simpa [Value.ownBlock] using hg); exact (VC.out.el lg (by simp)).2.2)
                  have OBD : Hid (OwnB6 O pn oa wp) := OBC.out.step hst (fun x hx => (VC.out.el x (List.mem_append_left _ hx)).2.2)
                  refine ⟨_, rfl, ?_⟩
                  refine lin_now 4 (.int .i64 (13)) (some 121) (by kernel_rfl) (by kernel_rfl) (by kernel_rfl) ?_
                  refine lin_now 5 (.bool false) (some 122) (by kernel_rfl) (by kernel_rfl) (by kernel_rfl) ?_
                  refine lin_done 6 (by kernel_rfl) ?_
                  clear hvp hst hcase VC LC OBC UXC KC
                  generalize hact : Act.put _ (some 122) _ = act
                  simp only [Act.put, List.setIfInBounds_toArray, List.set_cons_succ, List.set_cons_zero] at hact
                  subst hact
                  go_wp2
                  go_loopw [17] (fun jv wj => ∃ j : Nat, j ≤ pn ∧ jv = .int .i64 (j : Int) ∧ Hid (VSE (O ++ [lg]) B W1 d sz vb 1 (4096 * i + 4096) (es) 0 true (-1) T' wj) ∧ Hid (OwnW [] W1 wj B (.slice (some ⟨lg, 0, none⟩) m lcap) (es)) ∧ Hid (OwnB6 O pn oa wj)) (fun jv _ => pn - (intOf jv).toNat)
                  case atStart => exact ⟨0, Nat.zero_le _, rfl, VD, LD, OBD⟩
                  case round =>
                    obtain ⟨j, hj, rfl, VE, LE, OBE⟩ := hrel
                    clear VD LD OBD
                    by_cases hjl : j < pn
                    · have j1 : (j : Int) < (pn : Int) := by omega
                      have j0 : (0 : Int) ≤ (j : Int) := by omega
                      obtain ⟨ow, cur, rfl, hO, hBk, hxs⟩ := OBE.out (by omega)
                      obtain ⟨x, hx⟩ := hxs j hjl
                      have c1 := hBk.cell hx
                      have f1 := hBk.free j
                      have hu : Upd ow wr (wr.setCell ⟨ow, j, none⟩ (.int .u8 (IntKind.u8.wrap (x + 1)))) := (Upd.refl ow wr).setCell j (.int .u8 (IntKind.u8.wrap (x + 1)))
                      have hs := Step.of_upd (F := O ++ [lg]) hu (List.mem_append_left _ hO)
                      have VF := Lib.hid (VE.out.other hs)
                      have OBF := Lib.hid (OwnB6.set hO hBk hxs (j := j) (IntKind.u8.wrap (x + 1)))
                      have LF : Hid (OwnW [] W1 (wr.setCell ⟨ow, j, none⟩ (.int .u8 (IntKind.u8.wrap (x + 1)))) B (.slice (some ⟨lg, 0, none⟩) m lcap) (es)) := by
                        obtain ⟨vs, h1, h2⟩ := LE.out
                        exact ⟨vs, own_upd h1 hu (fun g hg => by obtain rfl : lg = g := (by simpa [Value.ownBlock] using hg); exact fun e => OLG1.out ow hO e.symm), h2⟩
                      clear hu hs hBk hxs hx VE LE OBE
                      go_wp2
                      exact ⟨⟨j + 1, by omega, by go_num, VF, LF, OBF⟩, by simp [intOf]; omega⟩
                    · have j1 : ¬ (j : Int) < (pn : Int) := by omega
                      have GDE := Lib.hid VE.out.vs.gd
                      clear OBE
                      go_upto_region 35 with (fail)
                      refine lin_begin (opsOf Tryz.f3 35) (by kernel_rfl) ?_
                      refine lin_now 0 (.pointer (some ⟨vb, 0, none⟩)) (some 135) (by kernel_rfl) (by kernel_rfl) (by kernel_rfl) ?_
                      refine lin_call 1 16 #[.pointer (some ⟨vb, 0, none⟩)] (some 136) _ (by kernel_rfl) (by kernel_rfl) (by kernel_rfl) (vs_entries VE.out.vs) ?_
                      rintro e wf ⟨mv, rfl, hmo, hmb, -⟩
                      obtain ⟨ma, mc, emv, -, -⟩ := hmo.slice
                      rw [HES1.out] at emv
                      subst emv
                      have ME : EntsOff [] wf (.slice ma m mc) (es) := hmo.off (fun k hk => by simp at hk)
                      have LEE : EntsOff [] wf (.slice (some ⟨lg, 0, none⟩) m lcap) (es) := (LE.out.in (by rw [hB.out]; exact VE.out.vs.be.2.1)).below hmb
                      have VG := VE.out.below hmb
                      have LG : OwnW [] W1 wf B (.slice (some ⟨lg, 0, none⟩) m lcap) (es) := LE.out.step (F := []) (F' := []) (Step.of_below hmb (Nat.le_refl _)) (fun g _ => by simp)
                      refine ⟨_, rfl, ?_⟩
                      refine lin_now 2 (.slice (some ⟨lg, 0, none⟩) m lcap) (some 137) (by kernel_rfl) (by kernel_rfl) (by kernel_rfl) ?_
                      refine lin_call 3 15 #[.slice ma m mc, .slice (some ⟨lg, 0, none⟩) m lcap] (some 138) _ (by kernel_rfl) (by kernel_rfl) (by kernel_rfl) (same_walk _ _ (es) _ ME LEE (fun e he => ⟨(GDE.out.1.g e he).1, (GDE.out.1.g e he).2.1⟩) (by rw [HES1.out]; omega)) ?_
                      rintro e wg ⟨rfl, nd2, rfl⟩
                      have VH := Lib.hid (VG.below (below_drewN wf nd2))
                      have LH : Hid (OwnW [] W1 (wf.drewN nd2) B (.slice (some ⟨lg, 0, none⟩) m lcap) (es)) := LG.step (F := []) (F' := []) (Step.of_below (below_drewN wf nd2) (Nat.le_refl _)) (fun g _ => by simp)
                      refine ⟨_, rfl, ?_⟩
                      refine lin_now 4 (.bool false) (some 139) (by kernel_rfl) (by kernel_rfl) (by kernel_rfl) ?_
                      refine lin_now 5 (.bool false) (some 140) (by kernel_rfl) (by kernel_rfl) (by kernel_rfl) ?_
                      refine lin_now 6 (.pointer (some ⟨vb, 0, none⟩)) (some 141) (by kernel_rfl) (by kernel_rfl) (by kernel_rfl) ?_
                      refine lin_call 7 17 #[.pointer (some ⟨vb, 0, none⟩)] (some 142) _ (by kernel_rfl) (by kernel_rfl) (by kernel_rfl) (vs_len VH.out.vs) ?_
                      rintro e wh ⟨rfl, rfl⟩
                      rw [HES1.out]
                      refine ⟨_, rfl, ?_⟩
                      refine lin_now 8 (.slice (some ⟨lg, 0, none⟩) m lcap) (some 143) (by kernel_rfl) (by kernel_rfl) (by kernel_rfl) ?_
                      refine lin_now 9 (.int .i64 ((m : Nat) : Int)) (some 144) (by kernel_rfl) (by kernel_rfl) (by kernel_rfl) ?_
                      refine lin_now 10 (.bool (((m : Nat) : Int) != ((m : Nat) : Int))) (some 145) (by kernel_rfl) (by kernel_rfl) (by kernel_rfl) ?_
                      rw [show (((m : Nat) : Int) != ((m : Nat) : Int)) = false by simp]
                      refine lin_now 11 (.bool false) (some 146) (by kernel_rfl) (by kernel_rfl) (by kernel_rfl) ?_
                      refine lin_now 12 (.bool false) (some 147) (by kernel_rfl) (by kernel_rfl) (by kernel_rfl) ?_
                      refine lin_now 13 (.pointer (some ⟨vb, 0, none⟩)) (some 148) (by kernel_rfl) (by kernel_rfl) (by kernel_rfl) ?_
                      refine lin_call 14 18 #[.pointer (some ⟨vb, 0, none⟩)] (some 149) _ (by kernel_rfl) (by kernel_rfl) (by kernel_rfl) (vs_sound VH.out.vs) ?_
                      rintro e wh ⟨rfl, rfl⟩
                      refine ⟨_, rfl, ?_⟩
                      refine lin_now 15 (.bool false) (some 150) (by kernel_rfl) (by kernel_rfl) (by kernel_rfl) ?_
                      refine lin_now 16 (.bool false) (some 151) (by kernel_rfl) (by kernel_rfl) (by kernel_rfl) ?_
                      refine lin_done 17 (by kernel_rfl) ?_
                      have HLS : Hid (PuAt B W1 d sz vb (i + 1) (m) lg lcap (wf.drewN nd2)) := ⟨es, T', HES1.out, by omega, VH.out.sub (fun x hx => List.mem_append_right _ hx), LH.out⟩
                      generalize wf.drewN nd2 = wz at HLS ⊢
                      clear ME LEE VG LG VH LH VE LE hmo hmb
                      generalize hact : Act.put _ (some 151) _ = act
                      simp only [Act.put, List.setIfInBounds_toArray, List.set_cons_succ, List.set_cons_zero] at hact
                      subst hact
                      go_wp2
                      go_roundw
                      case rel => exact ⟨i + 1, m, lg, lcap, by omega, by go_num, rfl, HLS⟩
                      case measure => simp [intOf]; omega
          · have r1 : ¬ (i : Int) < (n : Int) := by omega
            obtain ⟨es, T, hes, hmi, hvs, how⟩ := hls.out
            have V := Lib.hid hvs
            have L := Lib.hid how
            have BZ : Hid (Below B0 w wr) := BE1.out.trans (hvs.vs.be.2.1.mono BB.out)
            have GD := Lib.hid hvs.vs.gd
            obtain ⟨ct, hct⟩ : ∃ f : Nat, Hid (cntE es = f) := ⟨_, rfl⟩
            have CT : 1 + ct ≤ sz / 2 := by rw [← hct.out]; exact GD.out.1.fit
            clear hvs how hls
            go_wp2_with fail
            refine (vs_free V.out.vs).mono ?_
            rintro e w8 ⟨rfl, hb8⟩
            rw [hct.out]
            have L8 : Hid (EntsOff [] w8 (.slice (some ⟨lg, 0, none⟩) m lcap) es) := (L.out.in (by rw [hB.out]; exact V.out.vs.be.2.1)).below hb8
            have BZ8 : Hid (Below B0 w w8) := BZ.out.trans (hb8.mono (by have := BZ.out.size; have := hB0.out; omega))
            go_wp2_with fail
            refine (r6need_walk _ es _ L8.out (fun e he => ⟨(GD.out.1.g e he).1, (GD.out.1.g e he).2.1⟩) (by have := GD.out.2.1; have := GD.out.2.2; have := hct.out; omega) (by rw [hct.out]; omega)).mono ?_
            rintro e w9 ⟨rfl, rfl⟩
            rw [hct.out]
            have FE : Hid ((((sz / 2 - (1 + ct) : Nat) : Int) == (sz : Int) / 2 - 1 - (ct : Int)) = true) := by rw [Hid, beq_iff_eq]; omega
            go_wp2
            go_ret
            exact ⟨by rw [FE.out]; rfl, BZ8.out⟩
end Go.Proofs.YtngpmilojfbpmaaGreatDoor
