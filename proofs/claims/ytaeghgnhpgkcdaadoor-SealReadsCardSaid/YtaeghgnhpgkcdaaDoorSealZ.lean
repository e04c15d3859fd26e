/- The reference of layer 4: Unpack. -/
import Derived.Test.YtaeghgnhpgkcdaaDoorSealY
namespace Go.Proofs.YtaeghgnhpgkcdaaDoor
open Go Go.RowKit
set_option maxRecDepth 100000

/-- What the reference gathers of the first k sectors. -/
def dlK (l : List Int) : Nat → List Int
  | 0 => []
  | k + 1 => dlK l k ++ dataQ (getB l k)
theorem dataQ_le {b : List Int} : (dataQ b).length ≤ 46 := by
  unfold dataQ
  split
  · rename_i hw
    unfold dataP
    rw [List.length_take]
    have := hw.1
    omega
  · simp
theorem dlK_le (l : List Int) : ∀ k, (dlK l k).length ≤ 46 * k
  | 0 => by simp [dlK]
  | k + 1 => by
    have h1 := dlK_le l k
    have h2 := dataQ_le (b := getB l k)
    rw [dlK, List.length_append]
    omega
theorem first_two {l : List Int} (h : 2 ≤ (dataQ (getB l 0)).length) : (dataQ (getB l 0)).take 2 = (l.drop 10).take 2 := by
  unfold dataQ at h ⊢
  split at h
  · rename_i hw
    rw [if_pos hw]
    unfold dataP at h ⊢
    rw [List.length_take] at h
    rw [List.take_take, show min 2 (cntP (getB l 0)).toNat = 2 by omega, getB_zero, List.take_take]
    rfl
  · simp at h
theorem unp_sec {gen num : Int} {l : List Int} {n : Nat} (h : unpOk gen num l n) {i : Nat} (hi : i < needN (sizeP l)) (hl : l.length = 64 * n) : getB l i = sectorP (markP gen.toNat (num.toNat + i)) (cutP (recB (recP l)) i) := by
  obtain ⟨h1, h2, h3, h4, h5⟩ := h
  have h6 := recP_length hl h3
  have e : getB l i = getB (l.take (64 * needN (sizeP l))) i := by
    unfold getB
    rw [List.drop_take, List.take_take, show min 64 (64 * needN (sizeP l) - 64 * i) = 64 by omega]
  rw [e, ← h5, packF_get _ _ _ (by rw [h6]; exact hi)]
theorem unp_data {gen num : Int} {l : List Int} {n : Nat} (h : unpOk gen num l n) {i : Nat} (hi : i < needN (sizeP l)) (hl : l.length = 64 * n) : dataQ (getB l i) = cutP (recB (recP l)) i := by
  rw [unp_sec h hi hl]
  unfold dataQ dataP
  rw [if_pos (sectorP_whole (markP_length _ _) (cutP_le _ _)), sectorP_cnt (markP_length _ _) (cutP_le _ _), Int.toNat_natCast, sectorP_data (markP_length _ _) _ rfl]
theorem unp_all {gen num : Int} {l : List Int} {n : Nat} (h : unpOk gen num l n) (hl : l.length = 64 * n) : ∀ k, k ≤ needN (sizeP l) → dlK l k = (recB (recP l)).take (46 * k)
  | 0, _ => by rw [dlK, Nat.mul_zero, List.take_zero]
  | k + 1, hk => by rw [dlK, unp_all h hl k (by omega), unp_data h (by omega) hl, cutP, ← List.take_add, show 46 * k + 46 = 46 * (k + 1) by omega]
theorem unp_whole {gen num : Int} {l : List Int} {n : Nat} (h : unpOk gen num l n) (hl : l.length = 64 * n) : dlK l (needN (sizeP l)) = recB (recP l) := by
  have h6 := recP_length hl h.2.2.1
  rw [unp_all h hl _ (Nat.le_refl _), List.take_of_length_le (by rw [recB_length, h6]; unfold needN; omega)]
theorem rec_mid (rec : List Int) (n : Nat) (hn : rec.length = n) : ((recB rec).drop 2).take n = rec := by
  unfold recB
  rw [List.append_assoc, List.drop_append_of_le_length (by rw [beB_length]; omega), List.drop_eq_nil_of_le (by rw [beB_length]; omega), List.nil_append, ← hn, List.take_left]
theorem unp_found {gen num : Int} {l rec : List Int} {n k : Nat} (hl : l.length = 64 * n) (h1 : 1 ≤ n) (hs : rec.length = sizeP l) (h2 : sizeP l ≤ 2000) (hk : needN (sizeP l) = k) (h3 : k ≤ n) (hok : okPack gen num (sizeP l)) (h : ∀ j, j < k → getB (packF gen.toNat num.toNat rec) j = getB l j) : unpOk gen num l n := by
  subst hk
  have hr : recP l = rec := rec_pack (gen := gen.toNat) (num := num.toNat) (by omega) (fun i hi => (h i (by rw [← hs]; exact hi)).symm)
  refine ⟨h1, h2, h3, hok, ?_⟩
  rw [hr]
  refine take_getB (n := needN (sizeP l)) (by rw [packF_length, hs]) (by rw [List.length_take]; omega) (fun j hj => ?_)
  rw [h j hj]
  unfold getB
  rw [List.drop_take, List.take_take, show min 64 (64 * needN (sizeP l) - 64 * j) = 64 by omega]
set_option maxHeartbeats 8000000 in
theorem rlunpack_ok (gen num : Int) (v : Value) (n : Nat) (l : List Int) (w : World) (h : BlksIn w v n l) (hby : isBytes l) (hn : n ≤ 1000000000) (hun : unpOk gen num l n) :
    Calls Tryd.prog 22 #[v, .int .i64 gen, .int .i64 num] w (UnpPost (recP l) (needN (sizeP l)) w) := by
  have h1 : 1 ≤ n := hun.1
  have hl0 := h
  have HUN := Lib.hid hun
  have HS2 : Hid (sizeP l ≤ 2000) := hun.2.1
  obtain ⟨pb, po, c, rfl, hc, hb, hr, hl⟩ := h.at h1
  have HR := Lib.hid hr
  have HL := Lib.hid hl
  have HBY := Lib.hid hby
  obtain ⟨x0, hx0⟩ : ∃ x, Hid (getB l 0 = x) := ⟨_, rfl⟩
  have GX0 : Hid (x0.length = 64) := by unfold Hid; rw [← hx0.out]; exact getB_length hl (by omega)
  have BX0 : Hid (isBytes x0) := by unfold Hid; rw [← hx0.out]; exact bytes_take (bytes_drop hby _) _
  have IX0 : Hid ((Tryd.prog.info? 37).map (·.size) = some (ints .u8 x0).length) := infoBlk x0 GX0.out
  have RX0 : Hid (w.rangeAt pb (po + 64 * 0) (ints .u8 x0)) := by unfold Hid; rw [← hx0.out]; exact getB_sub hr
  have q2 : ((n : Int) == 0) = false := by simpa using (show ¬ n = 0 by omega)
  obtain ⟨sz, hsz⟩ : ∃ s, Hid (sizeP l = s) := ⟨_, rfl⟩
  have HNB : Hid (numB ((l.drop 10).take 2) = (sz : Int)) := by unfold Hid; rw [← hsz.out]; exact sizeP_int hby
  obtain ⟨B, hB⟩ : ∃ B, Hid (w.heap.size = B) := ⟨_, rfl⟩
  have HPB : Hid (pb < B) := by unfold Hid; rw [← hB.out]; exact hb
  have sz2 : sz ≤ 2000 := by rw [← hsz.out]; exact HS2.out
  have HD0 : Hid (34 ≤ (dataQ x0).length) := by
    unfold Hid
    rw [← hx0.out, unp_data hun (needN_pos _) hl, cutP_length, recB_length]
    omega
  have HWH : Hid (dlK l (needN (sizeP l)) = recB (recP l)) := unp_whole hun hl
  have HRL : Hid ((recP l).length = sz) := by unfold Hid; rw [← hsz.out]; exact recP_length hl hun.2.2.1
  have HOKP : Hid (okPack gen num sz) := by unfold Hid; rw [← hsz.out]; exact hun.2.2.2.1
  have HKN0 : Hid (needN sz ≤ n) := by unfold Hid; rw [← hsz.out]; exact hun.2.2.1
  rw [hsz.out] at HWH ⊢
  have HSEC : Hid (∀ j, j < needN sz → getB (packF gen.toNat num.toNat (recP l)) j = getB l j) := fun j hj => by rw [packF_get _ _ _ (by rw [HRL.out]; exact hj), unp_sec hun (by rw [hsz.out]; exact hj) hl]
  unfold UnpPost
  rw [hB.out]
  clear hun hl0
  clear h hb hr hl hby
  go_enter Tryd.func22, Tryd.ntmps22
  go_upto_region 3 with (fail)
  refine lin_begin (opsOf Tryd.f22 3) (by kernel_rfl) ?_
  refine lin_now 0 (.slice (some ⟨pb, po, none⟩) n c) (some 21) (by kernel_rfl) (by kernel_rfl) (by kernel_rfl) ?_
  refine lin_now 1 (.pointer (some ⟨pb, po + 64 * 0, none⟩)) (some 22) (by kernel_rfl) (by kernel_rfl) (exec_indexAt 23 (.tmp 21) (.const (.int .i64 ((0 : Nat) : Int))) (by kernel_rfl) _ _ _ (by kernel_rfl) (by kernel_rfl) (run_at_block pb po n c 0 (by omega) w)) ?_
  refine lin_now 2 (.agg (ints .u8 x0).toArray) (some 23) (by kernel_rfl) (by kernel_rfl) (exec_load_mid 37 (.tmp 22) (by kernel_rfl) pb (po + 64 * 0) (by kernel_rfl) (ints .u8 x0) _ RX0.out Tryd.underlying37 rfl IX0.out) ?_
  refine lin_call 3 21 #[.agg (ints .u8 x0).toArray] (some 24) _ (by kernel_rfl) (by kernel_rfl) (by kernel_rfl) (rldata_any x0 GX0.out BX0.out _) ?_
  rintro e w1 ⟨v1, rfl, hv1, hn1, hb1⟩
  refine ⟨_, rfl, ?_⟩
  refine lin_now 4 (v1) (some 9) (by kernel_rfl) (by kernel_rfl) (by kernel_rfl) ?_
  refine lin_done 5 (by kernel_rfl) ?_
  have BE1 : Hid (Below B w w1) := by rw [hB.out] at hb1; exact hb1
  have S1 : Hid (B ≤ w1.heap.size) := by unfold Hid; have := hb1.size; have := hB.out; omega
  have V1 := Lib.hid hv1
  obtain ⟨dl, hdl⟩ : ∃ dl, Hid ((dataQ x0).length = dl) := ⟨_, rfl⟩
  have dl46 : dl ≤ 46 := by rw [← hdl.out]; exact dataQ_le
  obtain ⟨da, dc, e1, -⟩ := id hv1
  rw [hdl.out] at e1
  subst e1
  clear hv1 hn1 hb1 RX0
  generalize hact : Act.put _ (some 9) _ = act
  simp only [Act.put, List.setIfInBounds_toArray, List.set_cons_succ, List.set_cons_zero] at hact
  subst hact
  have dl2 : 2 ≤ dl := by have := HD0.out; rw [hdl.out] at this; omega
  have q3 : ¬ ((dl : Int) < 2) := by omega
  have F2 : Hid ((dataQ x0).take 2 = (l.drop 10).take 2) := by unfold Hid; rw [← hx0.out]; exact first_two (by rw [hx0.out, hdl.out]; exact dl2)
  obtain ⟨p1, o1, rfl, dcb, hp1, hr1⟩ : ∃ p1 o1, da = some ⟨p1, o1, none⟩ ∧ dl ≤ dc ∧ p1 < w1.heap.size ∧ w1.rangeAt p1 o1 (ints .u8 (dataQ x0)) := by
    obtain ⟨a', c', e', hc', hp'⟩ := V1.out
    rw [hdl.out] at e' hc' hp'
    obtain ⟨rfl, -, rfl⟩ := Value.slice.inj e'
    obtain ⟨p1, o1, h4, h5, h6⟩ := hp' (by omega)
    exact ⟨p1, o1, h4, hc', h5, h6⟩
  have N2 : Hid (BytesIn w1 (.slice (some ⟨p1, o1, none⟩) 2 dc) ((l.drop 10).take 2)) := by
    have hl' : ((l.drop 10).take 2).length = 2 := by rw [← F2.out, List.length_take, hdl.out]; omega
    refine ⟨_, dc, by rw [hl'], by rw [hl']; omega, fun _ => ⟨p1, o1, rfl, hp1, ?_⟩⟩
    have h := range_cut hr1 0 2
    rw [List.drop_zero, Nat.add_zero, F2.out] at h
    exact h
  have L2 : Hid (((l.drop 10).take 2).length = 2) := by unfold Hid; rw [← F2.out, List.length_take, hdl.out]; omega
  have HS6 : Hid ((Instr.sliceAt 22 (.slice (some ⟨p1, o1, none⟩) dl dc) none (some (.int .i64 ((2 : Nat) : Int))) none).run Tryd.prog w1 = .ok (.slice (some ⟨p1, o1, none⟩) 2 dc) w1) := run_bs_head p1 o1 dl dc 2 (by omega) w1
  clear V1 hp1 hr1
  go_upto_region 6 with (fail)
  refine lin_begin (opsOf Tryd.f22 6) (by kernel_rfl) ?_
  refine lin_now 0 (.slice (some ⟨p1, o1, none⟩) dl dc) (some 28) (by kernel_rfl) (by kernel_rfl) (by kernel_rfl) ?_
  refine lin_now 1 (.slice (some ⟨p1, o1, none⟩) 2 dc) (some 29) (by kernel_rfl) (by kernel_rfl) (exec_of (Instr.sliceAt 22 (.slice (some ⟨p1, o1, none⟩) dl dc) none (some (.int .i64 ((2 : Nat) : Int))) none) _ (by kernel_rfl) HS6.out) ?_
  refine lin_call 2 36 #[.slice (some ⟨p1, o1, none⟩) 2 dc] (some 30) _ (by kernel_rfl) (by kernel_rfl) (by kernel_rfl) (rlnumber_walk _ 2 dc ((l.drop 10).take 2) _ N2.out L2.out (bytes_take (bytes_drop HBY.out 10) 2) (by omega)) ?_
  rintro e w2 ⟨rfl, rfl⟩
  refine ⟨_, rfl, ?_⟩
  rw [HNB.out]
  refine lin_now 3 (.int .i64 (sz : Int)) (some 10) (by kernel_rfl) (by kernel_rfl) (by kernel_rfl) ?_
  refine lin_done 4 (by kernel_rfl) ?_
  clear N2 HS6
  generalize hact : Act.put _ (some 10) _ = act
  simp only [Act.put, List.setIfInBounds_toArray, List.set_cons_succ, List.set_cons_zero] at hact
  subst hact
  go_wp2_with fail
  refine (rlneed_walk _ _).mono ?_
  rintro e w2 ⟨rfl, rfl⟩
  obtain ⟨k, hk⟩ : ∃ k, Hid (needN sz = k) := ⟨_, rfl⟩
  rw [needI_nat _ sz2, hk.out]
  have k1 : 1 ≤ k := by have := needN_pos sz; rw [hk.out] at this; exact this
  have k45 : k ≤ 45 := by have := needN_le sz sz2; rw [hk.out] at this; exact this
  have q5 : ((k : Int) == 0) = false := by simpa using (show ¬ k = 0 by omega)
  have HKN : Hid (46 * k < sz + 34 + 46 ∧ sz + 34 ≤ 46 * k) := by unfold Hid; rw [← hk.out]; unfold needN; omega
  have kn : k ≤ n := by rw [← hk.out]; exact HKN0.out
  have q6 : ¬ ((n : Int) < (k : Int)) := by omega
  rw [hk.out] at HWH HSEC
  obtain ⟨q, hq⟩ : ∃ q, Hid (w1.heap.size = q) := ⟨_, rfl⟩
  go_upto_region 10 with (fail)
  refine lin_begin (opsOf Tryd.f22 10) (by kernel_rfl) ?_
  refine lin_newrow 0 5 [] q 0 (some 41) (by kernel_rfl) (by kernel_rfl) hq (by kernel_rfl) ?_
  intro w2 b2 be2 hs2
  refine lin_now 1 (.slice (some ⟨q, 0, none⟩) 0 0) (some 12) (by kernel_rfl) (by kernel_rfl) (by kernel_rfl) ?_
  refine lin_done 2 (by kernel_rfl) ?_
  have O2 : Hid (w2.ownsRow B 5 1 (.slice (some ⟨q, 0, none⟩) 0 0) (dlK l 0).length (ints .u8 (dlK l 0))) := owns_blk (xs := []) (rs := []) b2 rfl (by have := S1.out; have := hq.out; omega) (by omega)
  have BE2 : Hid (Below B w w2) := BE1.out.trans (be2.mono (by have := S1.out; have := hq.out; omega))
  clear b2 be2 hs2 BE1 S1 hq
  generalize hact : Act.put _ (some 12) _ = act
  simp only [Act.put, List.setIfInBounds_toArray, List.set_cons_succ, List.set_cons_zero] at hact
  subst hact
  go_wp2
  go_loopw [13, 12] (fun iv av wr => ∃ (i : Nat) (v3 : Value), i ≤ k ∧ iv = .int .i64 (i : Int) ∧ v3 = av ∧ wr.ownsRow B 5 1 v3 (dlK l i).length (ints .u8 (dlK l i)) ∧ Below B w wr) (fun iv _ _ => k - (intOf iv).toNat)
  case atStart => exact ⟨0, _, Nat.zero_le _, rfl, rfl, O2.out, BE2.out⟩
  case round =>
    obtain ⟨i, v3, hi, rfl, rfl, ho, hbe⟩ := hrel
    have OW := Lib.hid ho
    have BE := Lib.hid hbe
    have SZ : Hid (B ≤ wr.heap.size) := by unfold Hid; have := hbe.size; have := hB.out; omega
    clear ho hbe O2 BE2
    by_cases hlt : i < k
    · have r1 : (i : Int) < (k : Int) := by omega
      obtain ⟨x, hx⟩ : ∃ x, Hid (getB l i = x) := ⟨_, rfl⟩
      have GX : Hid (x.length = 64) := by unfold Hid; rw [← hx.out]; exact getB_length HL.out (by omega)
      have BX : Hid (isBytes x) := by unfold Hid; rw [← hx.out]; exact bytes_take (bytes_drop HBY.out _) _
      have IX : Hid ((Tryd.prog.info? 37).map (·.size) = some (ints .u8 x).length) := infoBlk x GX.out
      have RX : Hid (wr.rangeAt pb (po + 64 * i) (ints .u8 x)) := fun j v hv => by rw [BE.out.cell (p := ⟨pb, po + 64 * i + j, none⟩) HPB.out]; rw [← hx.out] at hv; exact getB_sub HR.out j v hv
      go_upto_region 14 with (fail)
      refine lin_begin (opsOf Tryd.f22 14) (by kernel_rfl) ?_
      refine lin_now 0 (v3) (some 47) (by kernel_rfl) (by kernel_rfl) (by kernel_rfl) ?_
      refine lin_now 1 (.slice (some ⟨pb, po, none⟩) n c) (some 48) (by kernel_rfl) (by kernel_rfl) (by kernel_rfl) ?_
      refine lin_now 2 (.int .i64 (i : Int)) (some 49) (by kernel_rfl) (by kernel_rfl) (by kernel_rfl) ?_
      refine lin_now 3 (.pointer (some ⟨pb, po + 64 * i, none⟩)) (some 50) (by kernel_rfl) (by kernel_rfl) (exec_indexAt 23 (.tmp 48) (.tmp 49) (by kernel_rfl) _ _ _ (by kernel_rfl) (by kernel_rfl) (run_at_block pb po n c i (by omega) wr)) ?_
      refine lin_now 4 (.agg (ints .u8 x).toArray) (some 51) (by kernel_rfl) (by kernel_rfl) (exec_load_mid 37 (.tmp 50) (by kernel_rfl) pb (po + 64 * i) (by kernel_rfl) (ints .u8 x) _ RX.out Tryd.underlying37 rfl IX.out) ?_
      refine lin_call 5 21 #[.agg (ints .u8 x).toArray] (some 52) _ (by kernel_rfl) (by kernel_rfl) (by kernel_rfl) (rldata_any x GX.out BX.out _) ?_
      rintro e w4 ⟨v4, rfl, hv4, hn4, hb4⟩
      refine ⟨_, rfl, ?_⟩
      refine lin_appendb 6 (some 53) (by kernel_rfl) (by kernel_rfl) (by kernel_rfl) (.tmp 47) (.tmp 52) (by kernel_rfl) B v3 (dlK l i) (by kernel_rfl) (own_below OW.out hb4) v4 (dataQ x) (by kernel_rfl) hv4 hn4 (by have := dlK_le l i; have := dataQ_le (b := x); omega) (Nat.le_trans SZ.out hb4.size) ?_
      intro v5 w5 ho5 hg5
      refine lin_now 7 (v5) (some 12) (by kernel_rfl) (by kernel_rfl) (by kernel_rfl) ?_
      refine lin_done 8 (by kernel_rfl) ?_
      have BE5 : Hid (Below B w w5) := (BE.out.trans (hb4.mono SZ.out)).grown hg5 (Nat.le_trans SZ.out hb4.size) (fun k hk => owns_row OW.out k hk)
      have O5 : Hid (w5.ownsRow B 5 1 v5 (dlK l (i + 1)).length (ints .u8 (dlK l (i + 1)))) := by unfold Hid; rw [dlK, hx.out]; exact ho5
      clear BE OW SZ hv4 hn4 hb4 ho5 hg5 RX
      generalize hact : Act.put _ (some 12) _ = act
      simp only [Act.put, List.setIfInBounds_toArray, List.set_cons_succ, List.set_cons_zero] at hact
      subst hact
      go_wp2
      exact ⟨⟨i + 1, v5, by omega, by go_num, rfl, O5.out, BE5.out⟩, by simp [intOf]; omega⟩
    · have r1 : ¬ (i : Int) < (k : Int) := by omega
      obtain rfl : i = k := by omega
      obtain ⟨al, hal⟩ : ∃ al, Hid ((dlK l i).length = al) := ⟨_, rfl⟩
      have al2 : al ≤ 2070 := by have := dlK_le l i; rw [hal.out] at this; omega
      obtain ⟨aa, ac, e3, -⟩ := id (owns_bytes OW.out)
      rw [hal.out] at e3
      subst e3
      have hal2 : al = sz + 34 := by rw [← hal.out, HWH.out, recB_length, HRL.out]
      have q7 : ((al : Int) != (sz : Int) + 34) = false := by simpa using (show (al : Int) = (sz : Int) + 34 by omega)
      have HAL := Lib.hid hal2
      have al34 : 34 ≤ al := by omega
      have fit : 2 + sz ≤ al := by omega
      clear hal2
      obtain ⟨g1, o1', rfl, hac, hg1, hgr⟩ : ∃ p1 o1, aa = some ⟨p1, o1, none⟩ ∧ al ≤ ac ∧ p1 < wr.heap.size ∧ wr.rangeAt p1 o1 (ints .u8 (dlK l i)) := by
        obtain ⟨a', c', e', hc', hp'⟩ := owns_bytes OW.out
        rw [hal.out] at e' hc' hp'
        obtain ⟨rfl, -, rfl⟩ := Value.slice.inj e'
        obtain ⟨p1, o1, h4, h5, h6⟩ := hp' (by omega)
        exact ⟨p1, o1, h4, hc', h5, h6⟩
      obtain ⟨rc, hrc⟩ : ∃ rc, Hid (((dlK l i).drop 2).take sz = rc) := ⟨_, rfl⟩
      have RCL : Hid (rc.length = sz) := by unfold Hid; rw [← hrc.out, List.length_take, List.length_drop, hal.out]; omega
      have RCI : Hid (BytesIn wr (.slice (some ⟨g1, o1' + 2, none⟩) sz (ac - 2)) rc) := by
        refine ⟨_, ac - 2, by rw [RCL.out], by rw [RCL.out]; omega, fun _ => ⟨g1, o1' + 2, rfl, hg1, ?_⟩⟩
        have h := range_cut hgr 2 sz
        rw [hrc.out] at h
        exact h
      have HS7 : Hid ((Instr.sliceAt 22 (.slice (some ⟨g1, o1', none⟩) al ac) (some (.int .i64 ((2 : Nat) : Int))) (some (.int .i64 ((2 + sz : Nat) : Int))) none).run Tryd.prog wr = .ok (.slice (some ⟨g1, o1' + 2, none⟩) (2 + sz - 2) (ac - 2)) wr) := run_bs_mid g1 o1' al ac 2 (2 + sz) (by omega) (by omega) (by omega) wr
      clear hg1 hgr OW
      go_upto_region 17 with (fail)
      refine lin_begin (opsOf Tryd.f22 17) (by kernel_rfl) ?_
      refine lin_now 0 (.slice (some ⟨g1, o1', none⟩) al ac) (some 59) (by kernel_rfl) (by kernel_rfl) (by kernel_rfl) ?_
      refine lin_now 1 (.int .i64 (sz : Int)) (some 60) (by kernel_rfl) (by kernel_rfl) (by kernel_rfl) ?_
      refine lin_now 2 (.int .i64 (IntKind.i64.wrap (2 + (sz : Int)))) (some 61) (by kernel_rfl) (by kernel_rfl) (by kernel_rfl) ?_
      rw [show IntKind.i64.wrap (2 + (sz : Int)) = ((2 + sz : Nat) : Int) from (IntWalk.i64_in _ (by omega)).trans (by omega)]
      refine lin_now 3 (.slice (some ⟨g1, o1' + 2, none⟩) (2 + sz - 2) (ac - 2)) (some 62) (by kernel_rfl) (by kernel_rfl) (exec_of (Instr.sliceAt 22 (.slice (some ⟨g1, o1', none⟩) al ac) (some (.int .i64 ((2 : Nat) : Int))) (some (.int .i64 ((2 + sz : Nat) : Int))) none) _ (by kernel_rfl) HS7.out) ?_
      rw [show 2 + sz - 2 = sz by omega]
      refine lin_call 4 9 #[.slice (some ⟨g1, o1' + 2, none⟩) sz (ac - 2)] (some 63) _ (by kernel_rfl) (by kernel_rfl) (by kernel_rfl) (copyb_walk _ rc _ RCI.out trivial (by rw [RCL.out]; omega)) ?_
      rintro e w6 ⟨v6, rfl, ho6, hb6⟩
      refine ⟨_, rfl, ?_⟩
      refine lin_now 5 (v6) (some 14) (by kernel_rfl) (by kernel_rfl) (by kernel_rfl) ?_
      refine lin_done 6 (by kernel_rfl) ?_
      have BE6 : Hid (Below B w w6) := BE.out.trans (hb6.mono SZ.out)
      have S6 : Hid (B ≤ w6.heap.size) := Nat.le_trans SZ.out hb6.size
      have V6 := Lib.hid (owns_bytes ho6)
      have N6 := Lib.hid (owns_nilok ho6)
      obtain ⟨ra, rcp, e6, -⟩ := id V6.out
      rw [RCL.out] at e6
      subst e6
      clear ho6 hb6 BE SZ RCI HS7
      generalize hact : Act.put _ (some 14) _ = act
      simp only [Act.put, List.setIfInBounds_toArray, List.set_cons_succ, List.set_cons_zero] at hact
      subst hact
      have hok := HOKP.out
      obtain ⟨g, rfl⟩ := Int.eq_ofNat_of_zero_le (show 0 ≤ gen by have := hok.2.1; omega)
      obtain ⟨m, rfl⟩ := Int.eq_ofNat_of_zero_le (show 0 ≤ num from hok.2.2.2.1)
      have HOK : Hid (okPack (g : Int) (m : Int) rc.length) := by unfold Hid; rw [RCL.out]; exact hok
      clear hok
      go_wp2_with fail
      refine (rlpack_ok g m _ rc _ V6.out N6.out HOK.out).mono ?_
      rintro e w7 ⟨v7, rfl, ho7, hb7⟩
      rw [RCL.out, hk.out] at ho7
      have BE7 : Hid (Below B w w7) := BE6.out.trans (hb7.mono S6.out)
      have V7 := Lib.hid (V6.out.below hb7 (Nat.le_refl _))
      obtain ⟨P, hP⟩ : ∃ P, Hid (packF g m rc = P) := ⟨_, rfl⟩
      rw [hP.out] at ho7
      have PL : Hid (P.length = 64 * i) := ho7.len
      obtain ⟨p7, o7, c7, rfl, -, hpb7, hpr7, -⟩ := ho7.in.at k1
      have RP := Lib.hid hpr7
      have RL : Hid (w7.rangeAt pb po (ints .u8 l)) := fun j v hv => by rw [BE7.out.cell (p := ⟨pb, po + j, none⟩) HPB.out]; exact HR.out j v hv
      have HPS : Hid (∀ j, j < i → getB P j = getB l j) := by
        have e : rc = recP l := by rw [← hrc.out, HWH.out]; exact rec_mid _ sz HRL.out
        have h := HSEC.out
        rw [Int.toNat_natCast, Int.toNat_natCast, ← e, hP.out] at h
        exact h
      have ERC : Hid (rc = recP l) := by unfold Hid; rw [← hrc.out, HWH.out]; exact rec_mid _ sz HRL.out
      clear ho7 hb7 BE6 S6 V6 hpb7 hpr7
      go_wp2
      go_loopw [17] (fun jv wx => ∃ (j d : Nat), j ≤ i ∧ jv = .int .i64 (j : Int) ∧ Hid (wx = w7.drewN d)) (fun jv _ => i - (intOf jv).toNat)
      case atStart => exact ⟨0, 0, Nat.zero_le _, rfl, rfl⟩
      case round =>
        obtain ⟨j, d, hj, rfl, hwx⟩ := hrel
        obtain rfl := hwx.out
        by_cases hjl : j < i
        · have r2 : (j : Int) < (i : Int) := by omega
          obtain ⟨x, hx⟩ : ∃ x, Hid (getB P j = x) := ⟨_, rfl⟩
          obtain ⟨y, hy⟩ : ∃ y, Hid (getB l j = y) := ⟨_, rfl⟩
          have G1 : Hid (x.length = 64) := by unfold Hid; rw [← hx.out]; exact getB_length PL.out hjl
          have G2 : Hid (y.length = 64) := by unfold Hid; rw [← hy.out]; exact getB_length HL.out (by omega)
          have R1 : Hid (w7.rangeAt p7 (o7 + 64 * j) (ints .u8 x)) := by unfold Hid; rw [← hx.out]; exact getB_sub RP.out
          have R2 : Hid (w7.rangeAt pb (po + 64 * j) (ints .u8 y)) := by unfold Hid; rw [← hy.out]; exact getB_sub RL.out
          have IX : Hid ((Tryd.prog.info? 37).map (·.size) = some (ints .u8 x).length) := infoBlk x G1.out
          have IY : Hid ((Tryd.prog.info? 37).map (·.size) = some (ints .u8 y).length) := infoBlk y G2.out
          go_upto_region 24 with (fail)
          refine region_begin (opsOf Tryd.f22 24) (fun w' => ∃ m, w' = w7.drewN m) (by kernel_rfl) (by kernel_rfl) 9 (by kernel_rfl) ?_
          intro Q' hQN hN
          have hS : ∃ m, (w7.drewN d).drew = w7.drewN m := ⟨d + 1, rfl⟩
          refine reg_now 0 (.slice (some ⟨p7, o7, none⟩) i c7) (some 78) hQN hS (by kernel_rfl) (by kernel_rfl) (fun w => by kernel_rfl) ?_
          refine reg_now 1 (.int .i64 (j : Int)) (some 79) hQN hS (by kernel_rfl) (by kernel_rfl) (fun w => by kernel_rfl) ?_
          refine reg_now 2 (.pointer (some ⟨p7, o7 + 64 * j, none⟩)) (some 80) hQN hS (by kernel_rfl) (by kernel_rfl) (fun w' => exec_indexAt 23 (.tmp 78) (.tmp 79) (by kernel_rfl) _ _ _ (by kernel_rfl) (by kernel_rfl) (run_at_block p7 o7 i c7 j hjl w')) ?_
          refine reg_nowIf 3 (.agg (ints .u8 x).toArray) (some 81) hQN hS (by kernel_rfl) (by kernel_rfl) (fun w' hw => by obtain ⟨m, rfl⟩ := hw; exact exec_load_mid 37 (.tmp 80) (by kernel_rfl) p7 (o7 + 64 * j) (by kernel_rfl) (ints .u8 x) _ R1.out Tryd.underlying37 rfl IX.out) ?_
          refine reg_now 4 (.slice (some ⟨pb, po, none⟩) n c) (some 82) hQN hS (by kernel_rfl) (by kernel_rfl) (fun w => by kernel_rfl) ?_
          refine reg_now 5 (.int .i64 (j : Int)) (some 83) hQN hS (by kernel_rfl) (by kernel_rfl) (fun w => by kernel_rfl) ?_
          refine reg_now 6 (.pointer (some ⟨pb, po + 64 * j, none⟩)) (some 84) hQN hS (by kernel_rfl) (by kernel_rfl) (fun w' => exec_indexAt 23 (.tmp 82) (.tmp 83) (by kernel_rfl) _ _ _ (by kernel_rfl) (by kernel_rfl) (run_at_block pb po n c j (by omega) w')) ?_
          refine reg_nowIf 7 (.agg (ints .u8 y).toArray) (some 85) hQN hS (by kernel_rfl) (by kernel_rfl) (fun w' hw => by obtain ⟨m, rfl⟩ := hw; exact exec_load_mid 37 (.tmp 84) (by kernel_rfl) pb (po + 64 * j) (by kernel_rfl) (ints .u8 y) _ R2.out Tryd.underlying37 rfl IY.out) ?_
          refine reg_now 8 (.bool (!decide (x = y))) (some 86) hQN hS (by kernel_rfl) (by kernel_rfl) (fun w' => exec_neq w' (.tmp 81) (.tmp 85) 37 (by kernel_rfl) Tryd.underlying37 Tryd.underlying5 size1Byte eqGuardBlk x y G1.out G2.out (by kernel_rfl) (by kernel_rfl)) ?_
          refine reg_done (by kernel_rfl) (hN _ _ ?_)
          have HD : Hid ((w7.drewN d).drew = w7.drewN (d + 1)) := rfl
          clear hQN hN hS R1 R2 IX IY
          generalize (w7.drewN d).drew = W2 at *
          rw [show (!decide (x = y)) = false by rw [decide_eq_true (by rw [← hx.out, ← hy.out]; exact HPS.out j hjl)]; rfl]
          generalize hact : Act.put _ (some 86) _ = act
          simp only [Act.put, List.setIfInBounds_toArray, List.set_cons_succ, List.set_cons_zero] at hact
          subst hact
          go_wp2
          exact ⟨⟨j + 1, d + 1, by omega, by go_num, HD⟩, by simp [intOf]; omega⟩
        · have r2 : ¬ (j : Int) < (i : Int) := by omega
          have BE8 : Hid (Below B w (w7.drewN d)) := BE7.out.trans ((below_drewN w7 d).mono (by have := BE7.out.size; have := hB.out; omega))
          have V8 : Hid (BytesIn (w7.drewN d) (.slice ra sz rcp) (recP l)) := by unfold Hid; rw [← ERC.out]; exact V7.out.drewN d
          skip
          go_wp2
          go_ret3
          refine ⟨.slice ra sz rcp, ?_, V8.out, N6.out, BE8.out⟩
          rw [hk.out]
          rfl
set_option maxHeartbeats 8000000 in
theorem rlunpack_no (gen num : Int) (v : Value) (n : Nat) (l : List Int) (w : World) (h : BlksIn w v n l) (hby : isBytes l) (hn : n ≤ 1000000000) (hno : ¬ unpOk gen num l n) :
    Calls Tryd.prog 22 #[v, .int .i64 gen, .int .i64 num] w (UnpNo w) := by
  by_cases h0 : n = 0
  · obtain ⟨a, c, rfl, -⟩ := h
    subst h0
    have q2 : (((0 : Nat) : Int) == 0) = true := by decide
    go_enter Tryd.func22, Tryd.ntmps22
    go_wp2
    go_ret3
    exact ⟨rfl, Below.refl _ _⟩
  have h1 : 1 ≤ n := by omega
  clear h0
  obtain ⟨pb, po, c, rfl, hc, hb, hr, hl⟩ := h.at h1
  have HR := Lib.hid hr
  have HL := Lib.hid hl
  have HBY := Lib.hid hby
  obtain ⟨x0, hx0⟩ : ∃ x, Hid (getB l 0 = x) := ⟨_, rfl⟩
  have GX0 : Hid (x0.length = 64) := by unfold Hid; rw [← hx0.out]; exact getB_length hl (by omega)
  have BX0 : Hid (isBytes x0) := by unfold Hid; rw [← hx0.out]; exact bytes_take (bytes_drop hby _) _
  have IX0 : Hid ((Tryd.prog.info? 37).map (·.size) = some (ints .u8 x0).length) := infoBlk x0 GX0.out
  have RX0 : Hid (w.rangeAt pb (po + 64 * 0) (ints .u8 x0)) := by unfold Hid; rw [← hx0.out]; exact getB_sub hr
  have q2 : ((n : Int) == 0) = false := by simpa using (show ¬ n = 0 by omega)
  obtain ⟨sz, hsz⟩ : ∃ s, Hid (sizeP l = s) := ⟨_, rfl⟩
  have HNB : Hid (numB ((l.drop 10).take 2) = (sz : Int)) := by unfold Hid; rw [← hsz.out]; exact sizeP_int hby
  obtain ⟨B, hB⟩ : ∃ B, Hid (w.heap.size = B) := ⟨_, rfl⟩
  have HPB : Hid (pb < B) := by unfold Hid; rw [← hB.out]; exact hb
  have HNO := Lib.hid hno
  unfold UnpNo
  rw [hB.out]
  clear hno
  clear h hb hr hl hby
  go_enter Tryd.func22, Tryd.ntmps22
  go_upto_region 3 with (fail)
  refine lin_begin (opsOf Tryd.f22 3) (by kernel_rfl) ?_
  refine lin_now 0 (.slice (some ⟨pb, po, none⟩) n c) (some 21) (by kernel_rfl) (by kernel_rfl) (by kernel_rfl) ?_
  refine lin_now 1 (.pointer (some ⟨pb, po + 64 * 0, none⟩)) (some 22) (by kernel_rfl) (by kernel_rfl) (exec_indexAt 23 (.tmp 21) (.const (.int .i64 ((0 : Nat) : Int))) (by kernel_rfl) _ _ _ (by kernel_rfl) (by kernel_rfl) (run_at_block pb po n c 0 (by omega) w)) ?_
  refine lin_now 2 (.agg (ints .u8 x0).toArray) (some 23) (by kernel_rfl) (by kernel_rfl) (exec_load_mid 37 (.tmp 22) (by kernel_rfl) pb (po + 64 * 0) (by kernel_rfl) (ints .u8 x0) _ RX0.out Tryd.underlying37 rfl IX0.out) ?_
  refine lin_call 3 21 #[.agg (ints .u8 x0).toArray] (some 24) _ (by kernel_rfl) (by kernel_rfl) (by kernel_rfl) (rldata_any x0 GX0.out BX0.out _) ?_
  rintro e w1 ⟨v1, rfl, hv1, hn1, hb1⟩
  refine ⟨_, rfl, ?_⟩
  refine lin_now 4 (v1) (some 9) (by kernel_rfl) (by kernel_rfl) (by kernel_rfl) ?_
  refine lin_done 5 (by kernel_rfl) ?_
  have BE1 : Hid (Below B w w1) := by rw [hB.out] at hb1; exact hb1
  have S1 : Hid (B ≤ w1.heap.size) := by unfold Hid; have := hb1.size; have := hB.out; omega
  have V1 := Lib.hid hv1
  obtain ⟨dl, hdl⟩ : ∃ dl, Hid ((dataQ x0).length = dl) := ⟨_, rfl⟩
  have dl46 : dl ≤ 46 := by rw [← hdl.out]; exact dataQ_le
  obtain ⟨da, dc, e1, -⟩ := id hv1
  rw [hdl.out] at e1
  subst e1
  clear hv1 hn1 hb1 RX0
  generalize hact : Act.put _ (some 9) _ = act
  simp only [Act.put, List.setIfInBounds_toArray, List.set_cons_succ, List.set_cons_zero] at hact
  subst hact
  by_cases hd2 : dl < 2
  · have q3 : (dl : Int) < 2 := by omega
    go_wp2
    go_ret3
    exact ⟨rfl, BE1.out⟩
  have q3 : ¬ ((dl : Int) < 2) := by omega
  have dl2 : 2 ≤ dl := by omega
  clear hd2
  have F2 : Hid ((dataQ x0).take 2 = (l.drop 10).take 2) := by unfold Hid; rw [← hx0.out]; exact first_two (by rw [hx0.out, hdl.out]; exact dl2)
  obtain ⟨p1, o1, rfl, dcb, hp1, hr1⟩ : ∃ p1 o1, da = some ⟨p1, o1, none⟩ ∧ dl ≤ dc ∧ p1 < w1.heap.size ∧ w1.rangeAt p1 o1 (ints .u8 (dataQ x0)) := by
    obtain ⟨a', c', e', hc', hp'⟩ := V1.out
    rw [hdl.out] at e' hc' hp'
    obtain ⟨rfl, -, rfl⟩ := Value.slice.inj e'
    obtain ⟨p1, o1, h4, h5, h6⟩ := hp' (by omega)
    exact ⟨p1, o1, h4, hc', h5, h6⟩
  have N2 : Hid (BytesIn w1 (.slice (some ⟨p1, o1, none⟩) 2 dc) ((l.drop 10).take 2)) := by
    have hl' : ((l.drop 10).take 2).length = 2 := by rw [← F2.out, List.length_take, hdl.out]; omega
    refine ⟨_, dc, by rw [hl'], by rw [hl']; omega, fun _ => ⟨p1, o1, rfl, hp1, ?_⟩⟩
    have h := range_cut hr1 0 2
    rw [List.drop_zero, Nat.add_zero, F2.out] at h
    exact h
  have L2 : Hid (((l.drop 10).take 2).length = 2) := by unfold Hid; rw [← F2.out, List.length_take, hdl.out]; omega
  have HS6 : Hid ((Instr.sliceAt 22 (.slice (some ⟨p1, o1, none⟩) dl dc) none (some (.int .i64 ((2 : Nat) : Int))) none).run Tryd.prog w1 = .ok (.slice (some ⟨p1, o1, none⟩) 2 dc) w1) := run_bs_head p1 o1 dl dc 2 (by omega) w1
  clear V1 hp1 hr1
  go_upto_region 6 with (fail)
  refine lin_begin (opsOf Tryd.f22 6) (by kernel_rfl) ?_
  refine lin_now 0 (.slice (some ⟨p1, o1, none⟩) dl dc) (some 28) (by kernel_rfl) (by kernel_rfl) (by kernel_rfl) ?_
  refine lin_now 1 (.slice (some ⟨p1, o1, none⟩) 2 dc) (some 29) (by kernel_rfl) (by kernel_rfl) (exec_of (Instr.sliceAt 22 (.slice (some ⟨p1, o1, none⟩) dl dc) none (some (.int .i64 ((2 : Nat) : Int))) none) _ (by kernel_rfl) HS6.out) ?_
  refine lin_call 2 36 #[.slice (some ⟨p1, o1, none⟩) 2 dc] (some 30) _ (by kernel_rfl) (by kernel_rfl) (by kernel_rfl) (rlnumber_walk _ 2 dc ((l.drop 10).take 2) _ N2.out L2.out (bytes_take (bytes_drop HBY.out 10) 2) (by omega)) ?_
  rintro e w2 ⟨rfl, rfl⟩
  refine ⟨_, rfl, ?_⟩
  rw [HNB.out]
  refine lin_now 3 (.int .i64 (sz : Int)) (some 10) (by kernel_rfl) (by kernel_rfl) (by kernel_rfl) ?_
  refine lin_done 4 (by kernel_rfl) ?_
  clear N2 HS6
  generalize hact : Act.put _ (some 10) _ = act
  simp only [Act.put, List.setIfInBounds_toArray, List.set_cons_succ, List.set_cons_zero] at hact
  subst hact
  go_wp2_with fail
  refine (rlneed_walk _ _).mono ?_
  rintro e w2 ⟨rfl, rfl⟩
  by_cases h2000 : 2000 < sz
  · rw [needI_no _ (.inr (by omega))]
    have q4 : ((0 : Int) == 0) = true := by decide
    go_wp2
    go_ret3
    exact ⟨rfl, BE1.out⟩
  have sz2 : sz ≤ 2000 := by omega
  clear h2000
  obtain ⟨k, hk⟩ : ∃ k, Hid (needN sz = k) := ⟨_, rfl⟩
  rw [needI_nat _ sz2, hk.out]
  have k1 : 1 ≤ k := by have := needN_pos sz; rw [hk.out] at this; exact this
  have k45 : k ≤ 45 := by have := needN_le sz sz2; rw [hk.out] at this; exact this
  have q5 : ((k : Int) == 0) = false := by simpa using (show ¬ k = 0 by omega)
  have HKN : Hid (46 * k < sz + 34 + 46 ∧ sz + 34 ≤ 46 * k) := by unfold Hid; rw [← hk.out]; unfold needN; omega
  by_cases hkn : n < k
  · have q6 : (n : Int) < (k : Int) := by omega
    go_wp2
    go_ret3
    exact ⟨rfl, BE1.out⟩
  have q6 : ¬ ((n : Int) < (k : Int)) := by omega
  have kn : k ≤ n := by omega
  clear hkn
  obtain ⟨q, hq⟩ : ∃ q, Hid (w1.heap.size = q) := ⟨_, rfl⟩
  go_upto_region 10 with (fail)
  refine lin_begin (opsOf Tryd.f22 10) (by kernel_rfl) ?_
  refine lin_newrow 0 5 [] q 0 (some 41) (by kernel_rfl) (by kernel_rfl) hq (by kernel_rfl) ?_
  intro w2 b2 be2 hs2
  refine lin_now 1 (.slice (some ⟨q, 0, none⟩) 0 0) (some 12) (by kernel_rfl) (by kernel_rfl) (by kernel_rfl) ?_
  refine lin_done 2 (by kernel_rfl) ?_
  have O2 : Hid (w2.ownsRow B 5 1 (.slice (some ⟨q, 0, none⟩) 0 0) (dlK l 0).length (ints .u8 (dlK l 0))) := owns_blk (xs := []) (rs := []) b2 rfl (by have := S1.out; have := hq.out; omega) (by omega)
  have BE2 : Hid (Below B w w2) := BE1.out.trans (be2.mono (by have := S1.out; have := hq.out; omega))
  clear b2 be2 hs2 BE1 S1 hq
  generalize hact : Act.put _ (some 12) _ = act
  simp only [Act.put, List.setIfInBounds_toArray, List.set_cons_succ, List.set_cons_zero] at hact
  subst hact
  go_wp2
  go_loopw [13, 12] (fun iv av wr => ∃ (i : Nat) (v3 : Value), i ≤ k ∧ iv = .int .i64 (i : Int) ∧ v3 = av ∧ wr.ownsRow B 5 1 v3 (dlK l i).length (ints .u8 (dlK l i)) ∧ Below B w wr) (fun iv _ _ => k - (intOf iv).toNat)
  case atStart => exact ⟨0, _, Nat.zero_le _, rfl, rfl, O2.out, BE2.out⟩
  case round =>
    obtain ⟨i, v3, hi, rfl, rfl, ho, hbe⟩ := hrel
    have OW := Lib.hid ho
    have BE := Lib.hid hbe
    have SZ : Hid (B ≤ wr.heap.size) := by unfold Hid; have := hbe.size; have := hB.out; omega
    clear ho hbe O2 BE2
    by_cases hlt : i < k
    · have r1 : (i : Int) < (k : Int) := by omega
      obtain ⟨x, hx⟩ : ∃ x, Hid (getB l i = x) := ⟨_, rfl⟩
      have GX : Hid (x.length = 64) := by unfold Hid; rw [← hx.out]; exact getB_length HL.out (by omega)
      have BX : Hid (isBytes x) := by unfold Hid; rw [← hx.out]; exact bytes_take (bytes_drop HBY.out _) _
      have IX : Hid ((Tryd.prog.info? 37).map (·.size) = some (ints .u8 x).length) := infoBlk x GX.out
      have RX : Hid (wr.rangeAt pb (po + 64 * i) (ints .u8 x)) := fun j v hv => by rw [BE.out.cell (p := ⟨pb, po + 64 * i + j, none⟩) HPB.out]; rw [← hx.out] at hv; exact getB_sub HR.out j v hv
      go_upto_region 14 with (fail)
      refine lin_begin (opsOf Tryd.f22 14) (by kernel_rfl) ?_
      refine lin_now 0 (v3) (some 47) (by kernel_rfl) (by kernel_rfl) (by kernel_rfl) ?_
      refine lin_now 1 (.slice (some ⟨pb, po, none⟩) n c) (some 48) (by kernel_rfl) (by kernel_rfl) (by kernel_rfl) ?_
      refine lin_now 2 (.int .i64 (i : Int)) (some 49) (by kernel_rfl) (by kernel_rfl) (by kernel_rfl) ?_
      refine lin_now 3 (.pointer (some ⟨pb, po + 64 * i, none⟩)) (some 50) (by kernel_rfl) (by kernel_rfl) (exec_indexAt 23 (.tmp 48) (.tmp 49) (by kernel_rfl) _ _ _ (by kernel_rfl) (by kernel_rfl) (run_at_block pb po n c i (by omega) wr)) ?_
      refine lin_now 4 (.agg (ints .u8 x).toArray) (some 51) (by kernel_rfl) (by kernel_rfl) (exec_load_mid 37 (.tmp 50) (by kernel_rfl) pb (po + 64 * i) (by kernel_rfl) (ints .u8 x) _ RX.out Tryd.underlying37 rfl IX.out) ?_
      refine lin_call 5 21 #[.agg (ints .u8 x).toArray] (some 52) _ (by kernel_rfl) (by kernel_rfl) (by kernel_rfl) (rldata_any x GX.out BX.out _) ?_
      rintro e w4 ⟨v4, rfl, hv4, hn4, hb4⟩
      refine ⟨_, rfl, ?_⟩
      refine lin_appendb 6 (some 53) (by kernel_rfl) (by kernel_rfl) (by kernel_rfl) (.tmp 47) (.tmp 52) (by kernel_rfl) B v3 (dlK l i) (by kernel_rfl) (own_below OW.out hb4) v4 (dataQ x) (by kernel_rfl) hv4 hn4 (by have := dlK_le l i; have := dataQ_le (b := x); omega) (Nat.le_trans SZ.out hb4.size) ?_
      intro v5 w5 ho5 hg5
      refine lin_now 7 (v5) (some 12) (by kernel_rfl) (by kernel_rfl) (by kernel_rfl) ?_
      refine lin_done 8 (by kernel_rfl) ?_
      have BE5 : Hid (Below B w w5) := (BE.out.trans (hb4.mono SZ.out)).grown hg5 (Nat.le_trans SZ.out hb4.size) (fun k hk => owns_row OW.out k hk)
      have O5 : Hid (w5.ownsRow B 5 1 v5 (dlK l (i + 1)).length (ints .u8 (dlK l (i + 1)))) := by unfold Hid; rw [dlK, hx.out]; exact ho5
      clear BE OW SZ hv4 hn4 hb4 ho5 hg5 RX
      generalize hact : Act.put _ (some 12) _ = act
      simp only [Act.put, List.setIfInBounds_toArray, List.set_cons_succ, List.set_cons_zero] at hact
      subst hact
      go_wp2
      exact ⟨⟨i + 1, v5, by omega, by go_num, rfl, O5.out, BE5.out⟩, by simp [intOf]; omega⟩
    · have r1 : ¬ (i : Int) < (k : Int) := by omega
      obtain rfl : i = k := by omega
      obtain ⟨al, hal⟩ : ∃ al, Hid ((dlK l i).length = al) := ⟨_, rfl⟩
      have al2 : al ≤ 2070 := by have := dlK_le l i; rw [hal.out] at this; omega
      obtain ⟨aa, ac, e3, -⟩ := id (owns_bytes OW.out)
      rw [hal.out] at e3
      subst e3
      by_cases hal2 : al = sz + 34
      rotate_left
      · have q7 : ((al : Int) != (sz : Int) + 34) = true := by simpa using (show ¬ (al : Int) = (sz : Int) + 34 by omega)
        go_wp2
        go_ret3
        exact ⟨rfl, BE.out⟩
      have q7 : ((al : Int) != (sz : Int) + 34) = false := by simpa using (show (al : Int) = (sz : Int) + 34 by omega)
      have HAL := Lib.hid hal2
      have al34 : 34 ≤ al := by omega
      have fit : 2 + sz ≤ al := by omega
      clear hal2
      obtain ⟨g1, o1', rfl, hac, hg1, hgr⟩ : ∃ p1 o1, aa = some ⟨p1, o1, none⟩ ∧ al ≤ ac ∧ p1 < wr.heap.size ∧ wr.rangeAt p1 o1 (ints .u8 (dlK l i)) := by
        obtain ⟨a', c', e', hc', hp'⟩ := owns_bytes OW.out
        rw [hal.out] at e' hc' hp'
        obtain ⟨rfl, -, rfl⟩ := Value.slice.inj e'
        obtain ⟨p1, o1, h4, h5, h6⟩ := hp' (by omega)
        exact ⟨p1, o1, h4, hc', h5, h6⟩
      obtain ⟨rc, hrc⟩ : ∃ rc, Hid (((dlK l i).drop 2).take sz = rc) := ⟨_, rfl⟩
      have RCL : Hid (rc.length = sz) := by unfold Hid; rw [← hrc.out, List.length_take, List.length_drop, hal.out]; omega
      have RCI : Hid (BytesIn wr (.slice (some ⟨g1, o1' + 2, none⟩) sz (ac - 2)) rc) := by
        refine ⟨_, ac - 2, by rw [RCL.out], by rw [RCL.out]; omega, fun _ => ⟨g1, o1' + 2, rfl, hg1, ?_⟩⟩
        have h := range_cut hgr 2 sz
        rw [hrc.out] at h
        exact h
      have HS7 : Hid ((Instr.sliceAt 22 (.slice (some ⟨g1, o1', none⟩) al ac) (some (.int .i64 ((2 : Nat) : Int))) (some (.int .i64 ((2 + sz : Nat) : Int))) none).run Tryd.prog wr = .ok (.slice (some ⟨g1, o1' + 2, none⟩) (2 + sz - 2) (ac - 2)) wr) := run_bs_mid g1 o1' al ac 2 (2 + sz) (by omega) (by omega) (by omega) wr
      clear hg1 hgr OW
      go_upto_region 17 with (fail)
      refine lin_begin (opsOf Tryd.f22 17) (by kernel_rfl) ?_
      refine lin_now 0 (.slice (some ⟨g1, o1', none⟩) al ac) (some 59) (by kernel_rfl) (by kernel_rfl) (by kernel_rfl) ?_
      refine lin_now 1 (.int .i64 (sz : Int)) (some 60) (by kernel_rfl) (by kernel_rfl) (by kernel_rfl) ?_
      refine lin_now 2 (.int .i64 (IntKind.i64.wrap (2 + (sz : Int)))) (some 61) (by kernel_rfl) (by kernel_rfl) (by kernel_rfl) ?_
      rw [show IntKind.i64.wrap (2 + (sz : Int)) = ((2 + sz : Nat) : Int) from (IntWalk.i64_in _ (by omega)).trans (by omega)]
      refine lin_now 3 (.slice (some ⟨g1, o1' + 2, none⟩) (2 + sz - 2) (ac - 2)) (some 62) (by kernel_rfl) (by kernel_rfl) (exec_of (Instr.sliceAt 22 (.slice (some ⟨g1, o1', none⟩) al ac) (some (.int .i64 ((2 : Nat) : Int))) (some (.int .i64 ((2 + sz : Nat) : Int))) none) _ (by kernel_rfl) HS7.out) ?_
      rw [show 2 + sz - 2 = sz by omega]
      refine lin_call 4 9 #[.slice (some ⟨g1, o1' + 2, none⟩) sz (ac - 2)] (some 63) _ (by kernel_rfl) (by kernel_rfl) (by kernel_rfl) (copyb_walk _ rc _ RCI.out trivial (by rw [RCL.out]; omega)) ?_
      rintro e w6 ⟨v6, rfl, ho6, hb6⟩
      refine ⟨_, rfl, ?_⟩
      refine lin_now 5 (v6) (some 14) (by kernel_rfl) (by kernel_rfl) (by kernel_rfl) ?_
      refine lin_done 6 (by kernel_rfl) ?_
      have BE6 : Hid (Below B w w6) := BE.out.trans (hb6.mono SZ.out)
      have S6 : Hid (B ≤ w6.heap.size) := Nat.le_trans SZ.out hb6.size
      have V6 := Lib.hid (owns_bytes ho6)
      have N6 := Lib.hid (owns_nilok ho6)
      obtain ⟨ra, rcp, e6, -⟩ := id V6.out
      rw [RCL.out] at e6
      subst e6
      clear ho6 hb6 BE SZ RCI HS7
      generalize hact : Act.put _ (some 14) _ = act
      simp only [Act.put, List.setIfInBounds_toArray, List.set_cons_succ, List.set_cons_zero] at hact
      subst hact
      by_cases hok : okPack gen num sz
      rotate_left
      · have HOK := Lib.hid hok
        clear hok
        go_wp2_with fail
        refine (rlpack_no gen num ra sz rcp _ HOK.out).mono ?_
        rintro e w7 ⟨rfl, rfl⟩
        go_wp2
        go_ret3
        exact ⟨rfl, BE6.out⟩
      obtain ⟨g, rfl⟩ := Int.eq_ofNat_of_zero_le (show 0 ≤ gen by have := hok.2.1; omega)
      obtain ⟨m, rfl⟩ := Int.eq_ofNat_of_zero_le (show 0 ≤ num from hok.2.2.2.1)
      have HOK : Hid (okPack (g : Int) (m : Int) rc.length) := by unfold Hid; rw [RCL.out]; exact hok
      clear hok
      go_wp2_with fail
      refine (rlpack_ok g m _ rc _ V6.out N6.out HOK.out).mono ?_
      rintro e w7 ⟨v7, rfl, ho7, hb7⟩
      rw [RCL.out, hk.out] at ho7
      have BE7 : Hid (Below B w w7) := BE6.out.trans (hb7.mono S6.out)
      have V7 := Lib.hid (V6.out.below hb7 (Nat.le_refl _))
      obtain ⟨P, hP⟩ : ∃ P, Hid (packF g m rc = P) := ⟨_, rfl⟩
      rw [hP.out] at ho7
      have PL : Hid (P.length = 64 * i) := ho7.len
      obtain ⟨p7, o7, c7, rfl, -, hpb7, hpr7, -⟩ := ho7.in.at k1
      have RP := Lib.hid hpr7
      have RL : Hid (w7.rangeAt pb po (ints .u8 l)) := fun j v hv => by rw [BE7.out.cell (p := ⟨pb, po + j, none⟩) HPB.out]; exact HR.out j v hv
      clear ho7 hb7 BE6 S6 V6 hpb7 hpr7
      go_wp2
      go_loopw [17] (fun jv wx => ∃ (j d : Nat), j ≤ i ∧ jv = .int .i64 (j : Int) ∧ Hid (wx = w7.drewN d) ∧ Hid (∀ j', j' < j → getB P j' = getB l j')) (fun jv _ => i - (intOf jv).toNat)
      case atStart => exact ⟨0, 0, Nat.zero_le _, rfl, rfl, fun j' hj' => absurd hj' (by omega)⟩
      case round =>
        obtain ⟨j, d, hj, rfl, hwx, hall⟩ := hrel
        obtain rfl := hwx.out
        by_cases hjl : j < i
        · have r2 : (j : Int) < (i : Int) := by omega
          obtain ⟨x, hx⟩ : ∃ x, Hid (getB P j = x) := ⟨_, rfl⟩
          obtain ⟨y, hy⟩ : ∃ y, Hid (getB l j = y) := ⟨_, rfl⟩
          have G1 : Hid (x.length = 64) := by unfold Hid; rw [← hx.out]; exact getB_length PL.out hjl
          have G2 : Hid (y.length = 64) := by unfold Hid; rw [← hy.out]; exact getB_length HL.out (by omega)
          have R1 : Hid (w7.rangeAt p7 (o7 + 64 * j) (ints .u8 x)) := by unfold Hid; rw [← hx.out]; exact getB_sub RP.out
          have R2 : Hid (w7.rangeAt pb (po + 64 * j) (ints .u8 y)) := by unfold Hid; rw [← hy.out]; exact getB_sub RL.out
          have IX : Hid ((Tryd.prog.info? 37).map (·.size) = some (ints .u8 x).length) := infoBlk x G1.out
          have IY : Hid ((Tryd.prog.info? 37).map (·.size) = some (ints .u8 y).length) := infoBlk y G2.out
          go_upto_region 24 with (fail)
          refine region_begin (opsOf Tryd.f22 24) (fun w' => ∃ m, w' = w7.drewN m) (by kernel_rfl) (by kernel_rfl) 9 (by kernel_rfl) ?_
          intro Q' hQN hN
          have hS : ∃ m, (w7.drewN d).drew = w7.drewN m := ⟨d + 1, rfl⟩
          refine reg_now 0 (.slice (some ⟨p7, o7, none⟩) i c7) (some 78) hQN hS (by kernel_rfl) (by kernel_rfl) (fun w => by kernel_rfl) ?_
          refine reg_now 1 (.int .i64 (j : Int)) (some 79) hQN hS (by kernel_rfl) (by kernel_rfl) (fun w => by kernel_rfl) ?_
          refine reg_now 2 (.pointer (some ⟨p7, o7 + 64 * j, none⟩)) (some 80) hQN hS (by kernel_rfl) (by kernel_rfl) (fun w' => exec_indexAt 23 (.tmp 78) (.tmp 79) (by kernel_rfl) _ _ _ (by kernel_rfl) (by kernel_rfl) (run_at_block p7 o7 i c7 j hjl w')) ?_
          refine reg_nowIf 3 (.agg (ints .u8 x).toArray) (some 81) hQN hS (by kernel_rfl) (by kernel_rfl) (fun w' hw => by obtain ⟨m, rfl⟩ := hw; exact exec_load_mid 37 (.tmp 80) (by kernel_rfl) p7 (o7 + 64 * j) (by kernel_rfl) (ints .u8 x) _ R1.out Tryd.underlying37 rfl IX.out) ?_
          refine reg_now 4 (.slice (some ⟨pb, po, none⟩) n c) (some 82) hQN hS (by kernel_rfl) (by kernel_rfl) (fun w => by kernel_rfl) ?_
          refine reg_now 5 (.int .i64 (j : Int)) (some 83) hQN hS (by kernel_rfl) (by kernel_rfl) (fun w => by kernel_rfl) ?_
          refine reg_now 6 (.pointer (some ⟨pb, po + 64 * j, none⟩)) (some 84) hQN hS (by kernel_rfl) (by kernel_rfl) (fun w' => exec_indexAt 23 (.tmp 82) (.tmp 83) (by kernel_rfl) _ _ _ (by kernel_rfl) (by kernel_rfl) (run_at_block pb po n c j (by omega) w')) ?_
          refine reg_nowIf 7 (.agg (ints .u8 y).toArray) (some 85) hQN hS (by kernel_rfl) (by kernel_rfl) (fun w' hw => by obtain ⟨m, rfl⟩ := hw; exact exec_load_mid 37 (.tmp 84) (by kernel_rfl) pb (po + 64 * j) (by kernel_rfl) (ints .u8 y) _ R2.out Tryd.underlying37 rfl IY.out) ?_
          refine reg_now 8 (.bool (!decide (x = y))) (some 86) hQN hS (by kernel_rfl) (by kernel_rfl) (fun w' => exec_neq w' (.tmp 81) (.tmp 85) 37 (by kernel_rfl) Tryd.underlying37 Tryd.underlying5 size1Byte eqGuardBlk x y G1.out G2.out (by kernel_rfl) (by kernel_rfl)) ?_
          refine reg_done (by kernel_rfl) (hN _ _ ?_)
          have HD : Hid ((w7.drewN d).drew = w7.drewN (d + 1)) := rfl
          clear hQN hN hS R1 R2 IX IY
          generalize (w7.drewN d).drew = W2 at *
          by_cases hxy : x = y
          · rw [show (!decide (x = y)) = false by rw [decide_eq_true hxy]; rfl]
            have HA : Hid (∀ j', j' < j + 1 → getB P j' = getB l j') := fun j' hj' => by
              by_cases e : j' = j
              · subst e; rw [hx.out, hy.out, hxy]
              · exact hall.out j' (by omega)
            clear hxy
            generalize hact : Act.put _ (some 86) _ = act
            simp only [Act.put, List.setIfInBounds_toArray, List.set_cons_succ, List.set_cons_zero] at hact
            subst hact
            go_wp2
            exact ⟨⟨j + 1, d + 1, by omega, by go_num, HD, HA⟩, by simp [intOf]; omega⟩
          · rw [show (!decide (x = y)) = true by rw [decide_eq_false hxy]; rfl]
            clear hxy
            have BE8 : Hid (Below B w W2) := by rw [HD.out]; exact BE7.out.trans ((below_drewN w7 (d + 1)).mono (by have := BE7.out.size; have := hB.out; omega))
            generalize hact : Act.put _ (some 86) _ = act
            simp only [Act.put, List.setIfInBounds_toArray, List.set_cons_succ, List.set_cons_zero] at hact
            subst hact
            go_wp2
            go_ret3
            exact ⟨rfl, BE8.out⟩
        · exfalso
          obtain rfl : j = i := by omega
          exact HNO.out (unp_found (rec := rc) (k := j) HL.out h1 (by rw [RCL.out, hsz.out]) (by rw [hsz.out]; exact sz2) (by rw [hsz.out]; exact hk.out) kn (by rw [hsz.out, ← RCL.out]; exact HOK.out) (by rw [Int.toNat_natCast, Int.toNat_natCast, hP.out]; exact hall.out))
end Go.Proofs.YtaeghgnhpgkcdaaDoor
