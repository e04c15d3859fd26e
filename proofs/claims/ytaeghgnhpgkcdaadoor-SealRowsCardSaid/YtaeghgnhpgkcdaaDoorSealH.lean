/- Package seal: Unpack. -/
import Derived.Test.YtaeghgnhpgkcdaaDoorSealG
namespace Go.Proofs.YtaeghgnhpgkcdaaDoor
open Go Go.RowKit
set_option maxRecDepth 100000

theorem recP_length {l : List Int} {n : Nat} (hl : l.length = 64 * n) (h : needN (sizeP l) ≤ n) : (recP l).length = sizeP l := by
  unfold recP
  rw [List.length_take, List.length_drop, dataK_length hl _ h]
  unfold needN
  omega
set_option maxHeartbeats 2000000 in
theorem claimed_no (v : Value) (n : Nat) (l : List Int) (w : World) (h : BlksIn w v n l) (hby : isBytes l) (hn : n ≤ 1000000000) (hno : n = 0 ∨ 2000 < sizeP l ∨ n < needN (sizeP l)) :
    Calls Tryd.prog 31 #[v] w fun e w' => e = .returned (.tuple #[.slice none 0 0, .int .i64 0]) ∧ w = w' := by
  obtain ⟨a, c, rfl, hc, hl, hp⟩ := h
  by_cases h0 : n = 0
  · subst h0
    have q2 : (((0 : Nat) : Int) == 0) = true := by decide
    clear hno hp hl
    go_enter Tryd.func31, Tryd.ntmps31
    go_wp2
    go_ret2
    exact ⟨rfl, rfl⟩
  · obtain ⟨pb, po, rfl, hb, hr⟩ := hp (by omega)
    have HR := Lib.hid hr
    have HBY := Lib.hid hby
    obtain ⟨sz, hsz⟩ : ∃ s, Hid (sizeP l = s) := ⟨_, rfl⟩
    rw [hsz.out] at hno
    have q2 : ((n : Int) == 0) = false := by simpa using h0
    have HNB : Hid (numB ((l.drop 10).take 2) = (sz : Int)) := by unfold Hid; rw [← hsz.out]; exact sizeP_int hby
    have RH : Hid (w.rangeAt pb (po + 10) (ints .u8 ((l.drop 10).take 2))) := range_cut hr 10 2
    have HL2 : Hid (((l.drop 10).take 2).length = 2) := by unfold Hid; rw [List.length_take, List.length_drop, hl]; clear hno hp hr; omega
    clear hr hl hb hby hp
    go_enter Tryd.func31, Tryd.ntmps31
    go_upto_region 3 with (fail)
    refine lin_begin (opsOf Tryd.f31 3) (by kernel_rfl) ?_
    refine lin_now 0 (.slice (some ⟨pb, po, none⟩) n c) (some 12) (by kernel_rfl) (by kernel_rfl) (by kernel_rfl) ?_
    refine lin_now 1 (.pointer (some ⟨pb, po + 64 * 0, none⟩)) (some 13) (by kernel_rfl) (by kernel_rfl) (exec_indexAt 23 (.tmp 12) (.const (.int .i64 ((0 : Nat) : Int))) (by kernel_rfl) _ _ _ (by kernel_rfl) (by kernel_rfl) (run_at_block pb po n c 0 (by omega) w)) ?_
    rw [Nat.mul_zero, Nat.add_zero]
    refine lin_now 2 (.slice (some ⟨pb, po + 10, none⟩) 2 54) (some 14) (by kernel_rfl) (by kernel_rfl) (by kernel_rfl) ?_
    refine lin_call 3 37 #[.slice (some ⟨pb, po + 10, none⟩) 2 54] (some 15) _ (by kernel_rfl) (by kernel_rfl) (by kernel_rfl) (number_walk pb (po + 10) 2 54 ((l.drop 10).take 2) _ RH.out HL2.out (bytes_take (bytes_drop HBY.out 10) 2) (by omega)) ?_
    rintro e w' ⟨rfl, rfl⟩
    refine ⟨_, rfl, ?_⟩
    rw [HNB.out]
    refine lin_now 4 (.int .i64 (sz : Int)) (some 4) (by kernel_rfl) (by kernel_rfl) (by kernel_rfl) ?_
    refine lin_done 5 (by kernel_rfl) ?_
    generalize hact : Act.put _ (some 4) _ = act
    simp only [Act.put, List.setIfInBounds_toArray, List.set_cons_succ, List.set_cons_zero] at hact
    subst hact
    go_wp2_with fail
    refine (need_walk _ _).mono ?_
    rintro e w' ⟨rfl, rfl⟩
    by_cases h2 : 2000 < sz
    · rw [needI_no _ (.inr (by omega))]
      clear hno
      go_wp2
      go_ret2
      exact ⟨rfl, rfl⟩
    · obtain ⟨k, hk⟩ : ∃ k, Hid (needN sz = k) := ⟨_, rfl⟩
      rw [needI_nat _ (by omega), hk.out]
      rw [hk.out] at hno
      have k1 : 1 ≤ k := by have := needN_pos sz; rw [hk.out] at this; exact this
      have q0 : ((k : Int) == 0) = false := by simpa using (show ¬ k = 0 by omega)
      have q1 : (n : Int) < (k : Int) := by omega
      clear hno
      go_wp2
      go_ret2
      exact ⟨rfl, rfl⟩
theorem blks_head {w : World} {pb po n k c : Nat} {l : List Int} (hr : w.rangeAt pb po (ints .u8 l)) (hb : pb < w.heap.size) (hl : l.length = 64 * n) (hk : k ≤ n) (hc : n ≤ c) : BlksIn w (.slice (some ⟨pb, po, none⟩) k c) k (l.take (64 * k)) :=
  ⟨_, c, rfl, by omega, by rw [List.length_take]; omega, fun _ => ⟨pb, po, rfl, hb, by have h := range_cut hr 0 (64 * k); rw [Nat.add_zero, List.drop_zero] at h; exact h⟩⟩
/-- A record stands at the beginning. -/
def unpOk (gen num : Int) (l : List Int) (n : Nat) : Prop := 1 ≤ n ∧ sizeP l ≤ 2000 ∧ needN (sizeP l) ≤ n ∧ okPack gen num (sizeP l) ∧ packF gen.toNat num.toNat (recP l) = l.take (64 * needN (sizeP l))
instance (gen num : Int) (l : List Int) (n : Nat) : Decidable (unpOk gen num l n) := by unfold unpOk; exact inferInstance
def UnpPost (rec : List Int) (k : Nat) (w : World) (e : Ending) (w' : World) : Prop := ∃ v, e = .returned (.tuple #[v, .int .i64 (k : Int), .bool true]) ∧ BytesIn w' v rec ∧ NilOk v ∧ Below w.heap.size w w'
def UnpNo (w : World) (e : Ending) (w' : World) : Prop := e = .returned (.tuple #[.slice none 0 0, .int .i64 0, .bool false]) ∧ Below w.heap.size w w'
set_option maxHeartbeats 2000000 in
theorem unpack_ok' (gen num : Int) (v : Value) (n : Nat) (l : List Int) (w : World) (h : BlksAt w v n l) (hby : isBytes l) (h1 : 1 ≤ n) (hn : n ≤ 1000000000) (h2 : sizeP l ≤ 2000) (h3 : needN (sizeP l) ≤ n) (hok : okPack gen num (sizeP l)) (heq : packF gen.toNat num.toNat (recP l) = l.take (64 * needN (sizeP l))) (hK : KW w) :
    Calls Tryd.prog 16 #[v, .int .i64 gen, .int .i64 num] w (UnpPost (recP l) (needN (sizeP l)) w) := by
  obtain ⟨pb, po, c, e0, hc, hb, hr, hl⟩ := id h
  have HV := Lib.hid h
  subst e0
  have HBY := Lib.hid hby
  have HK := Lib.hid hK
  have HR := Lib.hid hr
  have HL := Lib.hid hl
  have HB := Lib.hid hb
  have HRL : Hid ((recP l).length = sizeP l) := recP_length hl h3
  have H2 := Lib.hid h2
  have H3 := Lib.hid h3
  obtain ⟨g, rfl⟩ := Int.eq_ofNat_of_zero_le (show 0 ≤ gen by have := hok.2.1; omega)
  obtain ⟨m, rfl⟩ := Int.eq_ofNat_of_zero_le (show 0 ≤ num from hok.2.2.2.1)
  have HOK : Hid (okPack (g : Int) (m : Int) (recP l).length) := by unfold Hid; rw [HRL.out]; exact hok
  rw [Int.toNat_natCast, Int.toNat_natCast] at heq
  have HEQ := Lib.hid heq
  clear hok heq
  obtain ⟨k, hk⟩ : ∃ k, Hid (needN (sizeP l) = k) := ⟨_, rfl⟩
  have k1 : 1 ≤ k := by have := needN_pos (sizeP l); rw [hk.out] at this; exact this
  have kn : k ≤ n := by rw [← hk.out]; exact h3
  have q0 : ((k : Int) == 0) = false := by simpa using (show ¬ k = 0 by omega)
  obtain ⟨rc, hrc⟩ : ∃ rc, Hid (recP l = rc) := ⟨_, rfl⟩
  have HC1 := Lib.hid (claimed_ok _ n l w HV.out hby h1 hn h2 h3)
  rw [hrc.out, hk.out] at HC1
  rw [hrc.out] at HRL
  obtain ⟨B, hB⟩ : ∃ B, Hid (w.heap.size = B) := ⟨_, rfl⟩
  unfold UnpPost
  rw [hrc.out, hk.out, hB.out]
  rw [hrc.out] at HOK
  rw [hrc.out, hk.out] at HEQ
  clear h hby hr hl hb hK h2 h3
  go_enter Tryd.func16, Tryd.ntmps16
  go_wp2_with fail
  refine (HC1.out).mono ?_
  rintro e w1 ⟨v1, rfl, hv1, hn1, hb1⟩
  have V1 := Lib.hid hv1
  have N1 := Lib.hid hn1
  have BE1 := Lib.hid hb1
  have K1 : Hid (KW w1) := HK.out.below hb1 HK.out.lt
  clear hv1 hn1 hb1 HC1
  go_wp2_with fail
  refine (pack_ok g m v1 rc _ V1.out N1.out HOK.out K1.out).mono ?_
  rintro e w2 ⟨G, rfl, hG, hblk, hb2⟩
  rw [HRL.out, hk.out]
  have BE2 : Hid (Below B w w2) := by rw [hB.out] at BE1; exact BE1.out.trans (hb2.mono (by have := BE1.out.size; have := hB.out; omega))
  have V2 : Hid (BytesIn w2 v1 rc) := V1.out.below hb2 (Nat.le_refl _)
  have S2 : Hid (BlksIn w2 (.slice (some ⟨G, 0, none⟩) k k) k (packF g m rc)) := blks_blk hblk (by unfold packF; rw [packK_length, HRL.out, hk.out])
  have L2 : Hid (BlksIn w2 (.slice (some ⟨pb, po, none⟩) k c) k (l.take (64 * k))) := by
    rw [hB.out] at HB
    refine blks_head (fun j v hv => ?_) (by have := HB.out; have := BE2.out.size; have := hB.out; omega) HL.out kn hc
    rw [BE2.out.cell (p := ⟨pb, po + j, none⟩) HB.out]
    exact HR.out j v hv
  have HS : Hid ((Instr.sliceAt 23 (.slice (some ⟨pb, po, none⟩) n c) none (some (.int .i64 (k : Int))) none).run Tryd.prog w2 = .ok (.slice (some ⟨pb, po, none⟩) k c) w2) := run_blks_head pb po n c k (by omega) w2
  have HC2 := Lib.hid (equal_walk _ _ k _ _ w2 S2.out L2.out (by omega))
  rw [show decide (packF g m rc = l.take (64 * k)) = true from decide_eq_true HEQ.out] at HC2
  clear hG hblk hb2 BE1 V1 K1 S2 L2
  go_upto_region 5 with (fail)
  refine lin_begin (opsOf Tryd.f16 5) (by kernel_rfl) ?_
  refine lin_now 0 (.bool true) (some 27) (by kernel_rfl) (by kernel_rfl) (by kernel_rfl) ?_
  refine lin_now 1 (.bool false) (some 28) (by kernel_rfl) (by kernel_rfl) (by kernel_rfl) ?_
  refine lin_now 2 (.bool false) (some 29) (by kernel_rfl) (by kernel_rfl) (by kernel_rfl) ?_
  refine lin_now 3 (.slice (some ⟨G, 0, none⟩) k k) (some 30) (by kernel_rfl) (by kernel_rfl) (by kernel_rfl) ?_
  refine lin_now 4 (.slice (some ⟨pb, po, none⟩) n c) (some 31) (by kernel_rfl) (by kernel_rfl) (by kernel_rfl) ?_
  refine lin_now 5 (.int .i64 (k : Int)) (some 32) (by kernel_rfl) (by kernel_rfl) (by kernel_rfl) ?_
  refine lin_now 6 (.slice (some ⟨pb, po, none⟩) k c) (some 33) (by kernel_rfl) (by kernel_rfl) (exec_of (Instr.sliceAt 23 (.slice (some ⟨pb, po, none⟩) n c) none (some (.int .i64 (k : Int))) none) _ (by kernel_rfl) HS.out) ?_
  refine lin_call 7 32 #[.slice (some ⟨G, 0, none⟩) k k, .slice (some ⟨pb, po, none⟩) k c] (some 34) _ (by kernel_rfl) (by kernel_rfl) (by kernel_rfl) (HC2.out) ?_
  rintro e w3 ⟨rfl, d, rfl⟩
  refine ⟨_, rfl, ?_⟩
  refine lin_now 8 (.bool false) (some 35) (by kernel_rfl) (by kernel_rfl) (by kernel_rfl) ?_
  refine lin_now 9 (.bool false) (some 36) (by kernel_rfl) (by kernel_rfl) (by kernel_rfl) ?_
  refine lin_done 10 (by kernel_rfl) ?_
  have BE3 : Hid (Below B w (w2.drewN d)) := BE2.out.trans ((below_drewN w2 d).mono (by have := BE2.out.size; have := hB.out; omega))
  have V3 : Hid (BytesIn (w2.drewN d) v1 rc) := V2.out.drewN d
  clear BE2 V2 HC2 HS
  generalize w2.drewN d = W3 at *
  generalize hact : Act.put _ (some 36) _ = act
  simp only [Act.put, List.setIfInBounds_toArray, List.set_cons_succ, List.set_cons_zero] at hact
  subst hact
  go_wp2
  go_ret3
  exact ⟨v1, rfl, V3.out, N1.out, BE3.out⟩
set_option maxHeartbeats 2000000 in
theorem unpack_other (gen num : Int) (v : Value) (n : Nat) (l : List Int) (w : World) (h : BlksAt w v n l) (hby : isBytes l) (h1 : 1 ≤ n) (hn : n ≤ 1000000000) (h2 : sizeP l ≤ 2000) (h3 : needN (sizeP l) ≤ n) (hok : okPack gen num (sizeP l)) (heq : packF gen.toNat num.toNat (recP l) ≠ l.take (64 * needN (sizeP l))) (hK : KW w) :
    Calls Tryd.prog 16 #[v, .int .i64 gen, .int .i64 num] w (UnpNo w) := by
  obtain ⟨pb, po, c, e0, hc, hb, hr, hl⟩ := id h
  have HV := Lib.hid h
  subst e0
  have HBY := Lib.hid hby
  have HK := Lib.hid hK
  have HR := Lib.hid hr
  have HL := Lib.hid hl
  have HB := Lib.hid hb
  have HRL : Hid ((recP l).length = sizeP l) := recP_length hl h3
  have H2 := Lib.hid h2
  have H3 := Lib.hid h3
  obtain ⟨g, rfl⟩ := Int.eq_ofNat_of_zero_le (show 0 ≤ gen by have := hok.2.1; omega)
  obtain ⟨m, rfl⟩ := Int.eq_ofNat_of_zero_le (show 0 ≤ num from hok.2.2.2.1)
  have HOK : Hid (okPack (g : Int) (m : Int) (recP l).length) := by unfold Hid; rw [HRL.out]; exact hok
  rw [Int.toNat_natCast, Int.toNat_natCast] at heq
  have HEQ := Lib.hid heq
  clear hok heq
  obtain ⟨k, hk⟩ : ∃ k, Hid (needN (sizeP l) = k) := ⟨_, rfl⟩
  have k1 : 1 ≤ k := by have := needN_pos (sizeP l); rw [hk.out] at this; exact this
  have kn : k ≤ n := by rw [← hk.out]; exact h3
  have q0 : ((k : Int) == 0) = false := by simpa using (show ¬ k = 0 by omega)
  obtain ⟨rc, hrc⟩ : ∃ rc, Hid (recP l = rc) := ⟨_, rfl⟩
  have HC1 := Lib.hid (claimed_ok _ n l w HV.out hby h1 hn h2 h3)
  rw [hrc.out, hk.out] at HC1
  rw [hrc.out] at HRL
  obtain ⟨B, hB⟩ : ∃ B, Hid (w.heap.size = B) := ⟨_, rfl⟩
  unfold UnpNo
  rw [hB.out]
  rw [hrc.out] at HOK
  rw [hrc.out, hk.out] at HEQ
  clear h hby hr hl hb hK h2 h3
  go_enter Tryd.func16, Tryd.ntmps16
  go_wp2_with fail
  refine (HC1.out).mono ?_
  rintro e w1 ⟨v1, rfl, hv1, hn1, hb1⟩
  have V1 := Lib.hid hv1
  have N1 := Lib.hid hn1
  have BE1 := Lib.hid hb1
  have K1 : Hid (KW w1) := HK.out.below hb1 HK.out.lt
  clear hv1 hn1 hb1 HC1
  go_wp2_with fail
  refine (pack_ok g m v1 rc _ V1.out N1.out HOK.out K1.out).mono ?_
  rintro e w2 ⟨G, rfl, hG, hblk, hb2⟩
  rw [HRL.out, hk.out]
  have BE2 : Hid (Below B w w2) := by rw [hB.out] at BE1; exact BE1.out.trans (hb2.mono (by have := BE1.out.size; have := hB.out; omega))
  have V2 : Hid (BytesIn w2 v1 rc) := V1.out.below hb2 (Nat.le_refl _)
  have S2 : Hid (BlksIn w2 (.slice (some ⟨G, 0, none⟩) k k) k (packF g m rc)) := blks_blk hblk (by unfold packF; rw [packK_length, HRL.out, hk.out])
  have L2 : Hid (BlksIn w2 (.slice (some ⟨pb, po, none⟩) k c) k (l.take (64 * k))) := by
    rw [hB.out] at HB
    refine blks_head (fun j v hv => ?_) (by have := HB.out; have := BE2.out.size; have := hB.out; omega) HL.out kn hc
    rw [BE2.out.cell (p := ⟨pb, po + j, none⟩) HB.out]
    exact HR.out j v hv
  have HS : Hid ((Instr.sliceAt 23 (.slice (some ⟨pb, po, none⟩) n c) none (some (.int .i64 (k : Int))) none).run Tryd.prog w2 = .ok (.slice (some ⟨pb, po, none⟩) k c) w2) := run_blks_head pb po n c k (by omega) w2
  have HC2 := Lib.hid (equal_walk _ _ k _ _ w2 S2.out L2.out (by omega))
  rw [show decide (packF g m rc = l.take (64 * k)) = false from decide_eq_false HEQ.out] at HC2
  clear hG hblk hb2 BE1 V1 K1 S2 L2
  go_upto_region 5 with (fail)
  refine lin_begin (opsOf Tryd.f16 5) (by kernel_rfl) ?_
  refine lin_now 0 (.bool true) (some 27) (by kernel_rfl) (by kernel_rfl) (by kernel_rfl) ?_
  refine lin_now 1 (.bool false) (some 28) (by kernel_rfl) (by kernel_rfl) (by kernel_rfl) ?_
  refine lin_now 2 (.bool false) (some 29) (by kernel_rfl) (by kernel_rfl) (by kernel_rfl) ?_
  refine lin_now 3 (.slice (some ⟨G, 0, none⟩) k k) (some 30) (by kernel_rfl) (by kernel_rfl) (by kernel_rfl) ?_
  refine lin_now 4 (.slice (some ⟨pb, po, none⟩) n c) (some 31) (by kernel_rfl) (by kernel_rfl) (by kernel_rfl) ?_
  refine lin_now 5 (.int .i64 (k : Int)) (some 32) (by kernel_rfl) (by kernel_rfl) (by kernel_rfl) ?_
  refine lin_now 6 (.slice (some ⟨pb, po, none⟩) k c) (some 33) (by kernel_rfl) (by kernel_rfl) (exec_of (Instr.sliceAt 23 (.slice (some ⟨pb, po, none⟩) n c) none (some (.int .i64 (k : Int))) none) _ (by kernel_rfl) HS.out) ?_
  refine lin_call 7 32 #[.slice (some ⟨G, 0, none⟩) k k, .slice (some ⟨pb, po, none⟩) k c] (some 34) _ (by kernel_rfl) (by kernel_rfl) (by kernel_rfl) (HC2.out) ?_
  rintro e w3 ⟨rfl, d, rfl⟩
  refine ⟨_, rfl, ?_⟩
  refine lin_now 8 (.bool true) (some 35) (by kernel_rfl) (by kernel_rfl) (by kernel_rfl) ?_
  refine lin_now 9 (.bool true) (some 36) (by kernel_rfl) (by kernel_rfl) (by kernel_rfl) ?_
  refine lin_done 10 (by kernel_rfl) ?_
  have BE3 : Hid (Below B w (w2.drewN d)) := BE2.out.trans ((below_drewN w2 d).mono (by have := BE2.out.size; have := hB.out; omega))
  have V3 : Hid (BytesIn (w2.drewN d) v1 rc) := V2.out.drewN d
  clear BE2 V2 HC2 HS
  generalize w2.drewN d = W3 at *
  generalize hact : Act.put _ (some 36) _ = act
  simp only [Act.put, List.setIfInBounds_toArray, List.set_cons_succ, List.set_cons_zero] at hact
  subst hact
  go_wp2
  go_ret3
  exact ⟨rfl, BE3.out⟩
set_option maxHeartbeats 2000000 in
theorem unpack_nopack (gen num : Int) (v : Value) (n : Nat) (l : List Int) (w : World) (h : BlksAt w v n l) (hby : isBytes l) (h1 : 1 ≤ n) (hn : n ≤ 1000000000) (h2 : sizeP l ≤ 2000) (h3 : needN (sizeP l) ≤ n) (hno : ¬ okPack gen num (sizeP l)) (hK : KW w) :
    Calls Tryd.prog 16 #[v, .int .i64 gen, .int .i64 num] w (UnpNo w) := by
  obtain ⟨pb, po, c, e0, hc, hb, hr, hl⟩ := id h
  have HV := Lib.hid h
  subst e0
  have HBY := Lib.hid hby
  have HK := Lib.hid hK
  have HR := Lib.hid hr
  have HL := Lib.hid hl
  have HB := Lib.hid hb
  have HRL : Hid ((recP l).length = sizeP l) := recP_length hl h3
  have H2 := Lib.hid h2
  have H3 := Lib.hid h3
  have HNO := Lib.hid hno
  clear hno
  obtain ⟨k, hk⟩ : ∃ k, Hid (needN (sizeP l) = k) := ⟨_, rfl⟩
  have k1 : 1 ≤ k := by have := needN_pos (sizeP l); rw [hk.out] at this; exact this
  have kn : k ≤ n := by rw [← hk.out]; exact h3
  have q0 : ((k : Int) == 0) = false := by simpa using (show ¬ k = 0 by omega)
  obtain ⟨rc, hrc⟩ : ∃ rc, Hid (recP l = rc) := ⟨_, rfl⟩
  have HC1 := Lib.hid (claimed_ok _ n l w HV.out hby h1 hn h2 h3)
  rw [hrc.out, hk.out] at HC1
  rw [hrc.out] at HRL
  obtain ⟨B, hB⟩ : ∃ B, Hid (w.heap.size = B) := ⟨_, rfl⟩
  unfold UnpNo
  rw [hB.out]
  clear h hby hr hl hb hK h2 h3
  go_enter Tryd.func16, Tryd.ntmps16
  go_wp2_with fail
  refine (HC1.out).mono ?_
  rintro e w1 ⟨v1, rfl, hv1, hn1, hb1⟩
  have V1 := Lib.hid hv1
  have N1 := Lib.hid hn1
  have BE1 := Lib.hid hb1
  have K1 : Hid (KW w1) := HK.out.below hb1 HK.out.lt
  clear hv1 hn1 hb1 HC1
  obtain ⟨va, vc, e1, -⟩ := id V1.out
  rw [HRL.out] at e1
  subst e1
  go_wp2_with fail
  refine (pack_no gen num va (sizeP l) vc _ HNO.out).mono ?_
  rintro e w2 ⟨rfl, rfl⟩
  go_wp2
  go_ret3
  exact ⟨rfl, hB.out ▸ BE1.out⟩
set_option maxHeartbeats 2000000 in
theorem unpack_noclaim (gen num : Int) (v : Value) (n : Nat) (l : List Int) (w : World) (h : BlksIn w v n l) (hby : isBytes l) (hn : n ≤ 1000000000) (hno : n = 0 ∨ 2000 < sizeP l ∨ n < needN (sizeP l)) :
    Calls Tryd.prog 16 #[v, .int .i64 gen, .int .i64 num] w (UnpNo w) := by
  obtain ⟨a, c, e0, -⟩ := id h
  have HV := Lib.hid h
  subst e0
  have HBY := Lib.hid hby
  have HNO := Lib.hid hno
  clear h hby hno
  go_enter Tryd.func16, Tryd.ntmps16
  go_wp2_with fail
  refine (claimed_no _ n l _ HV.out HBY.out hn HNO.out).mono ?_
  rintro e w' ⟨rfl, rfl⟩
  have q0 : ((0 : Int) == 0) = true := by decide
  go_wp2
  go_ret3
  exact ⟨rfl, Below.refl _ _⟩
theorem unpack_ok (gen num : Int) (v : Value) (n : Nat) (l : List Int) (w : World) (h : BlksIn w v n l) (hby : isBytes l) (hn : n ≤ 1000000000) (hok : unpOk gen num l n) (hK : KW w) :
    Calls Tryd.prog 16 #[v, .int .i64 gen, .int .i64 num] w (UnpPost (recP l) (needN (sizeP l)) w) := by
  obtain ⟨h1, h2, h3, h4, h5⟩ := hok
  exact unpack_ok' gen num v n l w (h.at h1) hby h1 hn h2 h3 h4 h5 hK
theorem unpack_no (gen num : Int) (v : Value) (n : Nat) (l : List Int) (w : World) (h : BlksIn w v n l) (hby : isBytes l) (hn : n ≤ 1000000000) (hno : ¬ unpOk gen num l n) (hK : KW w) :
    Calls Tryd.prog 16 #[v, .int .i64 gen, .int .i64 num] w (UnpNo w) := by
  by_cases h0 : n = 0 ∨ 2000 < sizeP l ∨ n < needN (sizeP l)
  · exact unpack_noclaim gen num v n l w h hby hn h0
  · have h1 : 1 ≤ n := by omega
    by_cases h4 : okPack gen num (sizeP l)
    · exact unpack_other gen num v n l w (h.at h1) hby h1 hn (by omega) (by omega) h4 (fun e => hno ⟨h1, by omega, by omega, h4, e⟩) hK
    · exact unpack_nopack gen num v n l w (h.at h1) hby h1 hn (by omega) (by omega) h4 hK
end Go.Proofs.YtaeghgnhpgkcdaaDoor
