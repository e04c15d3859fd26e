/- SealPacks answers true. -/
import Derived.Test.YtaeghgnhpgkcdaaDoorSealU
namespace Go.Proofs.YtaeghgnhpgkcdaaDoor
open Go Go.RowKit
set_option maxRecDepth 100000

theorem blks_nil (w : World) : BlksIn w (.slice none 0 0) 0 [] := ⟨none, 0, rfl, Nat.le_refl _, rfl, fun h => absurd h (by omega)⟩
set_option maxHeartbeats 8000000 in
theorem packs_main (gen num nn : Int) (u v : Value) (rec lb : List Int) (nb : Nat) (w : World) (hu : BytesIn w u rec) (hnil : NilOk u) (hb : isBytes rec) (hv : BlksIn w v nb lb) (hvn : NilOk v) (hvb : isBytes lb) (hK : KW w) :
    Calls Tryd.prog 3 #[.int .i64 gen, .int .i64 num, u, v, .int .i64 nn] w fun e w' => e = .returned (.bool true) ∧ Below w.heap.size w w' := by
  obtain ⟨ua, uc, rfl, -⟩ := id hu
  obtain ⟨ba, bc, rfl, -⟩ := id hv
  have HU := Lib.hid hu
  have HNI := Lib.hid hnil
  have HB := Lib.hid hb
  have HV := Lib.hid hv
  have HVN := Lib.hid hvn
  have HVB := Lib.hid hvb
  have HK := Lib.hid hK
  obtain ⟨n, hn⟩ : ∃ n, Hid (rec.length = n) := ⟨_, rfl⟩
  rw [hn.out] at HU HNI ⊢
  obtain ⟨B, hB⟩ : ∃ B, Hid (w.heap.size = B) := ⟨_, rfl⟩
  have HKB : Hid (0 < B) := by unfold Hid; rw [← hB.out]; exact hK.lt
  rw [hB.out]
  clear hu hnil hb hv hvn hvb hK
  go_enter Tryd.func3, Tryd.ntmps3
  go_wp2_with fail
  refine (slalive_walk _ HK.out).mono ?_
  rintro e w1 ⟨rfl, hb1⟩
  rw [hB.out] at hb1
  have BE1 := Lib.hid hb1
  have S1 : Hid (B ≤ w1.heap.size) := by unfold Hid; have := hb1.size; have := hB.out; omega
  have U1 : Hid (BytesIn w1 (.slice ua n uc) rec) := HU.out.below hb1 (Nat.le_of_eq hB.out)
  clear hb1
  by_cases h25 : 2500 < n
  · have q0 : (2500 : Int) < (n : Int) := by omega
    go_wp2
    go_ret
    exact ⟨rfl, BE1.out⟩
  · have q0 : ¬ ((2500 : Int) < (n : Int)) := by omega
    by_cases h20 : 20 < nb
    · have q1 : (20 : Int) < (nb : Int) := by omega
      go_wp2
      go_ret
      exact ⟨rfl, BE1.out⟩
    · have q1 : ¬ ((20 : Int) < (nb : Int)) := by omega
      go_wp2_with fail
      refine (copyb_walk _ rec _ U1.out HNI.out (by rw [hn.out]; omega)).mono ?_
      rintro e w2 ⟨v2, rfl, ho2, hb2⟩
      have BE2 : Hid (Below B w w2) := BE1.out.trans (hb2.mono S1.out)
      have S2 : Hid (B ≤ w2.heap.size) := Nat.le_trans S1.out hb2.size
      have V2 := Lib.hid (owns_bytes ho2)
      have N2 := Lib.hid (owns_nilok ho2)
      have K2 : Hid (KW w2) := HK.out.below BE2.out HKB.out
      obtain ⟨va, vc, e2, -⟩ := id V2.out
      rw [hn.out] at e2
      subst e2
      clear ho2 hb2 BE1 S1 U1
      by_cases hok : okPack gen num n
      · obtain ⟨g, rfl⟩ := Int.eq_ofNat_of_zero_le (show 0 ≤ gen by have := hok.2.1; omega)
        obtain ⟨m, rfl⟩ := Int.eq_ofNat_of_zero_le (show 0 ≤ num from hok.2.2.2.1)
        have HOK : Hid (okPack (g : Int) (m : Int) rec.length) := by unfold Hid; rw [hn.out]; exact hok
        have n2000 : n ≤ 2000 := hok.1
        obtain ⟨k, hk⟩ : ∃ k, Hid (needN n = k) := ⟨_, rfl⟩
        have k1 : 1 ≤ k := by have := needN_pos n; rw [hk.out] at this; exact this
        have k45 : k ≤ 45 := by have := needN_le n n2000; rw [hk.out] at this; exact this
        obtain ⟨L, hL⟩ : ∃ L, Hid (packF g m rec = L) := ⟨_, rfl⟩
        have LL : Hid (L.length = 64 * k) := by unfold Hid; rw [← hL.out, packF_length, hn.out, hk.out]
        clear hok
        go_wp2_with fail
        refine (pack_ok g m _ rec _ V2.out N2.out HOK.out K2.out).mono ?_
        rintro e w3 ⟨G, rfl, hG, hblk, hb3⟩
        rw [hn.out, hk.out]
        rw [hL.out] at hblk
        have BE3 : Hid (Below B w w3) := BE2.out.trans (hb3.mono S2.out)
        have S3 : Hid (B ≤ w3.heap.size) := Nat.le_trans S2.out hb3.size
        have U3 : Hid (BytesIn w3 (.slice ua n uc) rec) := HU.out.below BE3.out (Nat.le_of_eq hB.out)
        have V3 := Lib.hid (V2.out.below hb3 (Nat.le_refl _))
        have P3 : Hid (BlksIn w3 (.slice (some ⟨G, 0, none⟩) k k) k L) := blks_blk hblk LL.out
        clear hG hblk hb3 BE2 S2 V2 K2
        go_wp2_with fail
        refine (rlpack_ok g m _ rec _ U3.out HNI.out HOK.out).mono ?_
        rintro e w4 ⟨v4, rfl, ho4, hb4⟩
        rw [hL.out, hn.out, hk.out] at ho4
        have BE4 : Hid (Below B w w4) := BE3.out.trans (hb4.mono S3.out)
        have S4 : Hid (B ≤ w4.heap.size) := Nat.le_trans S3.out hb4.size
        have U4 : Hid (BytesIn w4 (.slice ua n uc) rec) := HU.out.below BE4.out (Nat.le_of_eq hB.out)
        have V4 := Lib.hid (V3.out.below hb4 (Nat.le_refl _))
        have P4 := Lib.hid (P3.out.below hb4)
        have Q4 := Lib.hid ho4.in
        have HCA := Lib.hid (lsame_walk _ _ k L L w4 P4.out Q4.out (by omega))
        rw [decide_eq_true rfl] at HCA
        clear ho4 hb4 BE3 S3 U3 V3 P3
        go_upto_region 8 with (fail)
        refine lin_begin (opsOf Tryd.f3 8) (by kernel_rfl) ?_
        refine lin_now 0 (.bool true) (some 45) (by kernel_rfl) (by kernel_rfl) (by kernel_rfl) ?_
        refine lin_now 1 (.bool true) (some 46) (by kernel_rfl) (by kernel_rfl) (by kernel_rfl) ?_
        refine lin_now 2 (.bool false) (some 47) (by kernel_rfl) (by kernel_rfl) (by kernel_rfl) ?_
        refine lin_now 3 (.bool false) (some 48) (by kernel_rfl) (by kernel_rfl) (by kernel_rfl) ?_
        refine lin_now 4 (.slice (some ⟨G, 0, none⟩) k k) (some 49) (by kernel_rfl) (by kernel_rfl) (by kernel_rfl) ?_
        refine lin_now 5 (v4) (some 50) (by kernel_rfl) (by kernel_rfl) (by kernel_rfl) ?_
        refine lin_call 6 12 #[.slice (some ⟨G, 0, none⟩) k k, v4] (some 51) _ (by kernel_rfl) (by kernel_rfl) (by kernel_rfl) (HCA.out) ?_
        rintro e w5 ⟨rfl, d5, rfl⟩
        refine ⟨_, rfl, ?_⟩
        refine lin_now 7 (.bool false) (some 52) (by kernel_rfl) (by kernel_rfl) (by kernel_rfl) ?_
        refine lin_now 8 (.bool false) (some 53) (by kernel_rfl) (by kernel_rfl) (by kernel_rfl) ?_
        refine lin_now 9 (.bool false) (some 54) (by kernel_rfl) (by kernel_rfl) (by kernel_rfl) ?_
        refine lin_now 10 (.slice va n vc) (some 55) (by kernel_rfl) (by kernel_rfl) (by kernel_rfl) ?_
        refine lin_now 11 (.slice ua n uc) (some 56) (by kernel_rfl) (by kernel_rfl) (by kernel_rfl) ?_
        refine lin_call 12 13 #[.slice va n vc, .slice ua n uc] (some 57) _ (by kernel_rfl) (by kernel_rfl) (by kernel_rfl) (sameb_true _ _ rec _ (V4.out.drewN d5) (U4.out.drewN d5) (by rw [hn.out]; omega)) ?_
        rintro e w6 ⟨rfl, d6, rfl⟩
        refine ⟨_, rfl, ?_⟩
        refine lin_now 13 (.bool false) (some 58) (by kernel_rfl) (by kernel_rfl) (by kernel_rfl) ?_
        refine lin_now 14 (.bool false) (some 59) (by kernel_rfl) (by kernel_rfl) (by kernel_rfl) ?_
        refine lin_now 15 (.bool false) (some 60) (by kernel_rfl) (by kernel_rfl) (by kernel_rfl) ?_
        refine lin_now 16 (.int .i64 nn) (some 61) (by kernel_rfl) (by kernel_rfl) (by kernel_rfl) ?_
        refine lin_call 17 14 #[.int .i64 nn] (some 62) _ (by kernel_rfl) (by kernel_rfl) (by kernel_rfl) (need_walk nn _) ?_
        rintro e w7 ⟨rfl, rfl⟩
        refine ⟨_, rfl, ?_⟩
        refine lin_now 18 (.int .i64 nn) (some 63) (by kernel_rfl) (by kernel_rfl) (by kernel_rfl) ?_
        refine lin_call 19 15 #[.int .i64 nn] (some 64) _ (by kernel_rfl) (by kernel_rfl) (by kernel_rfl) (rlneed_walk nn _) ?_
        rintro e w7 ⟨rfl, rfl⟩
        refine ⟨_, rfl, ?_⟩
        refine lin_now 20 (.bool (needI nn != needI nn)) (some 65) (by kernel_rfl) (by kernel_rfl) (by kernel_rfl) ?_
        rw [show (needI nn != needI nn) = false by simp]
        refine lin_now 21 (.bool false) (some 66) (by kernel_rfl) (by kernel_rfl) (by kernel_rfl) ?_
        refine lin_done 22 (by kernel_rfl) ?_
        have bb7 : Below w4.heap.size w4 ((w4.drewN d5).drewN d6) := (below_drewN w4 d5).trans (below_drewN (w4.drewN d5) d6)
        have BE7 : Hid (Below B w ((w4.drewN d5).drewN d6)) := BE4.out.trans (bb7.mono S4.out)
        have S7 : Hid (B ≤ ((w4.drewN d5).drewN d6).heap.size) := Nat.le_trans S4.out bb7.size
        have P7 := Lib.hid (P4.out.below bb7)
        clear bb7 BE4 S4 HCA U4 V4 P4 Q4 N2
        generalize (w4.drewN d5).drewN d6 = W7 at *
        generalize hact : Act.put _ (some 66) _ = act
        simp only [Act.put, List.setIfInBounds_toArray, List.set_cons_succ, List.set_cons_zero] at hact
        subst hact
        obtain ⟨q, hq⟩ : ∃ q, Hid (W7.heap.size = q) := ⟨_, rfl⟩
        go_upto_region 12 with (fail)
        refine lin_begin (opsOf Tryd.f3 12) (by kernel_rfl) ?_
        refine lin_newrow 0 37 [] q 0 (some 70) (by kernel_rfl) (by kernel_rfl) hq (by kernel_rfl) ?_
        intro w8 b8 be8 hs8
        have bb8 : Below W7.heap.size W7 w8 := by rw [hq.out]; exact be8
        have z8 : B ≤ w8.heap.size := Nat.le_trans S7.out bb8.size
        have BE8 : Below B w w8 := BE7.out.trans (bb8.mono S7.out)
        refine lin_now 1 (.slice (some ⟨G, 0, none⟩) k k) (some 71) (by kernel_rfl) (by kernel_rfl) (by kernel_rfl) ?_
        refine lin_appendblk 2 (some 72) (by kernel_rfl) (by kernel_rfl) (by kernel_rfl) (.tmp 70) (.tmp 71) (by kernel_rfl) q _ 0 [] (by kernel_rfl) (blk_own (n := 0) (l := []) b8 rfl (Nat.le_refl _) (by omega)) _ k L (by kernel_rfl) (P7.out.below bb8) trivial (by omega) (by rw [hs8.out]; omega) ?_
        intro v9 w9 ho9 hg9
        rw [List.nil_append, Nat.zero_add] at ho9
        have BQ9 : Below q W7 w9 := be8.grown hg9 (by rw [hs8.out]; omega) (fun j hj => by cases hj; exact Nat.le_refl _)
        have BE9 : Below B w w9 := BE7.out.trans (BQ9.mono (by have := S7.out; have := hq.out; omega))
        have z9 : q ≤ w9.heap.size := by have := BQ9.size; have := hq.out; omega
        refine lin_now 3 (.slice ba nb bc) (some 73) (by kernel_rfl) (by kernel_rfl) (by kernel_rfl) ?_
        refine lin_appendblk 4 (some 74) (by kernel_rfl) (by kernel_rfl) (by kernel_rfl) (.tmp 72) (.tmp 73) (by kernel_rfl) q v9 k L (by kernel_rfl) ho9 _ nb lb (by kernel_rfl) (HV.out.below (by rw [hB.out]; exact BE9)) HVN.out (by omega) z9 ?_
        intro v10 w10 ho10 hg10
        have BE10 : Below B w w10 := BE9.grown hg10 (by have := S7.out; have := hq.out; omega) (fun j hj => by have h1 := (ho9.row j hj).1; have := S7.out; have := hq.out; omega)
        have HUP := Lib.hid (unp_pack (gen := g) (num := m) (rec := rec) (tail := lb) (n := k + nb) HOK.out (by rw [hn.out, hk.out]; omega))
        rw [hL.out, hn.out] at HUP
        have hcu := unpack_ok (g : Int) (m : Int) v10 (k + nb) (L ++ lb) w10 ho10.in (bytes_app (by rw [← hL.out]; exact packF_bytes g m HB.out) HVB.out) (by omega) HUP.out.2.2 (HK.out.below BE10 HKB.out)
        rw [HUP.out.2.1, HUP.out.1, hk.out] at hcu
        refine lin_now 5 (.int .i64 (g : Int)) (some 75) (by kernel_rfl) (by kernel_rfl) (by kernel_rfl) ?_
        refine lin_now 6 (.int .i64 (m : Int)) (some 76) (by kernel_rfl) (by kernel_rfl) (by kernel_rfl) ?_
        refine lin_call 7 16 #[v10, .int .i64 (g : Int), .int .i64 (m : Int)] (some 77) _ (by kernel_rfl) (by kernel_rfl) (by kernel_rfl) (hcu) ?_
        rintro e w11 ⟨v11, rfl, hv11, -, hb11⟩
        refine ⟨_, rfl, ?_⟩
        refine lin_now 8 (.tuple #[v11, .int .i64 (k : Int), .bool true]) (some 69) (by kernel_rfl) (by kernel_rfl) (by kernel_rfl) ?_
        refine lin_now 9 (v11) (some 78) (by kernel_rfl) (by kernel_rfl) (by kernel_rfl) ?_
        refine lin_now 10 (.int .i64 (k : Int)) (some 79) (by kernel_rfl) (by kernel_rfl) (by kernel_rfl) ?_
        refine lin_now 11 (.bool true) (some 80) (by kernel_rfl) (by kernel_rfl) (by kernel_rfl) ?_
        refine lin_now 12 (v11) (some 16) (by kernel_rfl) (by kernel_rfl) (by kernel_rfl) ?_
        refine lin_now 13 (.int .i64 (k : Int)) (some 17) (by kernel_rfl) (by kernel_rfl) (by kernel_rfl) ?_
        refine lin_now 14 (.bool true) (some 18) (by kernel_rfl) (by kernel_rfl) (by kernel_rfl) ?_
        refine lin_done 15 (by kernel_rfl) ?_
        have BE11 : Hid (Below B w w11) := BE10.trans (hb11.mono (by have := BE10.size; have := hB.out; omega))
        have V11 := Lib.hid hv11
        have U11 : Hid (BytesIn w11 (.slice ua n uc) rec) := HU.out.below BE11.out (Nat.le_of_eq hB.out)
        have HZ : Hid (needI (n : Int) = (k : Int)) := (needI_nat n n2000).trans (by rw [hk.out])
        clear hcu HUP BE10 ho10 hg10 BE9 z9 ho9 hg9 BQ9 b8 be8 hs8 bb8 z8 BE8 hv11 hb11 hq P7 BE7 S7
        generalize hact : Act.put _ (some 18) _ = act
        simp only [Act.put, List.setIfInBounds_toArray, List.set_cons_succ, List.set_cons_zero] at hact
        subst hact
        go_upto_region 13 with (fail)
        refine lin_begin (opsOf Tryd.f3 13) (by kernel_rfl) ?_
        refine lin_now 0 (.bool true) (some 81) (by kernel_rfl) (by kernel_rfl) (by kernel_rfl) ?_
        refine lin_now 1 (.bool true) (some 82) (by kernel_rfl) (by kernel_rfl) (by kernel_rfl) ?_
        refine lin_now 2 (.int .i64 (k : Int)) (some 83) (by kernel_rfl) (by kernel_rfl) (by kernel_rfl) ?_
        refine lin_now 3 (.slice (some ⟨G, 0, none⟩) k k) (some 84) (by kernel_rfl) (by kernel_rfl) (by kernel_rfl) ?_
        refine lin_now 4 (.int .i64 (k : Int)) (some 85) (by kernel_rfl) (by kernel_rfl) (by kernel_rfl) ?_
        refine lin_now 5 (.bool ((k : Int) == (k : Int))) (some 86) (by kernel_rfl) (by kernel_rfl) (by kernel_rfl) ?_
        rw [show ((k : Int) == (k : Int)) = true by simp]
        refine lin_now 6 (.bool true) (some 87) (by kernel_rfl) (by kernel_rfl) (by kernel_rfl) ?_
        refine lin_now 7 (.bool true) (some 88) (by kernel_rfl) (by kernel_rfl) (by kernel_rfl) ?_
        refine lin_now 8 (v11) (some 89) (by kernel_rfl) (by kernel_rfl) (by kernel_rfl) ?_
        refine lin_now 9 (.slice ua n uc) (some 90) (by kernel_rfl) (by kernel_rfl) (by kernel_rfl) ?_
        refine lin_call 10 13 #[v11, .slice ua n uc] (some 91) _ (by kernel_rfl) (by kernel_rfl) (by kernel_rfl) (sameb_true _ _ rec _ V11.out U11.out (by rw [hn.out]; omega)) ?_
        rintro e w12 ⟨rfl, d12, rfl⟩
        refine ⟨_, rfl, ?_⟩
        refine lin_now 11 (.bool true) (some 92) (by kernel_rfl) (by kernel_rfl) (by kernel_rfl) ?_
        refine lin_now 12 (.bool true) (some 93) (by kernel_rfl) (by kernel_rfl) (by kernel_rfl) ?_
        refine lin_now 13 (.int .i64 (k : Int)) (some 94) (by kernel_rfl) (by kernel_rfl) (by kernel_rfl) ?_
        refine lin_now 14 (.slice ua n uc) (some 95) (by kernel_rfl) (by kernel_rfl) (by kernel_rfl) ?_
        refine lin_now 15 (.int .i64 (n : Int)) (some 96) (by kernel_rfl) (by kernel_rfl) (by kernel_rfl) ?_
        refine lin_call 16 14 #[.int .i64 (n : Int)] (some 97) _ (by kernel_rfl) (by kernel_rfl) (by kernel_rfl) (need_walk _ _) ?_
        rintro e w13 ⟨rfl, rfl⟩
        refine ⟨_, rfl, ?_⟩
        rw [HZ.out]
        refine lin_now 17 (.bool ((k : Int) == (k : Int))) (some 98) (by kernel_rfl) (by kernel_rfl) (by kernel_rfl) ?_
        rw [show ((k : Int) == (k : Int)) = true by simp]
        refine lin_now 18 (.bool true) (some 99) (by kernel_rfl) (by kernel_rfl) (by kernel_rfl) ?_
        refine lin_now 19 (.bool true) (some 10) (by kernel_rfl) (by kernel_rfl) (by kernel_rfl) ?_
        refine lin_done 20 (by kernel_rfl) ?_
        have BE12 : Hid (Below B w (w11.drewN d12)) := BE11.out.trans ((below_drewN w11 d12).mono (by have := BE11.out.size; have := hB.out; omega))
        clear BE11 V11 U11
        generalize w11.drewN d12 = W12 at *
        generalize hact : Act.put _ (some 10) _ = act
        simp only [Act.put, List.setIfInBounds_toArray, List.set_cons_succ, List.set_cons_zero] at hact
        subst hact
        go_wp2
        go_ret
        exact ⟨rfl, BE12.out⟩
      · have HOK := Lib.hid hok
        clear hok
        go_wp2_with fail
        refine (pack_no gen num va n vc _ HOK.out).mono ?_
        rintro e w3 ⟨rfl, rfl⟩
        have U3 : Hid (BytesIn w2 (.slice ua n uc) rec) := HU.out.below BE2.out (Nat.le_of_eq hB.out)
        go_wp2_with fail
        refine (rlpack_no gen num ua n uc _ HOK.out).mono ?_
        rintro e w4 ⟨rfl, rfl⟩
        have HCA := Lib.hid (lsame_walk _ _ 0 [] [] w2 (blks_nil _) (blks_nil _) (by omega))
        rw [decide_eq_true rfl] at HCA
        go_upto_region 8 with (fail)
        refine lin_begin (opsOf Tryd.f3 8) (by kernel_rfl) ?_
        refine lin_now 0 (.bool false) (some 45) (by kernel_rfl) (by kernel_rfl) (by kernel_rfl) ?_
        refine lin_now 1 (.bool false) (some 46) (by kernel_rfl) (by kernel_rfl) (by kernel_rfl) ?_
        refine lin_now 2 (.bool false) (some 47) (by kernel_rfl) (by kernel_rfl) (by kernel_rfl) ?_
        refine lin_now 3 (.bool false) (some 48) (by kernel_rfl) (by kernel_rfl) (by kernel_rfl) ?_
        refine lin_now 4 (.slice none 0 0) (some 49) (by kernel_rfl) (by kernel_rfl) (by kernel_rfl) ?_
        refine lin_now 5 (.slice none 0 0) (some 50) (by kernel_rfl) (by kernel_rfl) (by kernel_rfl) ?_
        refine lin_call 6 12 #[.slice none 0 0, .slice none 0 0] (some 51) _ (by kernel_rfl) (by kernel_rfl) (by kernel_rfl) (HCA.out) ?_
        rintro e w5 ⟨rfl, d5, rfl⟩
        refine ⟨_, rfl, ?_⟩
        refine lin_now 7 (.bool false) (some 52) (by kernel_rfl) (by kernel_rfl) (by kernel_rfl) ?_
        refine lin_now 8 (.bool false) (some 53) (by kernel_rfl) (by kernel_rfl) (by kernel_rfl) ?_
        refine lin_now 9 (.bool false) (some 54) (by kernel_rfl) (by kernel_rfl) (by kernel_rfl) ?_
        refine lin_now 10 (.slice va n vc) (some 55) (by kernel_rfl) (by kernel_rfl) (by kernel_rfl) ?_
        refine lin_now 11 (.slice ua n uc) (some 56) (by kernel_rfl) (by kernel_rfl) (by kernel_rfl) ?_
        refine lin_call 12 13 #[.slice va n vc, .slice ua n uc] (some 57) _ (by kernel_rfl) (by kernel_rfl) (by kernel_rfl) (sameb_true _ _ rec _ (V2.out.drewN d5) (U3.out.drewN d5) (by rw [hn.out]; omega)) ?_
        rintro e w6 ⟨rfl, d6, rfl⟩
        refine ⟨_, rfl, ?_⟩
        refine lin_now 13 (.bool false) (some 58) (by kernel_rfl) (by kernel_rfl) (by kernel_rfl) ?_
        refine lin_now 14 (.bool false) (some 59) (by kernel_rfl) (by kernel_rfl) (by kernel_rfl) ?_
        refine lin_now 15 (.bool false) (some 60) (by kernel_rfl) (by kernel_rfl) (by kernel_rfl) ?_
        refine lin_now 16 (.int .i64 nn) (some 61) (by kernel_rfl) (by kernel_rfl) (by kernel_rfl) ?_
        refine lin_call 17 14 #[.int .i64 nn] (some 62) _ (by kernel_rfl) (by kernel_rfl) (by kernel_rfl) (need_walk nn _) ?_
        rintro e w7 ⟨rfl, rfl⟩
        refine ⟨_, rfl, ?_⟩
        refine lin_now 18 (.int .i64 nn) (some 63) (by kernel_rfl) (by kernel_rfl) (by kernel_rfl) ?_
        refine lin_call 19 15 #[.int .i64 nn] (some 64) _ (by kernel_rfl) (by kernel_rfl) (by kernel_rfl) (rlneed_walk nn _) ?_
        rintro e w7 ⟨rfl, rfl⟩
        refine ⟨_, rfl, ?_⟩
        refine lin_now 20 (.bool (needI nn != needI nn)) (some 65) (by kernel_rfl) (by kernel_rfl) (by kernel_rfl) ?_
        rw [show (needI nn != needI nn) = false by simp]
        refine lin_now 21 (.bool false) (some 66) (by kernel_rfl) (by kernel_rfl) (by kernel_rfl) ?_
        refine lin_done 22 (by kernel_rfl) ?_
        have bb7 : Below w2.heap.size w2 ((w2.drewN d5).drewN d6) := (below_drewN w2 d5).trans (below_drewN (w2.drewN d5) d6)
        have BE7 : Hid (Below B w ((w2.drewN d5).drewN d6)) := BE2.out.trans (bb7.mono S2.out)
        clear bb7 BE2 HCA U3 V2 K2
        generalize (w2.drewN d5).drewN d6 = W7 at *
        generalize hact : Act.put _ (some 66) _ = act
        simp only [Act.put, List.setIfInBounds_toArray, List.set_cons_succ, List.set_cons_zero] at hact
        subst hact
        go_wp2
        go_ret
        exact ⟨rfl, BE7.out⟩
end Go.Proofs.YtaeghgnhpgkcdaaDoor
