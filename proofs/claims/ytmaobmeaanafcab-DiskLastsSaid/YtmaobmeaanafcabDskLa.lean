/- DiskLasts answers true. -/
import Derived.Test.YtmaobmeaanafcabDskLm
namespace Go.Proofs.Ytmaobmeaanafcab
open Go Go.RowKit
set_option maxRecDepth 100000

theorem CallsIn.len64 {w : World} {v : Value} {cs : List Cl} (h : CallsIn w v cs) : ∀ c ∈ cs, c.block.length = 64 := fun c hc => by
  obtain ⟨a, cap, h1, h2, h3⟩ := h
  obtain ⟨j, hj, rfl⟩ := List.mem_iff_getElem.1 hc
  obtain ⟨qb, qo, h4, h5, h6⟩ := h3 (by omega)
  exact (h6 j _ (List.getElem?_eq_getElem hj)).len
set_option maxHeartbeats 8000000 in
theorem lasts_main (v1 v2 u : Value) (cs1 cs2 : List Cl) (picks : List Int) (w : World) (hv1 : CallsIn w v1 cs1) (hv2 : CallsIn w v2 cs2) (hu : BytesIn w u picks) (hpb : isBytes picks) :
    Calls Try.prog 4 #[v1, v2, u] w fun e w' => e = .returned (.bool true) ∧ Below w.heap.size w w' := by
  obtain ⟨a1, cap1, rfl, hml1, -⟩ := id hv1
  obtain ⟨a2, cap2, rfl, hml2, -⟩ := id hv2
  obtain ⟨ua, uc, rfl, -⟩ := id hu
  have HC1 := Lib.hid hv1.len64
  have HC2 := Lib.hid hv2.len64
  have HV1 := Lib.hid hv1
  have HV2 := Lib.hid hv2
  have HU := Lib.hid hu
  have HPB := Lib.hid hpb
  obtain ⟨m1, hm1⟩ : ∃ m, Hid (cs1.length = m) := ⟨_, rfl⟩
  obtain ⟨m2, hm2⟩ : ∃ m, Hid (cs2.length = m) := ⟨_, rfl⟩
  obtain ⟨pn, hpn⟩ : ∃ m, Hid (picks.length = m) := ⟨_, rfl⟩
  rw [hm1.out] at HV1 hml1 ⊢
  rw [hm2.out] at HV2 hml2 ⊢
  rw [hpn.out] at HU ⊢
  clear hv1 hv2 hu hpb
  go_enter Try.func4, Try.ntmps4
  go_wp2_with fail
  refine (dalive_walk _).mono ?_
  rintro e w1 ⟨rfl, hb1⟩
  have BE1 := Lib.hid hb1
  clear hb1
  go_wp2_with fail
  refine (great_walk _ cs1 _ (HV1.out.below BE1.out)).mono ?_
  rintro e w2 ⟨gb, rfl, hgb, rfl⟩
  have HG1 := Lib.hid hgb
  clear hgb
  cases gb with
  | true =>
    go_wp2
    go_ret
    exact ⟨rfl, BE1.out⟩
  | false =>
  have h60 : m1 ≤ 60 := by have := (HG1.out rfl).1; rw [hm1.out] at this; exact this
  clear HG1
  go_wp2_with fail
  refine (great_walk _ cs2 _ (HV2.out.below BE1.out)).mono ?_
  rintro e w2 ⟨gb, rfl, hgb, rfl⟩
  have HG2 := Lib.hid hgb
  clear hgb
  cases gb with
  | true =>
    go_wp2
    go_ret
    exact ⟨rfl, BE1.out⟩
  | false =>
  have h61 : m2 ≤ 60 := by have := (HG2.out rfl).1; rw [hm2.out] at this; exact this
  by_cases hp5 : 500 < pn
  · have q5 : (500 : Int) < (pn : Int) := by omega
    go_wp2
    go_ret
    exact ⟨rfl, BE1.out⟩
  · have q5 : ¬ ((500 : Int) < (pn : Int)) := by omega
    go_wp2_with fail
    refine (new_yes 8 (by decide) (by decide) _).mono ?_
    rintro e w3 ⟨d, F3, rfl, hd3, hs3⟩
    have L3 : Hid (Lv F3 d 8 (allW (zeros 512) cs1 0) (zeros 512) (wrs cs1 0) (-1) w w3) := ⟨hd3, (Step.of_below BE1.out (Nat.le_refl _)).trans hs3⟩
    clear hd3 hs3 BE1
    go_wp2
    go_loopw [9] (fun i wr => ∃ (k : Nat) (F : List Nat), k ≤ m1 ∧ i = .int .i64 (k : Int) ∧ Lv F d 8 (allW (zeros 512) cs1 k) (zeros 512) (wrs cs1 k) (-1) w wr) (fun i _ => m1 - (intOf i).toNat)
    case atStart => exact ⟨0, F3, by omega, rfl, L3.out⟩
    case round =>
    obtain ⟨k, F, hk, rfl, hlv⟩ := hrel
    have LK := Lib.hid hlv
    clear hlv L3
    by_cases hlt : k < m1
    · have q0 : True := trivial
      clear q0
      have q1 : (k : Int) < (m1 : Int) := by omega
      obtain ⟨a', cap', he, -, hq'⟩ := HV1.out.below LK.out.st.below
      rw [hm1.out] at he hq'
      obtain ⟨e1, -, e3⟩ := Value.slice.inj he
      obtain ⟨qb, qo, hae, hqb, hcl⟩ := hq' (by omega)
      obtain ⟨c, hck⟩ : ∃ c, cs1[k]? = some c := ⟨_, List.getElem?_eq_getElem (by rw [hm1.out]; exact hlt)⟩
      have hc := hcl k c hck
      have HCW : Hid (Cw qb (qo + 67 * k) c wr) := ⟨hc.n, hc.block⟩
      have HCL := Lib.hid hc.len
      have IBC : Hid ((Try.prog.info? 33).map (·.size) = some (ints .u8 c.block).length) := infoBlk c.block hc.len
      have HQF : Hid (qb ∉ F) := fun hcon => by
        obtain ⟨a2, cap2, he2, -, hq2⟩ := HV1.out
        rw [hm1.out] at he2 hq2
        obtain ⟨e4, -, -⟩ := Value.slice.inj he2
        obtain ⟨qb2, qo2, hae2, hqb2, -⟩ := hq2 (by omega)
        have : qb = qb2 := by rw [← e4, e1, hae] at hae2; simpa using (congrArg (fun o => (o.map Addr.block)) hae2)
        have := LK.out.le qb hcon
        omega
      have HNX := Lib.hid (wrs_next cs1 k c hck)
      have HAX := Lib.hid (allW_next (zeros 512) cs1 k c hck)
      have HWL : Hid ((wrs cs1 k).length = k) := wrs_length cs1 k (by rw [hm1.out]; exact hk)
      rw [hae] at e1
      subst e1
      clear he hq' hcl hc e3
      go_upto_region 11 with (fail)
      refine region_begin (opsOf Try.f4 11) (Cw qb (qo + 67 * k) c) (by kernel_rfl) (by kernel_rfl) 13 (by kernel_rfl) ?_
      intro Q' hQN hN
      have hS : Cw qb (qo + 67 * k) c wr.drew := ⟨HCW.out.n, HCW.out.block⟩
      refine reg_now 0 (.pointer (some ⟨d, 0, none⟩)) (some 45) hQN hS (by kernel_rfl) (by kernel_rfl) (fun w => by kernel_rfl) ?_
      refine reg_now 1 (.slice (some ⟨qb, qo, none⟩) m1 cap1) (some 46) hQN hS (by kernel_rfl) (by kernel_rfl) (fun w => by kernel_rfl) ?_
      refine reg_now 2 (.int .i64 (k : Int)) (some 47) hQN hS (by kernel_rfl) (by kernel_rfl) (fun w => by kernel_rfl) ?_
      refine reg_now 3 (.pointer (some ⟨qb, qo + 67 * k, none⟩)) (some 48) hQN hS (by kernel_rfl) (by kernel_rfl) (fun w' => exec_indexAt 22 (.tmp 46) (.tmp 47) (by kernel_rfl) _ _ _ (by kernel_rfl) (by kernel_rfl) (run_at_call qb qo m1 cap1 k hlt w')) ?_
      refine reg_now 4 (.pointer (some ⟨qb, qo + 67 * k + 1, none⟩)) (some 49) hQN hS (by kernel_rfl) (by kernel_rfl) (fun w => by kernel_rfl) ?_
      refine reg_nowIf 5 (.int .i64 c.n) (some 50) hQN hS (by kernel_rfl) (by kernel_rfl) (fun w' hw => exec_load_cell 3 (.tmp 49) (by kernel_rfl) qb (qo + 67 * k + 1) (by kernel_rfl) _ hw.n _ Try.underlying3 rfl) ?_
      refine reg_now 6 (.int .i64 (bits BinOp.and IntKind.i64 c.n 7)) (some 51) hQN hS (by kernel_rfl) (by kernel_rfl) (fun w => by kernel_rfl) ?_
      refine reg_now 7 (.slice (some ⟨qb, qo, none⟩) m1 cap1) (some 52) hQN hS (by kernel_rfl) (by kernel_rfl) (fun w => by kernel_rfl) ?_
      refine reg_now 8 (.int .i64 (k : Int)) (some 53) hQN hS (by kernel_rfl) (by kernel_rfl) (fun w => by kernel_rfl) ?_
      refine reg_now 9 (.pointer (some ⟨qb, qo + 67 * k, none⟩)) (some 54) hQN hS (by kernel_rfl) (by kernel_rfl) (fun w' => exec_indexAt 22 (.tmp 52) (.tmp 53) (by kernel_rfl) _ _ _ (by kernel_rfl) (by kernel_rfl) (run_at_call qb qo m1 cap1 k hlt w')) ?_
      refine reg_now 10 (.pointer (some ⟨qb, qo + 67 * k + 2, none⟩)) (some 55) hQN hS (by kernel_rfl) (by kernel_rfl) (fun w => by kernel_rfl) ?_
      refine reg_nowIf 11 (.agg (ints .u8 c.block).toArray) (some 56) hQN hS (by kernel_rfl) (by kernel_rfl) (fun w' hw => exec_load_mid 33 (.tmp 55) (by kernel_rfl) qb (qo + 67 * k + 2) (by kernel_rfl) (ints .u8 c.block) _ hw.block Try.underlying33 rfl IBC.out) ?_
      rw [sec_int c]
      refine reg_call 12 12 #[.pointer (some ⟨d, 0, none⟩), .int .i64 (sec c : Int), .agg (ints .u8 c.block).toArray] (some 57) _ (by kernel_rfl) (by kernel_rfl) (by kernel_rfl) (write_ok d 8 (sec c) F (allW (zeros 512) cs1 k) (zeros 512) (wrs cs1 k) (-1) c.block wr.drew (LK.out.dk.below (Below.refl _ _).drew) (sec_lt c) HCL.out (by decide) (by decide) (by rw [HWL.out]; omega)) ?_
      rintro e W4 ⟨rfl, F4, hd4, hs4⟩
      refine ⟨_, rfl, hS.step hs4 (by exact hqb) HQF.out, ?_⟩
      refine reg_done (by kernel_rfl) (hN _ _ ?_)
      have L4 : Hid (Lv F4 d 8 (allW (zeros 512) cs1 (k + 1)) (zeros 512) (wrs cs1 (k + 1)) (-1) w W4) := by
        rw [if_neg (by decide)] at hd4
        unfold Hid
        rw [HNX.out, HAX.out]
        exact (LK.out.below (Below.refl _ _).drew).step hd4 hs4
      clear hQN hN hS hd4 hs4 LK HCW
      generalize hact : Act.put _ (some 57) _ = act
      simp only [Act.put, List.setIfInBounds_toArray, List.set_cons_succ, List.set_cons_zero] at hact
      subst hact
      go_wp2
      exact ⟨⟨k + 1, F4, by omega, by go_num, L4.out⟩, by simp [intOf]; omega⟩
    · have q1 : ¬ (k : Int) < (m1 : Int) := by omega
      obtain rfl : k = m1 := by omega
      have HWL : Hid ((wrs cs1 k).length = k) := wrs_length cs1 k (by rw [hm1.out]; exact Nat.le_refl _)
      have HFW := Lib.hid (flush_walk d 8 F (allW (zeros 512) cs1 k) (zeros 512) (wrs cs1 k) (-1) _ LK.out.dk (by rw [HWL.out]; omega))
      have HAW : Hid (applyK (zeros 512) (wrs cs1 k) (wrs cs1 k).length = allW (zeros 512) cs1 k) := rfl
      rw [HAW.out] at HFW
      obtain ⟨S, hS1⟩ : ∃ S, Hid (allW (zeros 512) cs1 k = S) := ⟨_, rfl⟩
      rw [hS1.out] at HFW LK
      go_wp2_with fail
      refine HFW.out.mono ?_
      rintro e w5 ⟨rfl, F5, hd5, hs5⟩
      have L5 : Hid (Lv F5 d 8 S S [] (-1) w w5) := LK.out.step hd5 hs5
      clear hd5 hs5 LK HFW HAW
      have HSL : Hid (S.length = 64 * 8) := by obtain ⟨_, _, _, _, _, _, _, _, hx⟩ := L5.out.dk; exact hx.ls
      go_wp2_with fail
      refine (image_walk d 8 F5 S S [] (-1) _ L5.out.dk).mono ?_
      rintro e w6 ⟨iv, rfl, hiv, hb6⟩
      have L6 : Hid (Lv F5 d 8 (allW S cs2 0) S (wrs cs2 0) (-1) w w6) := L5.out.below hb6
      have I6 : Hid (BytesOff F5 w6 iv S) := owns_off hiv L5.out.dk.lt
      obtain ⟨ia, ic, hie, -, hir⟩ := id I6.out
      rw [HSL.out] at hie hir
      obtain ⟨ib, io, hia, -, -, -⟩ := hir (by decide)
      rw [hia] at hie
      subst hie
      clear hiv hb6 L5 hir hia
      go_wp2
      go_loopw [11] (fun i wr => ∃ (k : Nat) (F : List Nat), k ≤ m2 ∧ i = .int .i64 (k : Int) ∧ Lv F d 8 (allW S cs2 k) S (wrs cs2 k) (-1) w wr ∧ BytesOff F wr (.slice (some ⟨ib, io, none⟩) (64 * 8) ic) S) (fun i _ => m2 - (intOf i).toNat)
      case atStart => exact ⟨0, F5, by omega, rfl, L6.out, I6.out⟩
      case round =>
      rename_i k1
      obtain ⟨k, F, hk, rfl, hlv, hio⟩ := hrel
      have LK := Lib.hid hlv
      have IK := Lib.hid hio
      clear hlv hio L6 I6
      by_cases hlt : k < m2
      · have q0 : True := trivial
        clear q0
        have q1 : (k : Int) < (m2 : Int) := by omega
        obtain ⟨a', cap', he, -, hq'⟩ := HV2.out.below LK.out.st.below
        rw [hm2.out] at he hq'
        obtain ⟨e1, -, e3⟩ := Value.slice.inj he
        obtain ⟨qb, qo, hae, hqb, hcl⟩ := hq' (by omega)
        obtain ⟨c, hck⟩ : ∃ c, cs2[k]? = some c := ⟨_, List.getElem?_eq_getElem (by rw [hm2.out]; exact hlt)⟩
        have hc := hcl k c hck
        have HCW : Hid (Cw qb (qo + 67 * k) c wr) := ⟨hc.n, hc.block⟩
        have HCL := Lib.hid hc.len
        have IBC : Hid ((Try.prog.info? 33).map (·.size) = some (ints .u8 c.block).length) := infoBlk c.block hc.len
        have HQF : Hid (qb ∉ F) := fun hcon => by
          obtain ⟨a2, cap2, he2, -, hq2⟩ := HV2.out
          rw [hm2.out] at he2 hq2
          obtain ⟨e4, -, -⟩ := Value.slice.inj he2
          obtain ⟨qb2, qo2, hae2, hqb2, -⟩ := hq2 (by omega)
          have : qb = qb2 := by rw [← e4, e1, hae] at hae2; simpa using (congrArg (fun o => (o.map Addr.block)) hae2)
          have := LK.out.le qb hcon
          omega
        have HNX := Lib.hid (wrs_next cs2 k c hck)
        have HAX := Lib.hid (allW_next S cs2 k c hck)
        have HWL : Hid ((wrs cs2 k).length = k) := wrs_length cs2 k (by rw [hm2.out]; exact hk)
        rw [hae] at e1
        subst e1
        clear he hq' hcl hc e3
        go_upto_region 17 with (fail)
        refine region_begin (opsOf Try.f4 17) (Cw qb (qo + 67 * k) c) (by kernel_rfl) (by kernel_rfl) 13 (by kernel_rfl) ?_
        intro Q' hQN hN
        have hS : Cw qb (qo + 67 * k) c wr.drew := ⟨HCW.out.n, HCW.out.block⟩
        refine reg_now 0 (.pointer (some ⟨d, 0, none⟩)) (some 68) hQN hS (by kernel_rfl) (by kernel_rfl) (fun w => by kernel_rfl) ?_
        refine reg_now 1 (.slice (some ⟨qb, qo, none⟩) m2 cap2) (some 69) hQN hS (by kernel_rfl) (by kernel_rfl) (fun w => by kernel_rfl) ?_
        refine reg_now 2 (.int .i64 (k : Int)) (some 70) hQN hS (by kernel_rfl) (by kernel_rfl) (fun w => by kernel_rfl) ?_
        refine reg_now 3 (.pointer (some ⟨qb, qo + 67 * k, none⟩)) (some 71) hQN hS (by kernel_rfl) (by kernel_rfl) (fun w' => exec_indexAt 22 (.tmp 69) (.tmp 70) (by kernel_rfl) _ _ _ (by kernel_rfl) (by kernel_rfl) (run_at_call qb qo m2 cap2 k hlt w')) ?_
        refine reg_now 4 (.pointer (some ⟨qb, qo + 67 * k + 1, none⟩)) (some 72) hQN hS (by kernel_rfl) (by kernel_rfl) (fun w => by kernel_rfl) ?_
        refine reg_nowIf 5 (.int .i64 c.n) (some 73) hQN hS (by kernel_rfl) (by kernel_rfl) (fun w' hw => exec_load_cell 3 (.tmp 72) (by kernel_rfl) qb (qo + 67 * k + 1) (by kernel_rfl) _ hw.n _ Try.underlying3 rfl) ?_
        refine reg_now 6 (.int .i64 (bits BinOp.and IntKind.i64 c.n 7)) (some 74) hQN hS (by kernel_rfl) (by kernel_rfl) (fun w => by kernel_rfl) ?_
        refine reg_now 7 (.slice (some ⟨qb, qo, none⟩) m2 cap2) (some 75) hQN hS (by kernel_rfl) (by kernel_rfl) (fun w => by kernel_rfl) ?_
        refine reg_now 8 (.int .i64 (k : Int)) (some 76) hQN hS (by kernel_rfl) (by kernel_rfl) (fun w => by kernel_rfl) ?_
        refine reg_now 9 (.pointer (some ⟨qb, qo + 67 * k, none⟩)) (some 77) hQN hS (by kernel_rfl) (by kernel_rfl) (fun w' => exec_indexAt 22 (.tmp 75) (.tmp 76) (by kernel_rfl) _ _ _ (by kernel_rfl) (by kernel_rfl) (run_at_call qb qo m2 cap2 k hlt w')) ?_
        refine reg_now 10 (.pointer (some ⟨qb, qo + 67 * k + 2, none⟩)) (some 78) hQN hS (by kernel_rfl) (by kernel_rfl) (fun w => by kernel_rfl) ?_
        refine reg_nowIf 11 (.agg (ints .u8 c.block).toArray) (some 79) hQN hS (by kernel_rfl) (by kernel_rfl) (fun w' hw => exec_load_mid 33 (.tmp 78) (by kernel_rfl) qb (qo + 67 * k + 2) (by kernel_rfl) (ints .u8 c.block) _ hw.block Try.underlying33 rfl IBC.out) ?_
        rw [sec_int c]
        refine reg_call 12 12 #[.pointer (some ⟨d, 0, none⟩), .int .i64 (sec c : Int), .agg (ints .u8 c.block).toArray] (some 80) _ (by kernel_rfl) (by kernel_rfl) (by kernel_rfl) (write_ok d 8 (sec c) F (allW S cs2 k) S (wrs cs2 k) (-1) c.block wr.drew (LK.out.dk.below (Below.refl _ _).drew) (sec_lt c) HCL.out (by decide) (by decide) (by rw [HWL.out]; omega)) ?_
        rintro e W4 ⟨rfl, F4, hd4, hs4⟩
        refine ⟨_, rfl, hS.step hs4 (by exact hqb) HQF.out, ?_⟩
        refine reg_done (by kernel_rfl) (hN _ _ ?_)
        have L4 : Hid (Lv F4 d 8 (allW S cs2 (k + 1)) S (wrs cs2 (k + 1)) (-1) w W4) := by
          rw [if_neg (by decide)] at hd4
          unfold Hid
          rw [HNX.out, HAX.out]
          exact (LK.out.below (Below.refl _ _).drew).step hd4 hs4
        have I4 : Hid (BytesOff F4 W4 (.slice (some ⟨ib, io, none⟩) (64 * 8) ic) S) := (IK.out.step (Step.of_below (Below.refl _ _).drew (Nat.le_refl _))).step hs4
        clear hQN hN hS hd4 hs4 LK IK HCW
        generalize hact : Act.put _ (some 80) _ = act
        simp only [Act.put, List.setIfInBounds_toArray, List.set_cons_succ, List.set_cons_zero] at hact
        subst hact
        go_wp2
        exact ⟨⟨k + 1, F4, by omega, by go_num, L4.out, I4.out⟩, by simp [intOf]; omega⟩
      · have q2 : ¬ (k : Int) < (m2 : Int) := by omega
        obtain rfl : k = m2 := by omega
        have HWL2 : Hid ((wrs cs2 k).length = k) := wrs_length cs2 k (by rw [hm2.out]; exact Nat.le_refl _)
        have HUF : Hid (BytesOff F wr (.slice ua pn uc) picks) := LK.out.bytes HU.out
        have HCR := Lib.hid (crash_walk d 8 F (allW S cs2 k) S (wrs cs2 k) (-1) (.slice ua pn uc) picks _ LK.out.dk (by rw [HWL2.out]; omega) HUF.out HPB.out (by rw [hpn.out]; omega))
        obtain ⟨A, hA⟩ : ∃ A, Hid (seenK (allW S cs2 k) (crashK S (wrs cs2 k) picks (wrs cs2 k).length) (wrs cs2 k) (wrs cs2 k).length = A) := ⟨_, rfl⟩
        have HGD : Hid (∀ p, p < 512 → fnK cs2 p (A.getD p 0) (S.getD p 0) k = true) := fun p hp => by
          have h1 := good_last (picks := picks) HSL.out (wrs_ok cs2 k HC2.out) HPB.out p hp
          have e : applyK S (wrs cs2 k) (wrs cs2 k).length = allW S cs2 k := rfl
          rw [e, hA.out] at h1
          rw [← hm2.out] at h1 ⊢
          exact fnK_good h1
        rw [hA.out] at HCR
        go_wp2_with fail
        refine HCR.out.mono ?_
        rintro e w7 ⟨rfl, F7, hd7, hs7⟩
        have L7 := Lib.hid (LK.out.step hd7 hs7)
        have I7 := Lib.hid (IK.out.step hs7)
        clear hd7 hs7 LK IK HCR HUF
        go_wp2_with fail
        refine (image_walk d 8 F7 A _ [] (-1) _ L7.out.dk).mono ?_
        rintro e w8 ⟨jv, rfl, hjv, hb8⟩
        have L8 := Lib.hid (L7.out.below hb8)
        have I8 := Lib.hid (I7.out.step (Step.of_below hb8 (Nat.le_refl _)))
        have J8 := Lib.hid (owns_bytes hjv)
        have HAL : Hid (A.length = 64 * 8) := by obtain ⟨_, _, _, _, _, _, _, _, hx⟩ := L7.out.dk; exact hx.ls
        obtain ⟨ja, jc, hje, -, hjr⟩ := id J8.out
        rw [HAL.out] at hje hjr
        obtain ⟨jb, jo, hja, -, hjr2⟩ := hjr (by decide)
        rw [hja] at hje
        subst hje
        have JR := Lib.hid hjr2
        have IR : Hid (w8.rangeAt ib io (ints .u8 S)) := by
          obtain ⟨a', c', e', -, hp'⟩ := I8.out
          obtain ⟨e1, -, -⟩ := Value.slice.inj e'
          obtain ⟨pb', po', e2, -, -, e4⟩ := hp' (by rw [HSL.out]; decide)
          rw [← e1] at e2
          simp at e2
          obtain ⟨rfl, rfl⟩ := e2
          exact e4
        clear hjv hb8 L7 I7 J8 hjr hja hjr2
        have hnum : ((64 * 8 : Nat) : Int) = 512 := rfl
        go_wp2_with fail
        refine (pending_walk d 8 F7 A _ [] (-1) _ L8.out.dk).mono ?_
        rintro e w9 ⟨rfl, rfl⟩
        rw [show (([] : List Wr).length : Int) = 0 from rfl]
        have BEF := Lib.hid L8.out.st.below
        have HV2F := Lib.hid (HV2.out.below BEF.out)
        clear L8 I8
        go_wp2
        go_loopw [13, 14] (fun i fv wr => ∃ p : Nat, p ≤ 512 ∧ i = .int .i64 (p : Int) ∧ Hid (∃ nq, wr = w8.drewN nq)) (fun i _ _ => 512 - (intOf i).toNat)
        case atStart => exact ⟨0, by omega, rfl, ⟨0, rfl⟩⟩
        case round =>
        obtain ⟨p, hp, rfl, HW⟩ := hrel
        by_cases hpl : p < 512
        · have q3 : (p : Int) < 512 := by omega
          have n3 : p < 64 * 8 := by omega
          have ca : wr.cell? ⟨jb, jo + p, none⟩ = some (.int .u8 (A.getD p 0)) := by obtain ⟨nq, e⟩ := HW.out; rw [e]; exact JR.out p _ (ints_getD (by rw [HAL.out]; exact n3))
          have ci : wr.cell? ⟨ib, io + p, none⟩ = some (.int .u8 (S.getD p 0)) := by obtain ⟨nq, e⟩ := HW.out; rw [e]; exact IR.out p _ (ints_getD (by rw [HSL.out]; exact n3))
          have HGP := Lib.hid (HGD.out p hpl)
          have HAP : Hid (∀ nq, (w8.drewN nq).cell? ⟨jb, jo + p, none⟩ = some (.int .u8 (A.getD p 0))) := fun nq => JR.out p _ (ints_getD (by rw [HAL.out]; exact n3))
          generalize A.getD p 0 = x at *
          generalize S.getD p 0 = y at *
          obtain ⟨b0, hb0⟩ : ∃ b0, Hid (fnK cs2 p x y 0 = b0) := ⟨_, rfl⟩
          have hxy : (x == y) = b0 := by rw [← hb0.out, fnK]; by_cases h : x = y <;> simp [h]
          go_wp2
          go_quiet (fail)
          go_wp2
          clear hxy ca ci
          go_loopw [15, 14] (fun i fv wr => ∃ j : Nat, j ≤ k ∧ i = .int .i64 (j : Int) ∧ fv = .bool (fnK cs2 p x y j) ∧ Hid (∃ nq, wr = w8.drewN nq)) (fun i _ _ => k - (intOf i).toNat)
          case atStart => exact ⟨0, by omega, rfl, by rw [hb0.out], by obtain ⟨n0, e⟩ := HW.out; exact ⟨n0 + nq, by rw [e, World.drewN_drewN]⟩⟩
          case round =>
          rename_i wp
          obtain ⟨j, hj, rfl, rfl, HW2⟩ := hrel
          by_cases hjl : j < k
          · have q4 : (j : Int) < (k : Int) := by omega
            obtain ⟨a', cap', he, -, hq'⟩ := HV2F.out
            rw [hm2.out] at he hq'
            obtain ⟨e1, -, e3⟩ := Value.slice.inj he
            obtain ⟨qb, qo, hae, hqb, hcl⟩ := hq' (by omega)
            obtain ⟨c, hck⟩ : ∃ c, cs2[j]? = some c := ⟨_, List.getElem?_eq_getElem (by rw [hm2.out]; exact hjl)⟩
            have hc := hcl j c hck
            have HGC : Hid (cs2.getD j ⟨0, 0, [], []⟩ = c) := by unfold Hid; rw [List.getD_eq_getElem?_getD, hck]; rfl
            rw [hae] at e1
            subst e1
            have cn : wr.cell? ⟨qb, qo + 67 * j + 1, none⟩ = some (.int .i64 c.n) := by obtain ⟨nq, e⟩ := HW2.out; rw [e]; exact hc.n
            have cb : wr.cell? ⟨qb, qo + 67 * j + 2 + p % 64, none⟩ = some (.int .u8 (c.block.getD (p % 64) 0)) := by obtain ⟨nq, e⟩ := HW2.out; rw [e]; exact hc.block (p % 64) _ (ints_getD (by rw [hc.len]; exact Nat.mod_lt _ (by decide)))
            have ca : wr.cell? ⟨jb, jo + p, none⟩ = some (.int .u8 x) := by obtain ⟨nq, e⟩ := HW2.out; rw [e]; exact HAP.out nq
            have hrun := fun w => run_at_call qb qo k cap2 j hjl w
            have HSI := Lib.hid (sec_int c)
            have HFN : Hid (fnK cs2 p x y (j + 1) = (fnK cs2 p x y j || (decide (sec c = p / 64) && decide (c.block.getD (p % 64) 0 = x)))) := by unfold Hid; rw [fnK, HGC.out]
            clear he hq' hcl hc e3 hck
            generalize c.block.getD (p % 64) 0 = bk at *
            obtain ⟨f0, hf0⟩ : ∃ f, Hid (fnK cs2 p x y j = f) := ⟨_, rfl⟩
            rw [hf0.out] at HFN ⊢
            cases f0 with
            | true =>
              go_wp2
              go_quiet (fail)
              go_wp2
              exact ⟨⟨j + 1, by omega, by go_num, by rw [HFN.out]; rfl, by obtain ⟨n0, e⟩ := HW2.out; exact ⟨n0 + nq, by rw [e, World.drewN_drewN]⟩⟩, by simp [intOf]; omega⟩
            | false =>
              have t1 : Int.tdiv (p : Int) 64 = (p : Int) / 64 := Int.tdiv_eq_ediv_of_nonneg (by omega)
              have t2 : Int.tmod (p : Int) 64 = (p : Int) % 64 := Int.tmod_eq_emod_of_nonneg (by omega)
              have t3 : ((p : Int) % 64).toNat = p % 64 := by omega
              have t4 : 0 ≤ (p : Int) % 64 := by omega
              have t5 : (p : Int) % 64 < 64 := by omega
              have t6 : (p : Int) / 64 = ((p / 64 : Nat) : Int) := rfl
              by_cases hsec : sec c = p / 64
              · have sq : (bits BinOp.and IntKind.i64 c.n 7 == (p : Int) / 64) = true := by rw [HSI.out, hsec, beq_iff_eq]; rfl
                obtain ⟨b1, hb1⟩ : ∃ b1, Hid (decide (bk = x) = b1) := ⟨_, rfl⟩
                have sb : (bk == x) = b1 := by rw [← hb1.out]; by_cases h : bk = x <;> simp [h]
                have HF2 : Hid (fnK cs2 p x y (j + 1) = b1) := by unfold Hid; rw [HFN.out, decide_eq_true hsec, hb1.out]; simp
                clear hsec t6
                go_wp2
                go_quiet (fail)
                go_wp2
                exact ⟨⟨j + 1, by omega, by go_num, by rw [HF2.out], by obtain ⟨n0, e⟩ := HW2.out; exact ⟨n0 + nq, by rw [e, World.drewN_drewN]⟩⟩, by simp [intOf]; omega⟩
              · have sq : (bits BinOp.and IntKind.i64 c.n 7 == (p : Int) / 64) = false := by rw [HSI.out, beq_eq_false_iff_ne]; omega
                have HF2 : Hid (fnK cs2 p x y (j + 1) = false) := by unfold Hid; rw [HFN.out, decide_eq_false hsec]; rfl
                clear hsec t6
                go_wp2
                go_quiet (fail)
                go_wp2
                exact ⟨⟨j + 1, by omega, by go_num, by rw [HF2.out], by obtain ⟨n0, e⟩ := HW2.out; exact ⟨n0 + nq, by rw [e, World.drewN_drewN]⟩⟩, by simp [intOf]; omega⟩
          · have q4 : ¬ (j : Int) < (k : Int) := by omega
            obtain rfl : j = k := by omega
            rw [HGP.out]
            go_wp2
            exact ⟨⟨p + 1, by omega, by go_num, HW2⟩, by simp [intOf]; omega⟩
        · have q3 : ¬ (p : Int) < 512 := by omega
          go_wp2
          go_ret
          exact ⟨rfl, by obtain ⟨nq, e⟩ := HW.out; rw [e]; exact below_quiet BEF.out ⟨_, rfl⟩⟩
end Go.Proofs.Ytmaobmeaanafcab
