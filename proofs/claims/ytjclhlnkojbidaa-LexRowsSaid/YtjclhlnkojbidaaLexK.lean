/- The laws LexScans and LexPlaces. -/
import Derived.Test.YtjclhlnkojbidaaLexJ
namespace Go.Proofs.Ytjclhlnkojbidaa
open Go Go.RowKit
set_option maxRecDepth 100000

theorem scanR_len (s : List UInt8) : (scanR s).1.length ≤ 65536 := by
  by_cases h : 65536 < s.length
  · rw [scanR_many h]; exact Nat.zero_le _
  · cases hs : scanS s 0 with
    | error e => rw [scanR_bad h hs]; exact Nat.zero_le _
    | ok ts =>
      rw [scanR_ok h hs]
      have := (scan_toks _ s 0 ts (Nat.le_refl _) hs).2.2.1
      show ts.length ≤ _
      omega
theorem elemRToks : Try.prog.underlying 27 = some (.slice (Try.prog.elem 27)) := by kernel_rfl
theorem run_at_rtok (g u n c k : Nat) (hk : k < n) (w : World) : (Instr.indexAt 27 (.slice (some ⟨g, u, none⟩) n c) (.int .i64 (k : Int))).run Try.prog w = .ok (.pointer (some ⟨g, u + k * 3, none⟩)) w := by
  rw [run_indexAt_slice w 27 _ _ _ _ _ elemRToks]
  have hz : (sizeOf (Try.prog.elem 27)).run Try.prog w = .ok 3 w := by kernel_rfl
  rw [if_pos (by omega), hz, Result.andThen_ok, Addr.add_mid, Int.toNat_natCast]

set_option maxHeartbeats 8000000 in
theorem scans_main (s : List UInt8) (w : World) : Calls Try.prog 3 #[sT s] w fun e w' => e = .returned (.bool true) ∧ Below w.heap.size w w' := by
  obtain ⟨q, hq⟩ : ∃ q, Hid (w.heap.size = q) := ⟨_, rfl⟩
  rw [hq.out]
  obtain ⟨N, hN⟩ : ∃ N, Hid (s.length = N) := ⟨_, rfl⟩
  go_enter Try.func3, Try.ntmps3
  go_upto_region 0 with (fail)
  refine lin_begin (opsOf Try.f3 0) (by kernel_rfl) ?_
  refine lnow 0 (.bool false) (some 2) ?_
  refine lin_done 1 (by kernel_rfl) ?_
  generalize hact : Act.put _ (some 2) _ = act
  simp only [Act.put, List.setIfInBounds_toArray, List.set_cons_succ, List.set_cons_zero] at hact
  subst hact
  go_upto_region 1 with (fail)
  refine lin_begin (opsOf Try.f3 1) (by kernel_rfl) ?_
  refine lin_call 0 7 #[] (some 10) _ (by kernel_rfl) (by kernel_rfl) (by kernel_rfl) (alive11_walk _) ?_
  rintro e w1 ⟨rfl, hb1⟩
  refine ⟨_, rfl, ?_⟩
  have BE1 : Hid (Below q w w1) := by rw [Hid, ← hq.out]; exact hb1
  have Q1 : Hid (q ≤ w1.heap.size) := by rw [Hid, ← hq.out]; exact hb1.size
  clear hb1
  refine lnow 1 (.bool false) (some 11) ?_
  refine lin_done 2 (by kernel_rfl) ?_
  generalize hact : Act.put _ (some 11) _ = act
  simp only [Act.put, List.setIfInBounds_toArray, List.set_cons_succ, List.set_cons_zero] at hact
  subst hact
  by_cases h1 : (N : Int) > 3000
  by_cases h2 : (N : Int) ≤ 65536
  · skip
    go_upto_region 3 with (fail)
    refine lin_begin (opsOf Try.f3 3) (by kernel_rfl) ?_
    refine lnow 0 (sT s) (some 12) ?_
    refine lnow 1 (.int .i64 (s.length : Int)) (some 13) ?_
    rw [hN.out]
    refine lnow 2 (.bool (decide ((N : Int) > 3000))) (some 14) ?_
    rw [decide_eq_true (h1)]
    refine lnow 3 (.bool true) (some 15) ?_
    refine lnow 4 (sT s) (some 16) ?_
    refine lnow 5 (.int .i64 (s.length : Int)) (some 17) ?_
    rw [hN.out]
    refine lnow 6 (.bool (decide ((N : Int) ≤ 65536))) (some 18) ?_
    rw [decide_eq_true (h2)]
    refine lnow 7 (.bool true) (some 19) ?_
    refine lin_done 8 (by kernel_rfl) ?_
    generalize hact : Act.put _ (some 19) _ = act
    simp only [Act.put, List.setIfInBounds_toArray, List.set_cons_succ, List.set_cons_zero] at hact
    subst hact
    go_wp2
    go_ret
    exact ⟨rfl, BE1.out⟩
  · skip
    go_upto_region 3 with (fail)
    refine lin_begin (opsOf Try.f3 3) (by kernel_rfl) ?_
    refine lnow 0 (sT s) (some 12) ?_
    refine lnow 1 (.int .i64 (s.length : Int)) (some 13) ?_
    rw [hN.out]
    refine lnow 2 (.bool (decide ((N : Int) > 3000))) (some 14) ?_
    rw [decide_eq_true (h1)]
    refine lnow 3 (.bool true) (some 15) ?_
    refine lnow 4 (sT s) (some 16) ?_
    refine lnow 5 (.int .i64 (s.length : Int)) (some 17) ?_
    rw [hN.out]
    refine lnow 6 (.bool (decide ((N : Int) ≤ 65536))) (some 18) ?_
    rw [decide_eq_false (h2)]
    refine lnow 7 (.bool false) (some 19) ?_
    refine lin_done 8 (by kernel_rfl) ?_
    generalize hact : Act.put _ (some 19) _ = act
    simp only [Act.put, List.setIfInBounds_toArray, List.set_cons_succ, List.set_cons_zero] at hact
    subst hact
    clear h1 h2
    have C1 := xscan_walk s w1
    unfold ScanPost at C1
    obtain ⟨⟨ts, p, e⟩, hR⟩ : ∃ R, Hid (scanR s = R) := ⟨_, rfl⟩
    rw [hR.out] at C1
    dsimp only at C1
    go_upto_region 5 with (fail)
    refine lin_begin (opsOf Try.f3 5) (by kernel_rfl) ?_
    refine lnow 0 (sT s) (some 21) ?_
    refine lin_call 1 8 #[sT s] (some 22) _ (by kernel_rfl) (by kernel_rfl) (by kernel_rfl) (C1) ?_
    rintro e0 w2 ⟨v1, rfl, ho1, hb2⟩
    refine ⟨_, rfl, ?_⟩
    have SX := Lib.hid ho1.read
    have BE2 : Hid (Below q w w2) := BE1.out.trans (hb2.mono Q1.out)
    have Q2 : Hid (q ≤ w2.heap.size) := Nat.le_trans Q1.out hb2.size
    obtain ⟨va, vc, hv, -⟩ := id SX.out
    subst hv
    obtain ⟨M, hM⟩ : ∃ M, Hid (ts.length = M) := ⟨_, rfl⟩
    have MB : Hid (M ≤ 65536) := by have h := scanR_len s; rw [hR.out] at h; rw [Hid, ← hM.out]; exact h
    rw [hM.out] at SX ⊢
    clear ho1 hb2 C1 BE1 Q1
    refine lnow 2 (.tuple #[.slice va M vc, .int .i64 (p : Int), .int .i64 (e : Int)]) (some 20) ?_
    refine lnow 3 (.slice va M vc) (some 23) ?_
    refine lnow 4 (.int .i64 (p : Int)) (some 24) ?_
    refine lnow 5 (.int .i64 (e : Int)) (some 25) ?_
    refine lnow 6 (.slice va M vc) (some 3) ?_
    refine lnow 7 (.int .i64 (p : Int)) (some 4) ?_
    refine lnow 8 (.int .i64 (e : Int)) (some 5) ?_
    refine lin_done 9 (by kernel_rfl) ?_
    generalize hact : Act.put _ (some 5) _ = act
    simp only [Act.put, List.setIfInBounds_toArray, List.set_cons_succ, List.set_cons_zero] at hact
    subst hact
    have C2 := xrscan_walk s w2
    unfold ScanPost at C2
    rw [hR.out] at C2
    dsimp only at C2
    go_upto_region 6 with (fail)
    refine lin_begin (opsOf Try.f3 6) (by kernel_rfl) ?_
    refine lnow 0 (sT s) (some 27) ?_
    refine lin_call 1 9 #[sT s] (some 28) _ (by kernel_rfl) (by kernel_rfl) (by kernel_rfl) (C2) ?_
    rintro e0 w3 ⟨v2, rfl, ho2, hb3⟩
    refine ⟨_, rfl, ?_⟩
    have SY := Lib.hid ho2.read
    have SX3 := Lib.hid (SX.out.below hb3)
    have BE3 : Hid (Below q w w3) := BE2.out.trans (hb3.mono Q2.out)
    have Q3 : Hid (q ≤ w3.heap.size) := Nat.le_trans Q2.out hb3.size
    obtain ⟨ua, uc, hv, -⟩ := id SY.out
    subst hv
    rw [hM.out] at SY ⊢
    clear ho2 hb3 C2 BE2 Q2 SX
    refine lnow 2 (.tuple #[.slice ua M uc, .int .i64 (p : Int), .int .i64 (e : Int)]) (some 26) ?_
    refine lnow 3 (.slice ua M uc) (some 29) ?_
    refine lnow 4 (.int .i64 (p : Int)) (some 30) ?_
    refine lnow 5 (.int .i64 (e : Int)) (some 31) ?_
    refine lnow 6 (.slice ua M uc) (some 6) ?_
    refine lnow 7 (.int .i64 (p : Int)) (some 7) ?_
    refine lnow 8 (.int .i64 (e : Int)) (some 8) ?_
    refine lin_done 9 (by kernel_rfl) ?_
    generalize hact : Act.put _ (some 8) _ = act
    simp only [Act.put, List.setIfInBounds_toArray, List.set_cons_succ, List.set_cons_zero] at hact
    subst hact
    go_upto_region 7 with (fail)
    refine lin_begin (opsOf Try.f3 7) (by kernel_rfl) ?_
    refine lnow 0 (.int .i64 (p : Int)) (some 32) ?_
    refine lnow 1 (.int .i64 (p : Int)) (some 33) ?_
    refine lnow 2 (.bool (!decide ((p : Int) = (p : Int)))) (some 34) ?_
    rw [decide_eq_true (rfl)]
    rw [show (!true) = false from rfl]
    refine lnow 3 (.bool false) (some 35) ?_
    refine lnow 4 (.int .i64 (e : Int)) (some 36) ?_
    refine lnow 5 (.int .i64 (e : Int)) (some 37) ?_
    refine lnow 6 (.bool (!decide ((e : Int) = (e : Int)))) (some 38) ?_
    rw [decide_eq_true (rfl)]
    rw [show (!true) = false from rfl]
    refine lnow 7 (.bool false) (some 39) ?_
    refine lnow 8 (.bool false) (some 40) ?_
    refine lnow 9 (.slice va M vc) (some 41) ?_
    refine lnow 10 (.int .i64 (M : Int)) (some 42) ?_
    refine lnow 11 (.slice ua M uc) (some 43) ?_
    refine lnow 12 (.int .i64 (M : Int)) (some 44) ?_
    refine lnow 13 (.bool (!decide ((M : Int) = (M : Int)))) (some 45) ?_
    rw [decide_eq_true (rfl)]
    rw [show (!true) = false from rfl]
    refine lnow 14 (.bool false) (some 46) ?_
    refine lin_done 15 (by kernel_rfl) ?_
    generalize hact : Act.put _ (some 46) _ = act
    simp only [Act.put, List.setIfInBounds_toArray, List.set_cons_succ, List.set_cons_zero] at hact
    subst hact
    go_upto_region 9 with (fail)
    refine lin_begin (opsOf Try.f3 9) (by kernel_rfl) ?_
    refine lnow 0 (.int .i64 0) (some 9) ?_
    refine lin_done 1 (by kernel_rfl) ?_
    generalize hact : Act.put _ (some 9) _ = act
    simp only [Act.put, List.setIfInBounds_toArray, List.set_cons_succ, List.set_cons_zero] at hact
    subst hact
    go_wp2
    go_loopw [9] (fun kv wr => ∃ k : Nat, k ≤ M ∧ kv = .int .i64 (k : Int) ∧ Hid (Below w3.heap.size w3 wr)) (fun kv _ => M - (intOf kv).toNat)
    case atStart => exact ⟨0, Nat.zero_le _, rfl, Below.refl _ _⟩
    case round =>
      obtain ⟨k, hk, rfl, BR⟩ := hrel
      have mb := MB.out
      by_cases hlt : (k : Int) < (M : Int)
      rotate_left
      · skip
        go_upto_region 10 with (fail)
        refine lin_begin (opsOf Try.f3 10) (by kernel_rfl) ?_
        refine lnow 0 (.int .i64 (k : Int)) (some 47) ?_
        refine lnow 1 (.slice va M vc) (some 48) ?_
        refine lnow 2 (.int .i64 (M : Int)) (some 49) ?_
        refine lnow 3 (.bool (decide ((k : Int) < (M : Int)))) (some 50) ?_
        rw [decide_eq_false (hlt)]
        refine lin_done 4 (by kernel_rfl) ?_
        generalize hact : Act.put _ (some 50) _ = act
        simp only [Act.put, List.setIfInBounds_toArray, List.set_cons_succ, List.set_cons_zero] at hact
        subst hact
        have FIN : Hid (Below q w wr) := BE3.out.trans (BR.out.mono Q3.out)
        go_wp2
        go_ret
        exact ⟨rfl, FIN.out⟩
      go_upto_region 10 with (fail)
      refine lin_begin (opsOf Try.f3 10) (by kernel_rfl) ?_
      refine lnow 0 (.int .i64 (k : Int)) (some 47) ?_
      refine lnow 1 (.slice va M vc) (some 48) ?_
      refine lnow 2 (.int .i64 (M : Int)) (some 49) ?_
      refine lnow 3 (.bool (decide ((k : Int) < (M : Int)))) (some 50) ?_
      rw [decide_eq_true (hlt)]
      refine lin_done 4 (by kernel_rfl) ?_
      generalize hact : Act.put _ (some 50) _ = act
      simp only [Act.put, List.setIfInBounds_toArray, List.set_cons_succ, List.set_cons_zero] at hact
      subst hact
      obtain ⟨x, hx⟩ : ∃ x, Hid (ts[k]? = some x) := ⟨_, List.getElem?_eq_getElem (by rw [hM.out]; omega)⟩
      obtain ⟨g, u, c1, hv1, -, -, hr1⟩ := (SX3.out.below BR.out).cell hx.out
      rw [hM.out] at hv1
      obtain ⟨rfl, -, rfl⟩ := Value.slice.inj hv1
      obtain ⟨g2, u2, c2, hv2, -, -, hr2⟩ := (SY.out.below BR.out).cell hx.out
      rw [hM.out] at hv2
      obtain ⟨rfl, -, rfl⟩ := Value.slice.inj hv2
      have HR1 := Lib.hid hr1
      have HR2 := Lib.hid hr2
      clear hr1 hr2 hv1 hv2
      go_upto_region 12 with (fail)
      refine region_begin (opsOf Try.f3 12) (fun w' => ∀ p, w'.cell? p = World.cell? wr p) (by kernel_rfl) (by kernel_rfl) 37 (by kernel_rfl) ?_
      intro Q' hQN hN
      have HS : ∀ p, World.cell? (World.drew wr) p = World.cell? wr p := fun _ => rfl
      refine reg_now 0 (.slice (some ⟨g, u, none⟩) M vc) (some 53) hQN HS (by kernel_rfl) (by kernel_rfl) (fun w => by kernel_rfl) ?_
      refine reg_now 1 (.int .i64 (k : Int)) (some 54) hQN HS (by kernel_rfl) (by kernel_rfl) (fun w => by kernel_rfl) ?_
      refine reg_now 2 (.pointer (some ⟨g, u + k * 3, none⟩)) (some 55) hQN HS (by kernel_rfl) (by kernel_rfl) (fun w' => exec_indexAt 23 (.tmp 53) (.tmp 54) (by kernel_rfl) _ _ _ (by kernel_rfl) (by kernel_rfl) (run_at_tok g u M vc k (by omega) _)) ?_
      refine reg_now 3 (.pointer (some ⟨g, u + k * 3, none⟩)) (some 56) hQN HS (by kernel_rfl) (by kernel_rfl) (fun w => by kernel_rfl) ?_
      refine reg_nowIf 4 (.int .i64 (x.k : Int)) (some 57) hQN HS (by kernel_rfl) (by kernel_rfl) (fun w' hw => exec_load_cell 3 (.tmp 56) (by kernel_rfl) (g) (u + k * 3) (by kernel_rfl) _ ((hw _).trans (HR1.out 0 _ rfl)) _ Try.underlying3 rfl) ?_
      refine reg_now 5 (.slice (some ⟨g2, u2, none⟩) M uc) (some 58) hQN HS (by kernel_rfl) (by kernel_rfl) (fun w => by kernel_rfl) ?_
      refine reg_now 6 (.int .i64 (k : Int)) (some 59) hQN HS (by kernel_rfl) (by kernel_rfl) (fun w => by kernel_rfl) ?_
      refine reg_now 7 (.pointer (some ⟨g2, u2 + k * 3, none⟩)) (some 60) hQN HS (by kernel_rfl) (by kernel_rfl) (fun w' => exec_indexAt 27 (.tmp 58) (.tmp 59) (by kernel_rfl) _ _ _ (by kernel_rfl) (by kernel_rfl) (run_at_rtok g2 u2 M uc k (by omega) _)) ?_
      refine reg_now 8 (.pointer (some ⟨g2, u2 + k * 3, none⟩)) (some 61) hQN HS (by kernel_rfl) (by kernel_rfl) (fun w => by kernel_rfl) ?_
      refine reg_nowIf 9 (.int .i64 (x.k : Int)) (some 62) hQN HS (by kernel_rfl) (by kernel_rfl) (fun w' hw => exec_load_cell 3 (.tmp 61) (by kernel_rfl) (g2) (u2 + k * 3) (by kernel_rfl) _ ((hw _).trans (HR2.out 0 _ rfl)) _ Try.underlying3 rfl) ?_
      refine reg_now 10 (.bool (!decide ((x.k : Int) = (x.k : Int)))) (some 63) hQN HS (by kernel_rfl) (by kernel_rfl) (fun w => by kernel_rfl) ?_
      rw [decide_eq_true (rfl)]
      rw [show (!true) = false from rfl]
      refine reg_now 11 (.bool false) (some 64) hQN HS (by kernel_rfl) (by kernel_rfl) (fun w => by kernel_rfl) ?_
      refine reg_now 12 (.slice (some ⟨g, u, none⟩) M vc) (some 65) hQN HS (by kernel_rfl) (by kernel_rfl) (fun w => by kernel_rfl) ?_
      refine reg_now 13 (.int .i64 (k : Int)) (some 66) hQN HS (by kernel_rfl) (by kernel_rfl) (fun w => by kernel_rfl) ?_
      refine reg_now 14 (.pointer (some ⟨g, u + k * 3, none⟩)) (some 67) hQN HS (by kernel_rfl) (by kernel_rfl) (fun w' => exec_indexAt 23 (.tmp 65) (.tmp 66) (by kernel_rfl) _ _ _ (by kernel_rfl) (by kernel_rfl) (run_at_tok g u M vc k (by omega) _)) ?_
      refine reg_now 15 (.pointer (some ⟨g, u + k * 3 + 1, none⟩)) (some 68) hQN HS (by kernel_rfl) (by kernel_rfl) (fun w => by kernel_rfl) ?_
      refine reg_nowIf 16 (sT (x.t)) (some 69) hQN HS (by kernel_rfl) (by kernel_rfl) (fun w' hw => exec_load_cell 9 (.tmp 68) (by kernel_rfl) (g) (u + k * 3 + 1) (by kernel_rfl) _ ((hw _).trans (HR1.out 1 _ rfl)) _ Try.underlying9 rfl) ?_
      refine reg_now 17 (.slice (some ⟨g2, u2, none⟩) M uc) (some 70) hQN HS (by kernel_rfl) (by kernel_rfl) (fun w => by kernel_rfl) ?_
      refine reg_now 18 (.int .i64 (k : Int)) (some 71) hQN HS (by kernel_rfl) (by kernel_rfl) (fun w => by kernel_rfl) ?_
      refine reg_now 19 (.pointer (some ⟨g2, u2 + k * 3, none⟩)) (some 72) hQN HS (by kernel_rfl) (by kernel_rfl) (fun w' => exec_indexAt 27 (.tmp 70) (.tmp 71) (by kernel_rfl) _ _ _ (by kernel_rfl) (by kernel_rfl) (run_at_rtok g2 u2 M uc k (by omega) _)) ?_
      refine reg_now 20 (.pointer (some ⟨g2, u2 + k * 3 + 1, none⟩)) (some 73) hQN HS (by kernel_rfl) (by kernel_rfl) (fun w => by kernel_rfl) ?_
      refine reg_nowIf 21 (sT (x.t)) (some 74) hQN HS (by kernel_rfl) (by kernel_rfl) (fun w' hw => exec_load_cell 9 (.tmp 73) (by kernel_rfl) (g2) (u2 + k * 3 + 1) (by kernel_rfl) _ ((hw _).trans (HR2.out 1 _ rfl)) _ Try.underlying9 rfl) ?_
      refine reg_now 22 (.bool (!decide (x.t = x.t))) (some 75) hQN HS (by kernel_rfl) (by kernel_rfl) (fun w' => exec_sNe 9 9 (.tmp 69) (.tmp 74) (by kernel_rfl) (x.t) (x.t) (by kernel_rfl) (by kernel_rfl) (fun _ => rfl)) ?_
      rw [decide_eq_true rfl]
      rw [show (!true) = false from rfl]
      refine reg_now 23 (.bool false) (some 76) hQN HS (by kernel_rfl) (by kernel_rfl) (fun w => by kernel_rfl) ?_
      refine reg_now 24 (.bool false) (some 77) hQN HS (by kernel_rfl) (by kernel_rfl) (fun w => by kernel_rfl) ?_
      refine reg_now 25 (.slice (some ⟨g, u, none⟩) M vc) (some 78) hQN HS (by kernel_rfl) (by kernel_rfl) (fun w => by kernel_rfl) ?_
      refine reg_now 26 (.int .i64 (k : Int)) (some 79) hQN HS (by kernel_rfl) (by kernel_rfl) (fun w => by kernel_rfl) ?_
      refine reg_now 27 (.pointer (some ⟨g, u + k * 3, none⟩)) (some 80) hQN HS (by kernel_rfl) (by kernel_rfl) (fun w' => exec_indexAt 23 (.tmp 78) (.tmp 79) (by kernel_rfl) _ _ _ (by kernel_rfl) (by kernel_rfl) (run_at_tok g u M vc k (by omega) _)) ?_
      refine reg_now 28 (.pointer (some ⟨g, u + k * 3 + 2, none⟩)) (some 81) hQN HS (by kernel_rfl) (by kernel_rfl) (fun w => by kernel_rfl) ?_
      refine reg_nowIf 29 (.int .i64 (x.p : Int)) (some 82) hQN HS (by kernel_rfl) (by kernel_rfl) (fun w' hw => exec_load_cell 3 (.tmp 81) (by kernel_rfl) (g) (u + k * 3 + 2) (by kernel_rfl) _ ((hw _).trans (HR1.out 2 _ rfl)) _ Try.underlying3 rfl) ?_
      refine reg_now 30 (.slice (some ⟨g2, u2, none⟩) M uc) (some 83) hQN HS (by kernel_rfl) (by kernel_rfl) (fun w => by kernel_rfl) ?_
      refine reg_now 31 (.int .i64 (k : Int)) (some 84) hQN HS (by kernel_rfl) (by kernel_rfl) (fun w => by kernel_rfl) ?_
      refine reg_now 32 (.pointer (some ⟨g2, u2 + k * 3, none⟩)) (some 85) hQN HS (by kernel_rfl) (by kernel_rfl) (fun w' => exec_indexAt 27 (.tmp 83) (.tmp 84) (by kernel_rfl) _ _ _ (by kernel_rfl) (by kernel_rfl) (run_at_rtok g2 u2 M uc k (by omega) _)) ?_
      refine reg_now 33 (.pointer (some ⟨g2, u2 + k * 3 + 2, none⟩)) (some 86) hQN HS (by kernel_rfl) (by kernel_rfl) (fun w => by kernel_rfl) ?_
      refine reg_nowIf 34 (.int .i64 (x.p : Int)) (some 87) hQN HS (by kernel_rfl) (by kernel_rfl) (fun w' hw => exec_load_cell 3 (.tmp 86) (by kernel_rfl) (g2) (u2 + k * 3 + 2) (by kernel_rfl) _ ((hw _).trans (HR2.out 2 _ rfl)) _ Try.underlying3 rfl) ?_
      refine reg_now 35 (.bool (!decide ((x.p : Int) = (x.p : Int)))) (some 88) hQN HS (by kernel_rfl) (by kernel_rfl) (fun w => by kernel_rfl) ?_
      rw [decide_eq_true (rfl)]
      rw [show (!true) = false from rfl]
      refine reg_now 36 (.bool false) (some 89) hQN HS (by kernel_rfl) (by kernel_rfl) (fun w => by kernel_rfl) ?_
      refine reg_done (by kernel_rfl) (hN _ _ ?_)
      generalize hact : Act.put _ (some 89) _ = act
      simp only [Act.put, List.setIfInBounds_toArray, List.set_cons_succ, List.set_cons_zero] at hact
      subst hact
      have BR2 : Hid (Below w3.heap.size w3 wr.drew) := BR.out.drew
      clear BR HR1 HR2 HS
      go_wp2
      go_roundw
      case rel => exact ⟨k + 1, by omega, by go_num, BR2⟩
      case measure => simp [intOf]; omega
  go_upto_region 3 with (fail)
  refine lin_begin (opsOf Try.f3 3) (by kernel_rfl) ?_
  refine lnow 0 (sT s) (some 12) ?_
  refine lnow 1 (.int .i64 (s.length : Int)) (some 13) ?_
  rw [hN.out]
  refine lnow 2 (.bool (decide ((N : Int) > 3000))) (some 14) ?_
  rw [decide_eq_false (h1)]
  refine lnow 3 (.bool false) (some 15) ?_
  refine lpas 4 (some 16) ?_
  refine lpas 5 (some 17) ?_
  refine lpas 6 (some 18) ?_
  refine lnow 7 (.bool false) (some 19) ?_
  refine lin_done 8 (by kernel_rfl) ?_
  generalize hact : Act.put _ (some 19) _ = act
  simp only [Act.put, List.setIfInBounds_toArray, List.set_cons_succ, List.set_cons_zero] at hact
  subst hact
  clear h1
  have C1 := xscan_walk s w1
  unfold ScanPost at C1
  obtain ⟨⟨ts, p, e⟩, hR⟩ : ∃ R, Hid (scanR s = R) := ⟨_, rfl⟩
  rw [hR.out] at C1
  dsimp only at C1
  go_upto_region 5 with (fail)
  refine lin_begin (opsOf Try.f3 5) (by kernel_rfl) ?_
  refine lnow 0 (sT s) (some 21) ?_
  refine lin_call 1 8 #[sT s] (some 22) _ (by kernel_rfl) (by kernel_rfl) (by kernel_rfl) (C1) ?_
  rintro e0 w2 ⟨v1, rfl, ho1, hb2⟩
  refine ⟨_, rfl, ?_⟩
  have SX := Lib.hid ho1.read
  have BE2 : Hid (Below q w w2) := BE1.out.trans (hb2.mono Q1.out)
  have Q2 : Hid (q ≤ w2.heap.size) := Nat.le_trans Q1.out hb2.size
  obtain ⟨va, vc, hv, -⟩ := id SX.out
  subst hv
  obtain ⟨M, hM⟩ : ∃ M, Hid (ts.length = M) := ⟨_, rfl⟩
  have MB : Hid (M ≤ 65536) := by have h := scanR_len s; rw [hR.out] at h; rw [Hid, ← hM.out]; exact h
  rw [hM.out] at SX ⊢
  clear ho1 hb2 C1 BE1 Q1
  refine lnow 2 (.tuple #[.slice va M vc, .int .i64 (p : Int), .int .i64 (e : Int)]) (some 20) ?_
  refine lnow 3 (.slice va M vc) (some 23) ?_
  refine lnow 4 (.int .i64 (p : Int)) (some 24) ?_
  refine lnow 5 (.int .i64 (e : Int)) (some 25) ?_
  refine lnow 6 (.slice va M vc) (some 3) ?_
  refine lnow 7 (.int .i64 (p : Int)) (some 4) ?_
  refine lnow 8 (.int .i64 (e : Int)) (some 5) ?_
  refine lin_done 9 (by kernel_rfl) ?_
  generalize hact : Act.put _ (some 5) _ = act
  simp only [Act.put, List.setIfInBounds_toArray, List.set_cons_succ, List.set_cons_zero] at hact
  subst hact
  have C2 := xrscan_walk s w2
  unfold ScanPost at C2
  rw [hR.out] at C2
  dsimp only at C2
  go_upto_region 6 with (fail)
  refine lin_begin (opsOf Try.f3 6) (by kernel_rfl) ?_
  refine lnow 0 (sT s) (some 27) ?_
  refine lin_call 1 9 #[sT s] (some 28) _ (by kernel_rfl) (by kernel_rfl) (by kernel_rfl) (C2) ?_
  rintro e0 w3 ⟨v2, rfl, ho2, hb3⟩
  refine ⟨_, rfl, ?_⟩
  have SY := Lib.hid ho2.read
  have SX3 := Lib.hid (SX.out.below hb3)
  have BE3 : Hid (Below q w w3) := BE2.out.trans (hb3.mono Q2.out)
  have Q3 : Hid (q ≤ w3.heap.size) := Nat.le_trans Q2.out hb3.size
  obtain ⟨ua, uc, hv, -⟩ := id SY.out
  subst hv
  rw [hM.out] at SY ⊢
  clear ho2 hb3 C2 BE2 Q2 SX
  refine lnow 2 (.tuple #[.slice ua M uc, .int .i64 (p : Int), .int .i64 (e : Int)]) (some 26) ?_
  refine lnow 3 (.slice ua M uc) (some 29) ?_
  refine lnow 4 (.int .i64 (p : Int)) (some 30) ?_
  refine lnow 5 (.int .i64 (e : Int)) (some 31) ?_
  refine lnow 6 (.slice ua M uc) (some 6) ?_
  refine lnow 7 (.int .i64 (p : Int)) (some 7) ?_
  refine lnow 8 (.int .i64 (e : Int)) (some 8) ?_
  refine lin_done 9 (by kernel_rfl) ?_
  generalize hact : Act.put _ (some 8) _ = act
  simp only [Act.put, List.setIfInBounds_toArray, List.set_cons_succ, List.set_cons_zero] at hact
  subst hact
  go_upto_region 7 with (fail)
  refine lin_begin (opsOf Try.f3 7) (by kernel_rfl) ?_
  refine lnow 0 (.int .i64 (p : Int)) (some 32) ?_
  refine lnow 1 (.int .i64 (p : Int)) (some 33) ?_
  refine lnow 2 (.bool (!decide ((p : Int) = (p : Int)))) (some 34) ?_
  rw [decide_eq_true (rfl)]
  rw [show (!true) = false from rfl]
  refine lnow 3 (.bool false) (some 35) ?_
  refine lnow 4 (.int .i64 (e : Int)) (some 36) ?_
  refine lnow 5 (.int .i64 (e : Int)) (some 37) ?_
  refine lnow 6 (.bool (!decide ((e : Int) = (e : Int)))) (some 38) ?_
  rw [decide_eq_true (rfl)]
  rw [show (!true) = false from rfl]
  refine lnow 7 (.bool false) (some 39) ?_
  refine lnow 8 (.bool false) (some 40) ?_
  refine lnow 9 (.slice va M vc) (some 41) ?_
  refine lnow 10 (.int .i64 (M : Int)) (some 42) ?_
  refine lnow 11 (.slice ua M uc) (some 43) ?_
  refine lnow 12 (.int .i64 (M : Int)) (some 44) ?_
  refine lnow 13 (.bool (!decide ((M : Int) = (M : Int)))) (some 45) ?_
  rw [decide_eq_true (rfl)]
  rw [show (!true) = false from rfl]
  refine lnow 14 (.bool false) (some 46) ?_
  refine lin_done 15 (by kernel_rfl) ?_
  generalize hact : Act.put _ (some 46) _ = act
  simp only [Act.put, List.setIfInBounds_toArray, List.set_cons_succ, List.set_cons_zero] at hact
  subst hact
  go_upto_region 9 with (fail)
  refine lin_begin (opsOf Try.f3 9) (by kernel_rfl) ?_
  refine lnow 0 (.int .i64 0) (some 9) ?_
  refine lin_done 1 (by kernel_rfl) ?_
  generalize hact : Act.put _ (some 9) _ = act
  simp only [Act.put, List.setIfInBounds_toArray, List.set_cons_succ, List.set_cons_zero] at hact
  subst hact
  go_wp2
  go_loopw [9] (fun kv wr => ∃ k : Nat, k ≤ M ∧ kv = .int .i64 (k : Int) ∧ Hid (Below w3.heap.size w3 wr)) (fun kv _ => M - (intOf kv).toNat)
  case atStart => exact ⟨0, Nat.zero_le _, rfl, Below.refl _ _⟩
  case round =>
    obtain ⟨k, hk, rfl, BR⟩ := hrel
    have mb := MB.out
    by_cases hlt : (k : Int) < (M : Int)
    rotate_left
    · skip
      go_upto_region 10 with (fail)
      refine lin_begin (opsOf Try.f3 10) (by kernel_rfl) ?_
      refine lnow 0 (.int .i64 (k : Int)) (some 47) ?_
      refine lnow 1 (.slice va M vc) (some 48) ?_
      refine lnow 2 (.int .i64 (M : Int)) (some 49) ?_
      refine lnow 3 (.bool (decide ((k : Int) < (M : Int)))) (some 50) ?_
      rw [decide_eq_false (hlt)]
      refine lin_done 4 (by kernel_rfl) ?_
      generalize hact : Act.put _ (some 50) _ = act
      simp only [Act.put, List.setIfInBounds_toArray, List.set_cons_succ, List.set_cons_zero] at hact
      subst hact
      have FIN : Hid (Below q w wr) := BE3.out.trans (BR.out.mono Q3.out)
      go_wp2
      go_ret
      exact ⟨rfl, FIN.out⟩
    go_upto_region 10 with (fail)
    refine lin_begin (opsOf Try.f3 10) (by kernel_rfl) ?_
    refine lnow 0 (.int .i64 (k : Int)) (some 47) ?_
    refine lnow 1 (.slice va M vc) (some 48) ?_
    refine lnow 2 (.int .i64 (M : Int)) (some 49) ?_
    refine lnow 3 (.bool (decide ((k : Int) < (M : Int)))) (some 50) ?_
    rw [decide_eq_true (hlt)]
    refine lin_done 4 (by kernel_rfl) ?_
    generalize hact : Act.put _ (some 50) _ = act
    simp only [Act.put, List.setIfInBounds_toArray, List.set_cons_succ, List.set_cons_zero] at hact
    subst hact
    obtain ⟨x, hx⟩ : ∃ x, Hid (ts[k]? = some x) := ⟨_, List.getElem?_eq_getElem (by rw [hM.out]; omega)⟩
    obtain ⟨g, u, c1, hv1, -, -, hr1⟩ := (SX3.out.below BR.out).cell hx.out
    rw [hM.out] at hv1
    obtain ⟨rfl, -, rfl⟩ := Value.slice.inj hv1
    obtain ⟨g2, u2, c2, hv2, -, -, hr2⟩ := (SY.out.below BR.out).cell hx.out
    rw [hM.out] at hv2
    obtain ⟨rfl, -, rfl⟩ := Value.slice.inj hv2
    have HR1 := Lib.hid hr1
    have HR2 := Lib.hid hr2
    clear hr1 hr2 hv1 hv2
    go_upto_region 12 with (fail)
    refine region_begin (opsOf Try.f3 12) (fun w' => ∀ p, w'.cell? p = World.cell? wr p) (by kernel_rfl) (by kernel_rfl) 37 (by kernel_rfl) ?_
    intro Q' hQN hN
    have HS : ∀ p, World.cell? (World.drew wr) p = World.cell? wr p := fun _ => rfl
    refine reg_now 0 (.slice (some ⟨g, u, none⟩) M vc) (some 53) hQN HS (by kernel_rfl) (by kernel_rfl) (fun w => by kernel_rfl) ?_
    refine reg_now 1 (.int .i64 (k : Int)) (some 54) hQN HS (by kernel_rfl) (by kernel_rfl) (fun w => by kernel_rfl) ?_
    refine reg_now 2 (.pointer (some ⟨g, u + k * 3, none⟩)) (some 55) hQN HS (by kernel_rfl) (by kernel_rfl) (fun w' => exec_indexAt 23 (.tmp 53) (.tmp 54) (by kernel_rfl) _ _ _ (by kernel_rfl) (by kernel_rfl) (run_at_tok g u M vc k (by omega) _)) ?_
    refine reg_now 3 (.pointer (some ⟨g, u + k * 3, none⟩)) (some 56) hQN HS (by kernel_rfl) (by kernel_rfl) (fun w => by kernel_rfl) ?_
    refine reg_nowIf 4 (.int .i64 (x.k : Int)) (some 57) hQN HS (by kernel_rfl) (by kernel_rfl) (fun w' hw => exec_load_cell 3 (.tmp 56) (by kernel_rfl) (g) (u + k * 3) (by kernel_rfl) _ ((hw _).trans (HR1.out 0 _ rfl)) _ Try.underlying3 rfl) ?_
    refine reg_now 5 (.slice (some ⟨g2, u2, none⟩) M uc) (some 58) hQN HS (by kernel_rfl) (by kernel_rfl) (fun w => by kernel_rfl) ?_
    refine reg_now 6 (.int .i64 (k : Int)) (some 59) hQN HS (by kernel_rfl) (by kernel_rfl) (fun w => by kernel_rfl) ?_
    refine reg_now 7 (.pointer (some ⟨g2, u2 + k * 3, none⟩)) (some 60) hQN HS (by kernel_rfl) (by kernel_rfl) (fun w' => exec_indexAt 27 (.tmp 58) (.tmp 59) (by kernel_rfl) _ _ _ (by kernel_rfl) (by kernel_rfl) (run_at_rtok g2 u2 M uc k (by omega) _)) ?_
    refine reg_now 8 (.pointer (some ⟨g2, u2 + k * 3, none⟩)) (some 61) hQN HS (by kernel_rfl) (by kernel_rfl) (fun w => by kernel_rfl) ?_
    refine reg_nowIf 9 (.int .i64 (x.k : Int)) (some 62) hQN HS (by kernel_rfl) (by kernel_rfl) (fun w' hw => exec_load_cell 3 (.tmp 61) (by kernel_rfl) (g2) (u2 + k * 3) (by kernel_rfl) _ ((hw _).trans (HR2.out 0 _ rfl)) _ Try.underlying3 rfl) ?_
    refine reg_now 10 (.bool (!decide ((x.k : Int) = (x.k : Int)))) (some 63) hQN HS (by kernel_rfl) (by kernel_rfl) (fun w => by kernel_rfl) ?_
    rw [decide_eq_true (rfl)]
    rw [show (!true) = false from rfl]
    refine reg_now 11 (.bool false) (some 64) hQN HS (by kernel_rfl) (by kernel_rfl) (fun w => by kernel_rfl) ?_
    refine reg_now 12 (.slice (some ⟨g, u, none⟩) M vc) (some 65) hQN HS (by kernel_rfl) (by kernel_rfl) (fun w => by kernel_rfl) ?_
    refine reg_now 13 (.int .i64 (k : Int)) (some 66) hQN HS (by kernel_rfl) (by kernel_rfl) (fun w => by kernel_rfl) ?_
    refine reg_now 14 (.pointer (some ⟨g, u + k * 3, none⟩)) (some 67) hQN HS (by kernel_rfl) (by kernel_rfl) (fun w' => exec_indexAt 23 (.tmp 65) (.tmp 66) (by kernel_rfl) _ _ _ (by kernel_rfl) (by kernel_rfl) (run_at_tok g u M vc k (by omega) _)) ?_
    refine reg_now 15 (.pointer (some ⟨g, u + k * 3 + 1, none⟩)) (some 68) hQN HS (by kernel_rfl) (by kernel_rfl) (fun w => by kernel_rfl) ?_
    refine reg_nowIf 16 (sT (x.t)) (some 69) hQN HS (by kernel_rfl) (by kernel_rfl) (fun w' hw => exec_load_cell 9 (.tmp 68) (by kernel_rfl) (g) (u + k * 3 + 1) (by kernel_rfl) _ ((hw _).trans (HR1.out 1 _ rfl)) _ Try.underlying9 rfl) ?_
    refine reg_now 17 (.slice (some ⟨g2, u2, none⟩) M uc) (some 70) hQN HS (by kernel_rfl) (by kernel_rfl) (fun w => by kernel_rfl) ?_
    refine reg_now 18 (.int .i64 (k : Int)) (some 71) hQN HS (by kernel_rfl) (by kernel_rfl) (fun w => by kernel_rfl) ?_
    refine reg_now 19 (.pointer (some ⟨g2, u2 + k * 3, none⟩)) (some 72) hQN HS (by kernel_rfl) (by kernel_rfl) (fun w' => exec_indexAt 27 (.tmp 70) (.tmp 71) (by kernel_rfl) _ _ _ (by kernel_rfl) (by kernel_rfl) (run_at_rtok g2 u2 M uc k (by omega) _)) ?_
    refine reg_now 20 (.pointer (some ⟨g2, u2 + k * 3 + 1, none⟩)) (some 73) hQN HS (by kernel_rfl) (by kernel_rfl) (fun w => by kernel_rfl) ?_
    refine reg_nowIf 21 (sT (x.t)) (some 74) hQN HS (by kernel_rfl) (by kernel_rfl) (fun w' hw => exec_load_cell 9 (.tmp 73) (by kernel_rfl) (g2) (u2 + k * 3 + 1) (by kernel_rfl) _ ((hw _).trans (HR2.out 1 _ rfl)) _ Try.underlying9 rfl) ?_
    refine reg_now 22 (.bool (!decide (x.t = x.t))) (some 75) hQN HS (by kernel_rfl) (by kernel_rfl) (fun w' => exec_sNe 9 9 (.tmp 69) (.tmp 74) (by kernel_rfl) (x.t) (x.t) (by kernel_rfl) (by kernel_rfl) (fun _ => rfl)) ?_
    rw [decide_eq_true rfl]
    rw [show (!true) = false from rfl]
    refine reg_now 23 (.bool false) (some 76) hQN HS (by kernel_rfl) (by kernel_rfl) (fun w => by kernel_rfl) ?_
    refine reg_now 24 (.bool false) (some 77) hQN HS (by kernel_rfl) (by kernel_rfl) (fun w => by kernel_rfl) ?_
    refine reg_now 25 (.slice (some ⟨g, u, none⟩) M vc) (some 78) hQN HS (by kernel_rfl) (by kernel_rfl) (fun w => by kernel_rfl) ?_
    refine reg_now 26 (.int .i64 (k : Int)) (some 79) hQN HS (by kernel_rfl) (by kernel_rfl) (fun w => by kernel_rfl) ?_
    refine reg_now 27 (.pointer (some ⟨g, u + k * 3, none⟩)) (some 80) hQN HS (by kernel_rfl) (by kernel_rfl) (fun w' => exec_indexAt 23 (.tmp 78) (.tmp 79) (by kernel_rfl) _ _ _ (by kernel_rfl) (by kernel_rfl) (run_at_tok g u M vc k (by omega) _)) ?_
    refine reg_now 28 (.pointer (some ⟨g, u + k * 3 + 2, none⟩)) (some 81) hQN HS (by kernel_rfl) (by kernel_rfl) (fun w => by kernel_rfl) ?_
    refine reg_nowIf 29 (.int .i64 (x.p : Int)) (some 82) hQN HS (by kernel_rfl) (by kernel_rfl) (fun w' hw => exec_load_cell 3 (.tmp 81) (by kernel_rfl) (g) (u + k * 3 + 2) (by kernel_rfl) _ ((hw _).trans (HR1.out 2 _ rfl)) _ Try.underlying3 rfl) ?_
    refine reg_now 30 (.slice (some ⟨g2, u2, none⟩) M uc) (some 83) hQN HS (by kernel_rfl) (by kernel_rfl) (fun w => by kernel_rfl) ?_
    refine reg_now 31 (.int .i64 (k : Int)) (some 84) hQN HS (by kernel_rfl) (by kernel_rfl) (fun w => by kernel_rfl) ?_
    refine reg_now 32 (.pointer (some ⟨g2, u2 + k * 3, none⟩)) (some 85) hQN HS (by kernel_rfl) (by kernel_rfl) (fun w' => exec_indexAt 27 (.tmp 83) (.tmp 84) (by kernel_rfl) _ _ _ (by kernel_rfl) (by kernel_rfl) (run_at_rtok g2 u2 M uc k (by omega) _)) ?_
    refine reg_now 33 (.pointer (some ⟨g2, u2 + k * 3 + 2, none⟩)) (some 86) hQN HS (by kernel_rfl) (by kernel_rfl) (fun w => by kernel_rfl) ?_
    refine reg_nowIf 34 (.int .i64 (x.p : Int)) (some 87) hQN HS (by kernel_rfl) (by kernel_rfl) (fun w' hw => exec_load_cell 3 (.tmp 86) (by kernel_rfl) (g2) (u2 + k * 3 + 2) (by kernel_rfl) _ ((hw _).trans (HR2.out 2 _ rfl)) _ Try.underlying3 rfl) ?_
    refine reg_now 35 (.bool (!decide ((x.p : Int) = (x.p : Int)))) (some 88) hQN HS (by kernel_rfl) (by kernel_rfl) (fun w => by kernel_rfl) ?_
    rw [decide_eq_true (rfl)]
    rw [show (!true) = false from rfl]
    refine reg_now 36 (.bool false) (some 89) hQN HS (by kernel_rfl) (by kernel_rfl) (fun w => by kernel_rfl) ?_
    refine reg_done (by kernel_rfl) (hN _ _ ?_)
    generalize hact : Act.put _ (some 89) _ = act
    simp only [Act.put, List.setIfInBounds_toArray, List.set_cons_succ, List.set_cons_zero] at hact
    subst hact
    have BR2 : Hid (Below w3.heap.size w3 wr.drew) := BR.out.drew
    clear BR HR1 HR2 HS
    go_wp2
    go_roundw
    case rel => exact ⟨k + 1, by omega, by go_num, BR2⟩
    case measure => simp [intOf]; omega

theorem exec_bEq {a : Act} {w : World} {op : Oper} (b : Bool) (x y : Operand) (ho : op.op = .binOp .eql 4 x y 4) (ex : a.eval x = .bool b) (ey : a.eval y = .bool b) (hg : ∀ w, (eqGuard .eql 4 x y (.bool b) (.bool b)).run Try.prog w = .ok () w) : (execOp a.eval op).run Try.prog w = .ok (.value (.bool true)) w := by
  have h : (binOp .eql 4 (.bool b) (.bool b)).run Try.prog w = .ok (.bool true) w := by cases b <;> kernel_rfl
  unfold execOp
  simp only [ho, ex, ey, Sem.run_bind, hg, Result.andThen_ok, h]
  rfl
set_option maxHeartbeats 8000000 in
theorem places_main (s : List UInt8) (a : Int) (w : World) : Calls Try.prog 4 #[sT s, .int .i64 a] w fun e w' => e = .returned (.bool true) ∧ Below w.heap.size w w' := by
  obtain ⟨q, hq⟩ : ∃ q, Hid (w.heap.size = q) := ⟨_, rfl⟩
  rw [hq.out]
  obtain ⟨N, hN⟩ : ∃ N, Hid (s.length = N) := ⟨_, rfl⟩
  go_enter Try.func4, Try.ntmps4
  go_upto_region 0 with (fail)
  refine lin_begin (opsOf Try.f4 0) (by kernel_rfl) ?_
  refine lnow 0 (.bool false) (some 4) ?_
  refine lin_done 1 (by kernel_rfl) ?_
  generalize hact : Act.put _ (some 4) _ = act
  simp only [Act.put, List.setIfInBounds_toArray, List.set_cons_succ, List.set_cons_zero] at hact
  subst hact
  go_upto_region 1 with (fail)
  refine lin_begin (opsOf Try.f4 1) (by kernel_rfl) ?_
  refine lin_call 0 7 #[] (some 13) _ (by kernel_rfl) (by kernel_rfl) (by kernel_rfl) (alive11_walk _) ?_
  rintro e w1 ⟨rfl, hb1⟩
  refine ⟨_, rfl, ?_⟩
  have BE1 : Hid (Below q w w1) := by rw [Hid, ← hq.out]; exact hb1
  have Q1 : Hid (q ≤ w1.heap.size) := by rw [Hid, ← hq.out]; exact hb1.size
  clear hb1
  refine lnow 1 (.bool false) (some 14) ?_
  refine lin_done 2 (by kernel_rfl) ?_
  generalize hact : Act.put _ (some 14) _ = act
  simp only [Act.put, List.setIfInBounds_toArray, List.set_cons_succ, List.set_cons_zero] at hact
  subst hact
  by_cases h1 : (N : Int) > 3000
  · skip
    go_upto_region 3 with (fail)
    refine lin_begin (opsOf Try.f4 3) (by kernel_rfl) ?_
    refine lnow 0 (sT s) (some 15) ?_
    refine lnow 1 (.int .i64 (s.length : Int)) (some 16) ?_
    rw [hN.out]
    refine lnow 2 (.bool (decide ((N : Int) > 3000))) (some 17) ?_
    rw [decide_eq_true (h1)]
    refine lin_done 3 (by kernel_rfl) ?_
    generalize hact : Act.put _ (some 17) _ = act
    simp only [Act.put, List.setIfInBounds_toArray, List.set_cons_succ, List.set_cons_zero] at hact
    subst hact
    go_wp2
    go_ret
    exact ⟨rfl, BE1.out⟩
  go_upto_region 3 with (fail)
  refine lin_begin (opsOf Try.f4 3) (by kernel_rfl) ?_
  refine lnow 0 (sT s) (some 15) ?_
  refine lnow 1 (.int .i64 (s.length : Int)) (some 16) ?_
  rw [hN.out]
  refine lnow 2 (.bool (decide ((N : Int) > 3000))) (some 17) ?_
  rw [decide_eq_false (h1)]
  refine lin_done 3 (by kernel_rfl) ?_
  generalize hact : Act.put _ (some 17) _ = act
  simp only [Act.put, List.setIfInBounds_toArray, List.set_cons_succ, List.set_cons_zero] at hact
  subst hact
  have HL : Hid (s.length ≤ 1000000) := by rw [Hid, hN.out]; omega
  clear h1
  obtain ⟨⟨rl, rc⟩, hP⟩ : ∃ R, Hid (placeR s a = R) := ⟨_, rfl⟩
  obtain ⟨nn, hNN⟩ : ∃ R, Hid (numO s = R) := ⟨_, rfl⟩
  have C1 := xplace_walk s HL.out a w1
  have C2 := xrplace_walk s HL.out a w1
  have C3 := xnumber_walk s w1
  have C4 := xrnumber_walk s HL.out w1
  rw [hP.out] at C1 C2
  rw [hNN.out] at C3 C4
  dsimp only at C1 C2
  obtain ⟨nv, hnv⟩ : ∃ v : Nat, v = nn.getD 0 := ⟨_, rfl⟩
  obtain ⟨nb, hnb⟩ : ∃ b : Bool, b = nn.isSome := ⟨_, rfl⟩
  rw [← hnv, ← hnb] at C3 C4
  clear hnv hnb hP hNN
  go_upto_region 5 with (fail)
  refine lin_begin (opsOf Try.f4 5) (by kernel_rfl) ?_
  refine lnow 0 (sT s) (some 19) ?_
  refine lnow 1 (.int .i64 a) (some 20) ?_
  refine lin_call 2 10 #[sT s, .int .i64 a] (some 21) _ (by kernel_rfl) (by kernel_rfl) (by kernel_rfl) (C1) ?_
  rintro e w2 ⟨rfl, hw2⟩
  obtain rfl := hw2.symm
  refine ⟨_, rfl, ?_⟩
  refine lnow 3 (.tuple #[.int .i64 (rl : Int), .int .i64 (rc : Int)]) (some 18) ?_
  refine lnow 4 (.int .i64 (rl : Int)) (some 22) ?_
  refine lnow 5 (.int .i64 (rc : Int)) (some 23) ?_
  refine lnow 6 (.int .i64 (rl : Int)) (some 5) ?_
  refine lnow 7 (.int .i64 (rc : Int)) (some 6) ?_
  refine lin_done 8 (by kernel_rfl) ?_
  generalize hact : Act.put _ (some 6) _ = act
  simp only [Act.put, List.setIfInBounds_toArray, List.set_cons_succ, List.set_cons_zero] at hact
  subst hact
  go_upto_region 6 with (fail)
  refine lin_begin (opsOf Try.f4 6) (by kernel_rfl) ?_
  refine lnow 0 (sT s) (some 25) ?_
  refine lnow 1 (.int .i64 a) (some 26) ?_
  refine lin_call 2 11 #[sT s, .int .i64 a] (some 27) _ (by kernel_rfl) (by kernel_rfl) (by kernel_rfl) (C2) ?_
  rintro e w2 ⟨rfl, hw2⟩
  obtain rfl := hw2.symm
  refine ⟨_, rfl, ?_⟩
  refine lnow 3 (.tuple #[.int .i64 (rl : Int), .int .i64 (rc : Int)]) (some 24) ?_
  refine lnow 4 (.int .i64 (rl : Int)) (some 28) ?_
  refine lnow 5 (.int .i64 (rc : Int)) (some 29) ?_
  refine lnow 6 (.int .i64 (rl : Int)) (some 7) ?_
  refine lnow 7 (.int .i64 (rc : Int)) (some 8) ?_
  refine lin_done 8 (by kernel_rfl) ?_
  generalize hact : Act.put _ (some 8) _ = act
  simp only [Act.put, List.setIfInBounds_toArray, List.set_cons_succ, List.set_cons_zero] at hact
  subst hact
  go_upto_region 7 with (fail)
  refine lin_begin (opsOf Try.f4 7) (by kernel_rfl) ?_
  refine lnow 0 (sT s) (some 31) ?_
  refine lin_call 1 12 #[sT s] (some 32) _ (by kernel_rfl) (by kernel_rfl) (by kernel_rfl) (C3) ?_
  rintro e w2 ⟨rfl, hw2⟩
  obtain rfl := hw2.symm
  refine ⟨_, rfl, ?_⟩
  refine lnow 2 (.tuple #[.int .i64 (nv : Int), .bool nb]) (some 30) ?_
  refine lnow 3 (.int .i64 (nv : Int)) (some 33) ?_
  refine lnow 4 (.bool nb) (some 34) ?_
  refine lnow 5 (.int .i64 (nv : Int)) (some 9) ?_
  refine lnow 6 (.bool nb) (some 10) ?_
  refine lin_done 7 (by kernel_rfl) ?_
  generalize hact : Act.put _ (some 10) _ = act
  simp only [Act.put, List.setIfInBounds_toArray, List.set_cons_succ, List.set_cons_zero] at hact
  subst hact
  go_upto_region 8 with (fail)
  refine lin_begin (opsOf Try.f4 8) (by kernel_rfl) ?_
  refine lnow 0 (sT s) (some 36) ?_
  refine lin_call 1 13 #[sT s] (some 37) _ (by kernel_rfl) (by kernel_rfl) (by kernel_rfl) (C4) ?_
  rintro e w2 ⟨rfl, hw2⟩
  obtain rfl := hw2.symm
  refine ⟨_, rfl, ?_⟩
  refine lnow 2 (.tuple #[.int .i64 (nv : Int), .bool nb]) (some 35) ?_
  refine lnow 3 (.int .i64 (nv : Int)) (some 38) ?_
  refine lnow 4 (.bool nb) (some 39) ?_
  refine lnow 5 (.int .i64 (nv : Int)) (some 11) ?_
  refine lnow 6 (.bool nb) (some 12) ?_
  refine lin_done 7 (by kernel_rfl) ?_
  generalize hact : Act.put _ (some 12) _ = act
  simp only [Act.put, List.setIfInBounds_toArray, List.set_cons_succ, List.set_cons_zero] at hact
  subst hact
  go_upto_region 9 with (fail)
  refine lin_begin (opsOf Try.f4 9) (by kernel_rfl) ?_
  refine lnow 0 (.int .i64 (rl : Int)) (some 40) ?_
  refine lnow 1 (.int .i64 (rl : Int)) (some 41) ?_
  refine lnow 2 (.bool (decide ((rl : Int) = (rl : Int)))) (some 42) ?_
  rw [decide_eq_true (rfl)]
  refine lnow 3 (.bool true) (some 43) ?_
  refine lnow 4 (.int .i64 (rc : Int)) (some 44) ?_
  refine lnow 5 (.int .i64 (rc : Int)) (some 45) ?_
  refine lnow 6 (.bool (decide ((rc : Int) = (rc : Int)))) (some 46) ?_
  rw [decide_eq_true (rfl)]
  refine lnow 7 (.bool true) (some 47) ?_
  refine lnow 8 (.bool true) (some 48) ?_
  refine lnow 9 (.int .i64 (nv : Int)) (some 49) ?_
  refine lnow 10 (.int .i64 (nv : Int)) (some 50) ?_
  refine lnow 11 (.bool (decide ((nv : Int) = (nv : Int)))) (some 51) ?_
  rw [decide_eq_true (rfl)]
  refine lnow 12 (.bool true) (some 52) ?_
  refine lnow 13 (.bool true) (some 53) ?_
  refine lnow 14 (.bool nb) (some 54) ?_
  refine lnow 15 (.bool nb) (some 55) ?_
  refine lnowP 16 (.bool true) (some 56) (exec_bEq nb (.tmp 54) (.tmp 55) (by kernel_rfl) (by kernel_rfl) (by kernel_rfl) (fun _ => rfl)) ?_
  refine lnow 17 (.bool true) (some 57) ?_
  refine lnow 18 (.bool true) (some 4) ?_
  refine lin_done 19 (by kernel_rfl) ?_
  generalize hact : Act.put _ (some 4) _ = act
  simp only [Act.put, List.setIfInBounds_toArray, List.set_cons_succ, List.set_cons_zero] at hact
  subst hact
  go_wp2
  go_ret
  exact ⟨rfl, BE1.out⟩
end Go.Proofs.Ytjclhlnkojbidaa
