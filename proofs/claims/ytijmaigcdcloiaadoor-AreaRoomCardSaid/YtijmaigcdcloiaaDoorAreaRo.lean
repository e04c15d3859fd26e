/- AreaRoom answers true. -/
import Derived.Test.YtijmaigcdcloiaaDoorAreaAl
namespace Go.Proofs.YtijmaigcdcloiaaDoor
open Go Go.RowKit
set_option maxRecDepth 100000

theorem rneed_walk (n : Int) (w : World) : Calls Tryd.prog 20 #[.int .i64 n] w fun e w' => e = .returned (.int .i64 (needI n)) ∧ w = w' := by
  by_cases h : n < 0 ∨ 2000 < n
  · rw [needI_no n h]
    go_enter Tryd.func20, Tryd.ntmps20
    rcases h with h | h
    · go_wp2
      go_ret
      exact ⟨rfl, rfl⟩
    · have h' : ¬ n < 0 := by omega
      go_wp2
      go_ret
      exact ⟨rfl, rfl⟩
  · have e : needI n = (n + 79) / 46 := if_neg h
    rw [e]
    have h1 : ¬ n < 0 := by omega
    have h2 : ¬ 2000 < n := by omega
    have h3 : 0 ≤ n := by omega
    have h4 : n ≤ 2000 := by omega
    clear e h
    go_enter Tryd.func20, Tryd.ntmps20
    go_wp2
    go_ret
    exact ⟨ret_int (by omega), rfl⟩
theorem mem_flat {x : List Int} {l : List (List Int)} (h : x ∈ l) : x.length ≤ l.flatten.length := by
  obtain ⟨l1, l2, e⟩ := List.append_of_mem h
  rw [e]
  simp only [List.flatten_append, List.flatten_cons, List.length_append]
  omega
theorem neq_self (x : Int) : (x != x) = false := by simp
theorem NewRows.slice {B : Nat} {w : World} {v : Value} {zss : List (List Int)} (h : NewRows B w v zss) : ∃ q, v = .slice (some ⟨q, 0, none⟩) zss.length zss.length := by
  obtain ⟨q, vs, h1, _⟩ := h
  exact ⟨q, h1⟩
/-- A begun area on a new disk. -/
theorem begun_new {d n : Nat} {F : List Nat} {w w' : World} {e : Ending} {zss : List (List Int)} (h4 : 4 ≤ n) (hb : n ≤ 4096) (sh : ∀ zs ∈ zss, zs.length ≤ 2000) (by' : ∀ zs ∈ zss, isBytes zs) (hT : cntK zss zss.length ≤ n / 2 - 1)
    (hp : BeginPost F d n (zeros (64 * n)) (zeros (64 * n)) [] (-1) ((highK (zeros (64 * n)) n).toNat + 1) zss w e w') :
    ∃ ab, e = .returned (.tuple #[.pointer (some ⟨ab, 0, none⟩), .int .i64 0]) ∧ ∃ A F' seen dur, Ar w' A F' ab d 0 (n / 2) 1 (1 + cntK zss zss.length) false zss ∧ Dk w' F' d n seen dur [] (-1) ∧ Inv n 0 1 seen dur [] zss zss.length (cntK zss zss.length) zss.length zss.length 1 ∧ Step F w (A ++ F') w' := by
  have BN := base_new h4 hb
  have hgen : (highK (zeros (64 * n)) n).toNat + 1 = 1 := by have := BN.high; omega
  rw [hgen] at hp
  rcases hp with ⟨h1, _⟩ | ⟨_, _, f, hfr, h1⟩
  · omega
  · have hf0 : f = 0 := by
      rcases hfr with ⟨h2, _⟩ | ⟨_, h2⟩
      · exact absurd h2 (no_cur BN)
      · exact h2
    subst hf0
    rcases h1 with ⟨h2, _⟩ | ⟨_, h2, _⟩ | ⟨_, _, ab, h2, A, F5, h3, h5, h6⟩
    · rw [done_neg] at h2; omega
    · rw [left_neg] at h2; omega
    · exact ⟨ab, h2, A, F5, _, _, h3, h5, inv_begun BN (by omega) (.inl rfl) sh by' hgen rfl hT, h6⟩
set_option maxHeartbeats 4000000 in
theorem aroom_main (size : Int) (v : Value) (zss : List (List Int)) (w : World) (hv : PartsIn w v zss) (hK : KW w) :
    Calls Tryd.prog 4 #[.int .i64 size, v] w fun e w' => e = .returned (.bool true) ∧ Below w.heap.size w w' := by
  obtain ⟨a, cap, ps, rfl, -⟩ := id hv
  have HV := Lib.hid hv
  have HK := Lib.hid hK
  obtain ⟨n, hn⟩ : ∃ n, Hid (zss.length = n) := ⟨_, rfl⟩
  rw [hn.out] at HV ⊢
  obtain ⟨B, hB⟩ : ∃ B, Hid (w.heap.size = B) := ⟨_, rfl⟩
  have KB : Hid (0 < B) := by unfold Hid; rw [← hB.out]; exact hK.lt
  rw [hB.out]
  clear hv hK
  go_enter Tryd.func4, Tryd.ntmps4
  go_wp2_with fail
  refine (aralive_walk _ HK.out).mono ?_
  rintro e w1 ⟨rfl, hb1⟩
  rw [hB.out] at hb1
  have BE1 := Lib.hid hb1
  clear hb1
  by_cases s4 : size < 4
  · go_wp2
    go_ret
    exact ⟨rfl, BE1.out⟩
  · by_cases s60 : 60 < size
    · go_wp2
      go_ret
      exact ⟨rfl, BE1.out⟩
    · obtain ⟨sz, rfl⟩ := Int.eq_ofNat_of_zero_le (show 0 ≤ size by omega)
      have z4 : 4 ≤ sz := by omega
      have z60 : sz ≤ 60 := by omega
      have HV1 : Hid (PartsIn w1 (.slice a n cap) zss) := HV.out.below BE1.out (Nat.le_of_eq hB.out)
      go_wp2_with fail
      refine (rows3_walk _ zss _ HV1.out).mono ?_
      rintro e w2 ⟨r, rfl, hr, rfl⟩
      have HRW := Lib.hid hr
      clear hr
      by_cases hbig : 3000 < r
      · have q0 : (3000 : Int) < (r : Int) := by omega
        go_wp2
        go_ret
        exact ⟨rfl, BE1.out⟩
      · have q0 : ¬ (3000 : Int) < (r : Int) := by omega
        have hfl := HRW.out (by omega)
        rw [hn.out] at hfl
        have n3 : n ≤ 3000 := hfl.2
        have RL : Hid (∀ k, k < n → (rowAt zss k).length ≤ 3000) := fun k hk => by
          have h1 := List.mem_of_getElem? (rowAt_get (show k < zss.length by rw [hn.out]; exact hk))
          have h2 := mem_flat h1
          have := hfl.1
          omega
        clear hfl HRW hbig
        go_wp2_with fail
        refine (new_yes sz (by omega) (by omega) _).mono ?_
        rintro e w3 ⟨d, F, rfl, hd3, hs3⟩
        have D3 := Lib.hid hd3
        have FG : Hid (∀ k ∈ F, w1.heap.size ≤ k) := fun k hk => by rcases hs3.fresh k hk with h | h; simp at h; exact h
        have SB : Hid (B ≤ w1.heap.size) := by unfold Hid; have := BE1.out.size; have := hB.out; omega
        have B3 : Hid (Below w1.heap.size w1 w3) := hs3.below
        have K3 : Hid (KW w3) := HK.out.below (BE1.out.trans (B3.out.mono SB.out)) KB.out
        have KF : Hid (0 ∉ F) := fun h => by have := FG.out _ h; have := KB.out; have := SB.out; omega
        obtain ⟨zz, hzz⟩ : ∃ zz, Hid (zeros (64 * sz) = zz) := ⟨_, rfl⟩
        rw [hzz.out] at D3
        have ZB : Hid (isBytes zz) := by unfold Hid; rw [← hzz.out]; exact zeros_bytes _
        clear hd3 hs3
        go_wp2_with fail
        refine (begin_walk d sz F zz zz [] (-1) _ [] _ D3.out (by omega) ZB.out (parts_none_off _ _) (by decide) (by simp) K3.out KF.out (by omega) (by decide)).mono ?_
        intro e w4 hp
        rw [← hzz.out] at hp
        obtain ⟨ab, rfl, A, F4, seen, dur, ha4, hd4, -, hs4⟩ := begun_new (by omega) (by omega) (by simp) (by simp) (Nat.zero_le _) hp
        have A4 := Lib.hid ha4
        have D4 := Lib.hid hd4
        have MG : Hid (∀ k ∈ A ++ F4, w1.heap.size ≤ k) := hs4.ge FG.out B3.out.size
        have B4 : Hid (Below w1.heap.size w1 w4) := hs4.blow FG.out B3.out.size B3.out
        obtain ⟨half, hhf⟩ : ∃ half, Hid (sz / 2 = half) := ⟨_, rfl⟩
        rw [hhf.out] at A4
        have half2 : 2 ≤ half := by have := hhf.out; omega
        have halfs : half + half ≤ sz := by have := hhf.out; omega
        clear hp ha4 hd4 hs4 D3 K3 KF B3 FG ZB hzz
        obtain ⟨fr, hfr⟩ : ∃ fr : Nat, Hid (half - (1 + cntK [] ([] : List (List Int)).length) = fr) := ⟨_, rfl⟩
        have fr1 : fr = half - 1 := hfr.out.symm
        go_upto_region 9 with (fail)
        refine lin_begin (opsOf Tryd.f4 9) (by kernel_rfl) ?_
        refine lin_now 0 (.int .i64 0) (some 43) (by kernel_rfl) (by kernel_rfl) (by kernel_rfl) ?_
        refine lin_now 1 (.bool false) (some 44) (by kernel_rfl) (by kernel_rfl) (by kernel_rfl) ?_
        refine lin_now 2 (.bool false) (some 45) (by kernel_rfl) (by kernel_rfl) (by kernel_rfl) ?_
        refine lin_now 3 (.pointer (some ⟨ab, 0, none⟩)) (some 46) (by kernel_rfl) (by kernel_rfl) (by kernel_rfl) ?_
        refine lin_now 4 (.bool false) (some 47) (by kernel_rfl) (by kernel_rfl) (by kernel_rfl) ?_
        refine lin_now 5 (.bool false) (some 48) (by kernel_rfl) (by kernel_rfl) (by kernel_rfl) ?_
        refine lin_now 6 (.bool false) (some 49) (by kernel_rfl) (by kernel_rfl) (by kernel_rfl) ?_
        refine lin_now 7 (.pointer (some ⟨ab, 0, none⟩)) (some 50) (by kernel_rfl) (by kernel_rfl) (by kernel_rfl) ?_
        refine lin_call 8 19 #[.pointer (some ⟨ab, 0, none⟩)] (some 51) _ (by kernel_rfl) (by kernel_rfl) (by kernel_rfl) (arfree_walk A4.out (by show 1 + 0 ≤ half; omega) (by omega)) ?_
        rintro e w5 ⟨rfl, nd, rfl⟩
        refine ⟨_, rfl, ?_⟩
        rw [hfr.out]
        refine lin_now 9 (.int .i64 (sz : Int)) (some 52) (by kernel_rfl) (by kernel_rfl) (by kernel_rfl) ?_
        refine lin_now 10 (.int .i64 ((sz / 2 : Nat) : Int)) (some 53) (by kernel_rfl) (by kernel_rfl) (exec_half 3 3 (.tmp 52) (.const (.int .i64 2)) (by kernel_rfl) sz (by kernel_rfl) (by kernel_rfl) (by omega)) ?_
        rw [hhf.out]
        refine lin_now 11 (.int .i64 (IntKind.i64.wrap ((half : Int) - 1))) (some 54) (by kernel_rfl) (by kernel_rfl) (by kernel_rfl) ?_
        rw [show IntKind.i64.wrap ((half : Int) - 1) = (fr : Int) from (IntWalk.i64_in _ (by omega)).trans (by omega)]
        refine lin_now 12 (.bool ((fr : Int) != (fr : Int))) (some 55) (by kernel_rfl) (by kernel_rfl) (by kernel_rfl) ?_
        rw [neq_self]
        refine lin_now 13 (.bool false) (some 56) (by kernel_rfl) (by kernel_rfl) (by kernel_rfl) ?_
        refine lin_done 14 (by kernel_rfl) ?_
        have BD := below_drewN w4 nd
        have A5 : Hid (Ar (w4.drewN nd) A F4 ab d 0 half 1 1 false []) := A4.out.below BD
        have D5 := Lib.hid (D4.out.below BD)
        have B5 : Hid (Below w1.heap.size w1 (w4.drewN nd)) := B4.out.trans (BD.mono B4.out.size)
        generalize w4.drewN nd = W5 at *
        clear BD A4 D4 B4 fr1
        generalize hact : Act.put _ (some 56) _ = act
        simp only [Act.put, List.setIfInBounds_toArray, List.set_cons_succ, List.set_cons_zero] at hact
        subst hact
        go_wp2
        go_loopw [8, 9, 10, 11, 12, 13] (fun iv _ _ _ _ _ wr => ∃ (i nx : Nat) (A1 F1 : List Nat) (s1 : List Int) (p1 : List Wr) (rs : List (List Int)), i ≤ n ∧ iv = .int .i64 (i : Int) ∧ Ar wr A1 F1 ab d 0 half 1 nx false rs ∧ Dk wr F1 d sz s1 dur p1 (-1) ∧ nx ≤ half ∧ p1.length ≤ nx ∧ rs.length ≤ i ∧ 1 ≤ nx ∧ Hid (∀ k ∈ A1 ++ F1, w1.heap.size ≤ k) ∧ Below w1.heap.size w1 wr) (fun iv _ _ _ _ _ _ => n - (intOf iv).toNat)
        case atStart => exact ⟨0, 1, A, F4, seen, [], [], Nat.zero_le _, rfl, A5.out, D5.out, by omega, by simp, by simp, by omega, MG, B5.out⟩
        case round =>
          obtain ⟨i, nx, A1, F1, s1, p1, rs, hi, rfl, har, hdk, hnx, hpl, hrl, h1n, hmg, hbe⟩ := hrel
          have AR := Lib.hid har
          have DK := Lib.hid hdk
          have BE := Lib.hid hbe
          clear har hdk hbe A5 D5 B5
          by_cases hlt : i < n
          · have r1 : (i : Int) < (n : Int) := by omega
            go_wp2_with fail
            refine (arfree_walk AR.out hnx (by omega)).mono ?_
            rintro e w6 ⟨rfl, nd, rfl⟩
            have BD := below_drewN wr nd
            have A6 := Lib.hid (AR.out.below BD)
            have D6 := Lib.hid (DK.out.below BD)
            have B6 : Hid (Below w1.heap.size w1 (wr.drewN nd)) := BE.out.trans (BD.mono BE.out.size)
            generalize wr.drewN nd = W6 at *
            have V6 : Hid (PartsOff (A1 ++ F1) W6 (.slice a n cap) zss) := HV1.out.off B6.out hmg.out
            obtain ⟨qb, qo, pv, rfl, hcell, hpb, hpn, hqb⟩ := V6.out.part hn.out hlt
            have HC := Lib.hid hcell
            obtain ⟨rec, hrc⟩ : ∃ rc, Hid (rowAt zss i = rc) := ⟨_, rfl⟩
            rw [hrc.out] at hpb
            have PB := Lib.hid hpb
            have PN := Lib.hid hpn
            obtain ⟨pa, pc, e8, -⟩ := id PB.out
            obtain ⟨rn, hrn⟩ : ∃ rn, Hid (rec.length = rn) := ⟨_, rfl⟩
            rw [hrn.out] at e8
            subst e8
            have rn3 : rn ≤ 3000 := by rw [← hrn.out, ← hrc.out]; exact RL.out i hlt
            clear hcell hpb hpn hqb BD AR DK BE V6
            go_upto_region 15 with (fail)
            refine lin_begin (opsOf Tryd.f4 15) (by kernel_rfl) ?_
            refine lin_now 0 (.slice (some ⟨qb, qo, none⟩) n cap) (some 65) (by kernel_rfl) (by kernel_rfl) (by kernel_rfl) ?_
            refine lin_now 1 (.int .i64 (i : Int)) (some 66) (by kernel_rfl) (by kernel_rfl) (by kernel_rfl) ?_
            refine lin_now 2 (.pointer (some ⟨qb, qo + i, none⟩)) (some 67) (by kernel_rfl) (by kernel_rfl) (exec_indexAt 32 (.tmp 65) (.tmp 66) (by kernel_rfl) _ _ _ (by kernel_rfl) (by kernel_rfl) (run_at_part qb qo n cap i hlt _)) ?_
            refine lin_now 3 (.slice pa rn pc) (some 68) (by kernel_rfl) (by kernel_rfl) (exec_load_cell 33 (.tmp 67) (by kernel_rfl) qb (qo + i) (by kernel_rfl) _ HC.out _ Tryd.underlying33 rfl) ?_
            refine lin_now 4 (.int .i64 (rn : Int)) (some 69) (by kernel_rfl) (by kernel_rfl) (by kernel_rfl) ?_
            refine lin_call 5 20 #[.int .i64 (rn : Int)] (some 70) _ (by kernel_rfl) (by kernel_rfl) (by kernel_rfl) (rneed_walk _ _) ?_
            rintro e w7 ⟨rfl, rfl⟩
            refine ⟨_, rfl, ?_⟩
            refine lin_now 6 (.int .i64 (needI (rn : Int))) (some 10) (by kernel_rfl) (by kernel_rfl) (by kernel_rfl) ?_
            refine lin_done 7 (by kernel_rfl) ?_
            generalize hact : Act.put _ (some 10) _ = act
            simp only [Act.put, List.setIfInBounds_toArray, List.set_cons_succ, List.set_cons_zero] at hact
            subst hact
            go_wp2_with fail
            refine (records_walk A6.out (by omega)).mono ?_
            rintro e w8 ⟨lv, rfl, hnr, hb8⟩
            obtain ⟨lq, elv⟩ := hnr.slice
            subst elv
            obtain ⟨rl, hrl2⟩ : ∃ rl, Hid (rs.length = rl) := ⟨_, rfl⟩
            rw [hrl2.out] at hrl ⊢
            have A8 := Lib.hid (A6.out.below hb8)
            have D8 := Lib.hid (D6.out.below hb8)
            have B8 : Hid (Below w1.heap.size w1 w8) := B6.out.trans (hb8.mono B6.out.size)
            have C8 : Hid (w8.cell? ⟨qb, qo + i, none⟩ = some (.slice pa rn pc)) := by unfold Hid; rw [hb8.cell (p := ⟨qb, qo + i, none⟩) (block_lt_of_cell HC.out)]; exact HC.out
            have PB8 : Hid (BytesOff (A1 ++ F1) w8 (.slice pa rn pc) rec) := PB.out.step (Step.of_below hb8 (Nat.le_refl _))
            have K8 : Hid (KW w8) := HK.out.below (BE1.out.trans (B8.out.mono SB.out)) KB.out
            clear hnr hb8 A6 D6 B6 PB HC
            by_cases hlong : 2000 < rn
            · have hz : needI (rn : Int) = 0 := needI_no _ (.inr (by omega))
              rw [hz]
              go_upto_region 17 with (fail)
              refine lin_begin (opsOf Tryd.f4 17) (by kernel_rfl) ?_
              refine lin_now 0 (.pointer (some ⟨ab, 0, none⟩)) (some 74) (by kernel_rfl) (by kernel_rfl) (by kernel_rfl) ?_
              refine lin_now 1 (.slice (some ⟨qb, qo, none⟩) n cap) (some 75) (by kernel_rfl) (by kernel_rfl) (by kernel_rfl) ?_
              refine lin_now 2 (.int .i64 (i : Int)) (some 76) (by kernel_rfl) (by kernel_rfl) (by kernel_rfl) ?_
              refine lin_now 3 (.pointer (some ⟨qb, qo + i, none⟩)) (some 77) (by kernel_rfl) (by kernel_rfl) (exec_indexAt 32 (.tmp 75) (.tmp 76) (by kernel_rfl) _ _ _ (by kernel_rfl) (by kernel_rfl) (run_at_part qb qo n cap i hlt _)) ?_
              refine lin_now 4 (.slice pa rn pc) (some 78) (by kernel_rfl) (by kernel_rfl) (exec_load_cell 33 (.tmp 77) (by kernel_rfl) qb (qo + i) (by kernel_rfl) _ C8.out _ Tryd.underlying33 rfl) ?_
              refine lin_call 5 9 #[.pointer (some ⟨ab, 0, none⟩), .slice pa rn pc] (some 79) _ (by kernel_rfl) (by kernel_rfl) (by kernel_rfl) (add_long A8.out pa rn pc hlong) ?_
              rintro e w9 ⟨rfl, hb9⟩
              refine ⟨_, rfl, ?_⟩
              refine lin_now 6 (.int .i64 10) (some 12) (by kernel_rfl) (by kernel_rfl) (by kernel_rfl) ?_
              refine lin_done 7 (by kernel_rfl) ?_
              have A9 := Lib.hid (A8.out.below hb9)
              have D9 := Lib.hid (D8.out.below hb9)
              have B9 : Hid (Below w1.heap.size w1 w9) := B8.out.trans (hb9.mono B8.out.size)
              clear hb9 A8 D8 B8 K8 PB8 C8 hz
              generalize hact : Act.put _ (some 12) _ = act
              simp only [Act.put, List.setIfInBounds_toArray, List.set_cons_succ, List.set_cons_zero] at hact
              subst hact
              go_upto_region 23 with (fail)
              refine lin_begin (opsOf Tryd.f4 23) (by kernel_rfl) ?_
              refine lin_now 0 (.int .i64 10) (some 85) (by kernel_rfl) (by kernel_rfl) (by kernel_rfl) ?_
              refine lin_now 1 (.int .i64 10) (some 86) (by kernel_rfl) (by kernel_rfl) (by kernel_rfl) ?_
              refine lin_now 2 (.bool false) (some 87) (by kernel_rfl) (by kernel_rfl) (by kernel_rfl) ?_
              refine lin_now 3 (.bool false) (some 88) (by kernel_rfl) (by kernel_rfl) (by kernel_rfl) ?_
              refine lin_now 4 (.int .i64 10) (some 89) (by kernel_rfl) (by kernel_rfl) (by kernel_rfl) ?_
              refine lin_now 5 (.bool false) (some 90) (by kernel_rfl) (by kernel_rfl) (by kernel_rfl) ?_
              refine lin_now 6 (.bool false) (some 91) (by kernel_rfl) (by kernel_rfl) (by kernel_rfl) ?_
              refine lin_pass 7 (some 92) (by kernel_rfl) (by kernel_rfl) ?_
              refine lin_pass 8 (some 93) (by kernel_rfl) (by kernel_rfl) ?_
              refine lin_pass 9 (some 94) (by kernel_rfl) (by kernel_rfl) ?_
              refine lin_pass 10 (some 95) (by kernel_rfl) (by kernel_rfl) ?_
              refine lin_pass 11 (some 96) (by kernel_rfl) (by kernel_rfl) ?_
              refine lin_pass 12 (some 97) (by kernel_rfl) (by kernel_rfl) ?_
              refine lin_pass 13 (some 98) (by kernel_rfl) (by kernel_rfl) ?_
              refine lin_pass 14 (some 99) (by kernel_rfl) (by kernel_rfl) ?_
              refine lin_pass 15 (some 100) (by kernel_rfl) (by kernel_rfl) ?_
              refine lin_pass 16 (some 101) (by kernel_rfl) (by kernel_rfl) ?_
              refine lin_pass 17 (some 102) (by kernel_rfl) (by kernel_rfl) ?_
              refine lin_pass 18 (some 103) (by kernel_rfl) (by kernel_rfl) ?_
              refine lin_pass 19 (some 104) (by kernel_rfl) (by kernel_rfl) ?_
              refine lin_pass 20 (some 105) (by kernel_rfl) (by kernel_rfl) ?_
              refine lin_now 21 (.bool false) (some 106) (by kernel_rfl) (by kernel_rfl) (by kernel_rfl) ?_
              refine lin_now 22 (.bool false) (some 107) (by kernel_rfl) (by kernel_rfl) (by kernel_rfl) ?_
              refine lin_now 23 (.bool false) (some 108) (by kernel_rfl) (by kernel_rfl) (by kernel_rfl) ?_
              refine lin_now 24 (.int .i64 10) (some 109) (by kernel_rfl) (by kernel_rfl) (by kernel_rfl) ?_
              refine lin_now 25 (.bool true) (some 110) (by kernel_rfl) (by kernel_rfl) (by kernel_rfl) ?_
              refine lin_now 26 (.bool true) (some 111) (by kernel_rfl) (by kernel_rfl) (by kernel_rfl) ?_
              refine lin_now 27 (.pointer (some ⟨ab, 0, none⟩)) (some 112) (by kernel_rfl) (by kernel_rfl) (by kernel_rfl) ?_
              refine lin_call 28 19 #[.pointer (some ⟨ab, 0, none⟩)] (some 113) _ (by kernel_rfl) (by kernel_rfl) (by kernel_rfl) (arfree_walk A9.out hnx (by omega)) ?_
              rintro e w10 ⟨rfl, nd2, rfl⟩
              refine ⟨_, rfl, ?_⟩
              refine lin_now 29 (.int .i64 ((half - nx : Nat) : Int)) (some 114) (by kernel_rfl) (by kernel_rfl) (by kernel_rfl) ?_
              refine lin_now 30 (.bool (((half - nx : Nat) : Int) != ((half - nx : Nat) : Int))) (some 115) (by kernel_rfl) (by kernel_rfl) (by kernel_rfl) ?_
              rw [neq_self]
              refine lin_now 31 (.bool false) (some 116) (by kernel_rfl) (by kernel_rfl) (by kernel_rfl) ?_
              refine lin_now 32 (.pointer (some ⟨ab, 0, none⟩)) (some 117) (by kernel_rfl) (by kernel_rfl) (by kernel_rfl) ?_
              have BD2 := below_drewN w9 nd2
              refine lin_call 33 12 #[.pointer (some ⟨ab, 0, none⟩)] (some 118) _ (by kernel_rfl) (by kernel_rfl) (by kernel_rfl) (records_walk (A9.out.below BD2) (by rw [hrl2.out]; omega)) ?_
              rintro e w11 ⟨lv2, rfl, hnr2, hb11⟩
              obtain ⟨lq2, elv2⟩ := hnr2.slice
              rw [hrl2.out] at elv2
              subst elv2
              refine ⟨_, rfl, ?_⟩
              refine lin_now 34 (.int .i64 (rl : Int)) (some 119) (by kernel_rfl) (by kernel_rfl) (by kernel_rfl) ?_
              refine lin_now 35 (.int .i64 (rl : Int)) (some 120) (by kernel_rfl) (by kernel_rfl) (by kernel_rfl) ?_
              refine lin_now 36 (.bool ((rl : Int) != (rl : Int))) (some 121) (by kernel_rfl) (by kernel_rfl) (by kernel_rfl) ?_
              rw [neq_self]
              refine lin_now 37 (.bool false) (some 122) (by kernel_rfl) (by kernel_rfl) (by kernel_rfl) ?_
              refine lin_now 38 (.bool false) (some 123) (by kernel_rfl) (by kernel_rfl) (by kernel_rfl) ?_
              refine lin_now 39 (.bool false) (some 124) (by kernel_rfl) (by kernel_rfl) (by kernel_rfl) ?_
              refine lin_done 40 (by kernel_rfl) ?_
              have BB : Below w9.heap.size w9 w11 := BD2.trans (hb11.mono BD2.size)
              have A11 := Lib.hid (A9.out.below BB)
              have D11 := Lib.hid (D9.out.below BB)
              have B11 : Hid (Below w1.heap.size w1 w11) := B9.out.trans (BB.mono B9.out.size)
              clear BB BD2 hb11 hnr2 A9 D9 B9
              generalize hact : Act.put _ (some 124) _ = act
              simp only [Act.put, List.setIfInBounds_toArray, List.set_cons_succ, List.set_cons_zero] at hact
              subst hact
              go_wp2
              go_roundw
              case rel => exact ⟨i + 1, nx, A1, F1, s1, p1, rs, by omega, by go_num, A11.out, D11.out, hnx, hpl, by have := hrl2.out; omega, h1n, hmg, B11.out⟩
              case measure => simp [intOf]; omega
            · obtain ⟨kn, hkn⟩ : ∃ kn, Hid (needN rn = kn) := ⟨_, rfl⟩
              have hz : needI (rn : Int) = (kn : Int) := by rw [needI_nat rn (by omega), hkn.out]
              have k1 : 1 ≤ kn := by have := needN_pos rn; rw [hkn.out] at this; exact this
              have k45 : kn ≤ 45 := by have := needN_le rn (by omega); rw [hkn.out] at this; exact this
              have kq : ((kn : Int) == 0) = false := by simpa using (show ¬ kn = 0 by omega)
              rw [hz]
              clear hz
              by_cases hfull : half - nx < kn
              · have gq : ((half - nx : Nat) : Int) < (kn : Int) := by omega
                go_upto_region 17 with (fail)
                refine lin_begin (opsOf Tryd.f4 17) (by kernel_rfl) ?_
                refine lin_now 0 (.pointer (some ⟨ab, 0, none⟩)) (some 74) (by kernel_rfl) (by kernel_rfl) (by kernel_rfl) ?_
                refine lin_now 1 (.slice (some ⟨qb, qo, none⟩) n cap) (some 75) (by kernel_rfl) (by kernel_rfl) (by kernel_rfl) ?_
                refine lin_now 2 (.int .i64 (i : Int)) (some 76) (by kernel_rfl) (by kernel_rfl) (by kernel_rfl) ?_
                refine lin_now 3 (.pointer (some ⟨qb, qo + i, none⟩)) (some 77) (by kernel_rfl) (by kernel_rfl) (exec_indexAt 32 (.tmp 75) (.tmp 76) (by kernel_rfl) _ _ _ (by kernel_rfl) (by kernel_rfl) (run_at_part qb qo n cap i hlt _)) ?_
                refine lin_now 4 (.slice pa rn pc) (some 78) (by kernel_rfl) (by kernel_rfl) (exec_load_cell 33 (.tmp 77) (by kernel_rfl) qb (qo + i) (by kernel_rfl) _ C8.out _ Tryd.underlying33 rfl) ?_
                refine lin_call 5 9 #[.pointer (some ⟨ab, 0, none⟩), .slice pa rn pc] (some 79) _ (by kernel_rfl) (by kernel_rfl) (by kernel_rfl) (add_full A8.out _ rec PB8.out PN.out K8.out (by rw [hrn.out]; omega) (by omega) (by omega) hnx (by omega) (.inr (by rw [hrn.out, hkn.out]; exact hfull))) ?_
                rintro e w9 ⟨rfl, hb9⟩
                refine ⟨_, rfl, ?_⟩
                refine lin_now 6 (.int .i64 15) (some 12) (by kernel_rfl) (by kernel_rfl) (by kernel_rfl) ?_
                refine lin_done 7 (by kernel_rfl) ?_
                have A9 := Lib.hid (A8.out.below hb9)
                have D9 := Lib.hid (D8.out.below hb9)
                have B9 : Hid (Below w1.heap.size w1 w9) := B8.out.trans (hb9.mono B8.out.size)
                clear hb9 A8 D8 B8 K8 PB8 C8
                generalize hact : Act.put _ (some 12) _ = act
                simp only [Act.put, List.setIfInBounds_toArray, List.set_cons_succ, List.set_cons_zero] at hact
                subst hact
                go_upto_region 23 with (fail)
                refine lin_begin (opsOf Tryd.f4 23) (by kernel_rfl) ?_
                refine lin_now 0 (.int .i64 15) (some 85) (by kernel_rfl) (by kernel_rfl) (by kernel_rfl) ?_
                refine lin_now 1 (.int .i64 15) (some 86) (by kernel_rfl) (by kernel_rfl) (by kernel_rfl) ?_
                refine lin_now 2 (.bool false) (some 87) (by kernel_rfl) (by kernel_rfl) (by kernel_rfl) ?_
                refine lin_now 3 (.bool false) (some 88) (by kernel_rfl) (by kernel_rfl) (by kernel_rfl) ?_
                refine lin_now 4 (.int .i64 15) (some 89) (by kernel_rfl) (by kernel_rfl) (by kernel_rfl) ?_
                refine lin_now 5 (.bool false) (some 90) (by kernel_rfl) (by kernel_rfl) (by kernel_rfl) ?_
                refine lin_now 6 (.bool false) (some 91) (by kernel_rfl) (by kernel_rfl) (by kernel_rfl) ?_
                refine lin_pass 7 (some 92) (by kernel_rfl) (by kernel_rfl) ?_
                refine lin_pass 8 (some 93) (by kernel_rfl) (by kernel_rfl) ?_
                refine lin_pass 9 (some 94) (by kernel_rfl) (by kernel_rfl) ?_
                refine lin_pass 10 (some 95) (by kernel_rfl) (by kernel_rfl) ?_
                refine lin_pass 11 (some 96) (by kernel_rfl) (by kernel_rfl) ?_
                refine lin_pass 12 (some 97) (by kernel_rfl) (by kernel_rfl) ?_
                refine lin_pass 13 (some 98) (by kernel_rfl) (by kernel_rfl) ?_
                refine lin_pass 14 (some 99) (by kernel_rfl) (by kernel_rfl) ?_
                refine lin_pass 15 (some 100) (by kernel_rfl) (by kernel_rfl) ?_
                refine lin_pass 16 (some 101) (by kernel_rfl) (by kernel_rfl) ?_
                refine lin_pass 17 (some 102) (by kernel_rfl) (by kernel_rfl) ?_
                refine lin_pass 18 (some 103) (by kernel_rfl) (by kernel_rfl) ?_
                refine lin_pass 19 (some 104) (by kernel_rfl) (by kernel_rfl) ?_
                refine lin_pass 20 (some 105) (by kernel_rfl) (by kernel_rfl) ?_
                refine lin_now 21 (.bool false) (some 106) (by kernel_rfl) (by kernel_rfl) (by kernel_rfl) ?_
                refine lin_now 22 (.bool false) (some 107) (by kernel_rfl) (by kernel_rfl) (by kernel_rfl) ?_
                refine lin_now 23 (.bool false) (some 108) (by kernel_rfl) (by kernel_rfl) (by kernel_rfl) ?_
                refine lin_now 24 (.int .i64 15) (some 109) (by kernel_rfl) (by kernel_rfl) (by kernel_rfl) ?_
                refine lin_now 25 (.bool true) (some 110) (by kernel_rfl) (by kernel_rfl) (by kernel_rfl) ?_
                refine lin_now 26 (.bool true) (some 111) (by kernel_rfl) (by kernel_rfl) (by kernel_rfl) ?_
                refine lin_now 27 (.pointer (some ⟨ab, 0, none⟩)) (some 112) (by kernel_rfl) (by kernel_rfl) (by kernel_rfl) ?_
                refine lin_call 28 19 #[.pointer (some ⟨ab, 0, none⟩)] (some 113) _ (by kernel_rfl) (by kernel_rfl) (by kernel_rfl) (arfree_walk A9.out hnx (by omega)) ?_
                rintro e w10 ⟨rfl, nd2, rfl⟩
                refine ⟨_, rfl, ?_⟩
                refine lin_now 29 (.int .i64 ((half - nx : Nat) : Int)) (some 114) (by kernel_rfl) (by kernel_rfl) (by kernel_rfl) ?_
                refine lin_now 30 (.bool (((half - nx : Nat) : Int) != ((half - nx : Nat) : Int))) (some 115) (by kernel_rfl) (by kernel_rfl) (by kernel_rfl) ?_
                rw [neq_self]
                refine lin_now 31 (.bool false) (some 116) (by kernel_rfl) (by kernel_rfl) (by kernel_rfl) ?_
                refine lin_now 32 (.pointer (some ⟨ab, 0, none⟩)) (some 117) (by kernel_rfl) (by kernel_rfl) (by kernel_rfl) ?_
                have BD2 := below_drewN w9 nd2
                refine lin_call 33 12 #[.pointer (some ⟨ab, 0, none⟩)] (some 118) _ (by kernel_rfl) (by kernel_rfl) (by kernel_rfl) (records_walk (A9.out.below BD2) (by rw [hrl2.out]; omega)) ?_
                rintro e w11 ⟨lv2, rfl, hnr2, hb11⟩
                obtain ⟨lq2, elv2⟩ := hnr2.slice
                rw [hrl2.out] at elv2
                subst elv2
                refine ⟨_, rfl, ?_⟩
                refine lin_now 34 (.int .i64 (rl : Int)) (some 119) (by kernel_rfl) (by kernel_rfl) (by kernel_rfl) ?_
                refine lin_now 35 (.int .i64 (rl : Int)) (some 120) (by kernel_rfl) (by kernel_rfl) (by kernel_rfl) ?_
                refine lin_now 36 (.bool ((rl : Int) != (rl : Int))) (some 121) (by kernel_rfl) (by kernel_rfl) (by kernel_rfl) ?_
                rw [neq_self]
                refine lin_now 37 (.bool false) (some 122) (by kernel_rfl) (by kernel_rfl) (by kernel_rfl) ?_
                refine lin_now 38 (.bool false) (some 123) (by kernel_rfl) (by kernel_rfl) (by kernel_rfl) ?_
                refine lin_now 39 (.bool false) (some 124) (by kernel_rfl) (by kernel_rfl) (by kernel_rfl) ?_
                refine lin_done 40 (by kernel_rfl) ?_
                have BB : Below w9.heap.size w9 w11 := BD2.trans (hb11.mono BD2.size)
                have A11 := Lib.hid (A9.out.below BB)
                have D11 := Lib.hid (D9.out.below BB)
                have B11 : Hid (Below w1.heap.size w1 w11) := B9.out.trans (BB.mono B9.out.size)
                clear BB BD2 hb11 hnr2 A9 D9 B9
                generalize hact : Act.put _ (some 124) _ = act
                simp only [Act.put, List.setIfInBounds_toArray, List.set_cons_succ, List.set_cons_zero] at hact
                subst hact
                go_wp2
                go_roundw
                case rel => exact ⟨i + 1, nx, A1, F1, s1, p1, rs, by omega, by go_num, A11.out, D11.out, hnx, hpl, by have := hrl2.out; omega, h1n, hmg, B11.out⟩
                case measure => simp [intOf]; omega
              · have gq : ¬ ((half - nx : Nat) : Int) < (kn : Int) := by omega
                go_upto_region 17 with (fail)
                refine lin_begin (opsOf Tryd.f4 17) (by kernel_rfl) ?_
                refine lin_now 0 (.pointer (some ⟨ab, 0, none⟩)) (some 74) (by kernel_rfl) (by kernel_rfl) (by kernel_rfl) ?_
                refine lin_now 1 (.slice (some ⟨qb, qo, none⟩) n cap) (some 75) (by kernel_rfl) (by kernel_rfl) (by kernel_rfl) ?_
                refine lin_now 2 (.int .i64 (i : Int)) (some 76) (by kernel_rfl) (by kernel_rfl) (by kernel_rfl) ?_
                refine lin_now 3 (.pointer (some ⟨qb, qo + i, none⟩)) (some 77) (by kernel_rfl) (by kernel_rfl) (exec_indexAt 32 (.tmp 75) (.tmp 76) (by kernel_rfl) _ _ _ (by kernel_rfl) (by kernel_rfl) (run_at_part qb qo n cap i hlt _)) ?_
                refine lin_now 4 (.slice pa rn pc) (some 78) (by kernel_rfl) (by kernel_rfl) (exec_load_cell 33 (.tmp 77) (by kernel_rfl) qb (qo + i) (by kernel_rfl) _ C8.out _ Tryd.underlying33 rfl) ?_
                refine lin_call 5 9 #[.pointer (some ⟨ab, 0, none⟩), .slice pa rn pc] (some 79) _ (by kernel_rfl) (by kernel_rfl) (by kernel_rfl) (add_ok A8.out _ rec PB8.out PN.out K8.out (by rw [hrn.out]; omega) (by omega) (by omega) hnx (by omega) (by rw [hrn.out, hkn.out]; omega) sz s1 dur p1 (-1) D8.out (by omega) (by omega) (by omega) rfl (by rw [hrl2.out]; omega)) ?_
                rintro e w9 ⟨rfl, A9l, F9l, ha9, hd9, hs9⟩
                refine ⟨_, rfl, ?_⟩
                refine lin_now 6 (.int .i64 0) (some 12) (by kernel_rfl) (by kernel_rfl) (by kernel_rfl) ?_
                refine lin_done 7 (by kernel_rfl) ?_
                rw [hrn.out, hkn.out] at ha9 hd9
                have A9 := Lib.hid ha9
                have D9 := Lib.hid hd9
                have MG9 : Hid (∀ k ∈ A9l ++ F9l, w1.heap.size ≤ k) := hs9.ge hmg.out B8.out.size
                have B9 : Hid (Below w1.heap.size w1 w9) := hs9.blow hmg.out B8.out.size B8.out
                clear ha9 hd9 hs9 A8 D8 B8 K8 PB8 C8
                generalize hact : Act.put _ (some 12) _ = act
                simp only [Act.put, List.setIfInBounds_toArray, List.set_cons_succ, List.set_cons_zero] at hact
                subst hact
                go_upto_region 23 with (fail)
                refine lin_begin (opsOf Tryd.f4 23) (by kernel_rfl) ?_
                refine lin_now 0 (.int .i64 0) (some 85) (by kernel_rfl) (by kernel_rfl) (by kernel_rfl) ?_
                refine lin_now 1 (.int .i64 0) (some 86) (by kernel_rfl) (by kernel_rfl) (by kernel_rfl) ?_
                refine lin_now 2 (.bool false) (some 87) (by kernel_rfl) (by kernel_rfl) (by kernel_rfl) ?_
                refine lin_now 3 (.bool false) (some 88) (by kernel_rfl) (by kernel_rfl) (by kernel_rfl) ?_
                refine lin_now 4 (.int .i64 0) (some 89) (by kernel_rfl) (by kernel_rfl) (by kernel_rfl) ?_
                refine lin_now 5 (.bool true) (some 90) (by kernel_rfl) (by kernel_rfl) (by kernel_rfl) ?_
                refine lin_now 6 (.bool true) (some 91) (by kernel_rfl) (by kernel_rfl) (by kernel_rfl) ?_
                refine lin_now 7 (.pointer (some ⟨ab, 0, none⟩)) (some 92) (by kernel_rfl) (by kernel_rfl) (by kernel_rfl) ?_
                refine lin_call 8 19 #[.pointer (some ⟨ab, 0, none⟩)] (some 93) _ (by kernel_rfl) (by kernel_rfl) (by kernel_rfl) (arfree_walk A9.out (by omega) (by omega)) ?_
                rintro e w10 ⟨rfl, nd2, rfl⟩
                refine ⟨_, rfl, ?_⟩
                refine lin_now 9 (.int .i64 ((half - nx : Nat) : Int)) (some 94) (by kernel_rfl) (by kernel_rfl) (by kernel_rfl) ?_
                refine lin_now 10 (.int .i64 (kn : Int)) (some 95) (by kernel_rfl) (by kernel_rfl) (by kernel_rfl) ?_
                refine lin_now 11 (.int .i64 (IntKind.i64.wrap (((half - nx : Nat) : Int) - (kn : Int)))) (some 96) (by kernel_rfl) (by kernel_rfl) (by kernel_rfl) ?_
                rw [show IntKind.i64.wrap (((half - nx : Nat) : Int) - (kn : Int)) = ((half - (nx + kn) : Nat) : Int) from (IntWalk.i64_in _ (by omega)).trans (by omega)]
                refine lin_now 12 (.bool (((half - (nx + kn) : Nat) : Int) != ((half - (nx + kn) : Nat) : Int))) (some 97) (by kernel_rfl) (by kernel_rfl) (by kernel_rfl) ?_
                rw [neq_self]
                refine lin_now 13 (.bool false) (some 98) (by kernel_rfl) (by kernel_rfl) (by kernel_rfl) ?_
                refine lin_now 14 (.pointer (some ⟨ab, 0, none⟩)) (some 99) (by kernel_rfl) (by kernel_rfl) (by kernel_rfl) ?_
                have BD2 := below_drewN w9 nd2
                have RL9 : (rs ++ [rec]).length = rl + 1 := by rw [List.length_append, hrl2.out]; rfl
                refine lin_call 15 12 #[.pointer (some ⟨ab, 0, none⟩)] (some 100) _ (by kernel_rfl) (by kernel_rfl) (by kernel_rfl) (records_walk (A9.out.below BD2) (by rw [RL9]; omega)) ?_
                rintro e w11 ⟨lv2, rfl, hnr2, hb11⟩
                obtain ⟨lq2, elv2⟩ := hnr2.slice
                rw [RL9] at elv2
                subst elv2
                refine ⟨_, rfl, ?_⟩
                refine lin_now 16 (.int .i64 ((rl + 1 : Nat) : Int)) (some 101) (by kernel_rfl) (by kernel_rfl) (by kernel_rfl) ?_
                refine lin_now 17 (.int .i64 (rl : Int)) (some 102) (by kernel_rfl) (by kernel_rfl) (by kernel_rfl) ?_
                refine lin_now 18 (.int .i64 (IntKind.i64.wrap ((rl : Int) + 1))) (some 103) (by kernel_rfl) (by kernel_rfl) (by kernel_rfl) ?_
                rw [show IntKind.i64.wrap ((rl : Int) + 1) = ((rl + 1 : Nat) : Int) from (IntWalk.i64_in _ (by omega)).trans (by omega)]
                refine lin_now 19 (.bool (((rl + 1 : Nat) : Int) != ((rl + 1 : Nat) : Int))) (some 104) (by kernel_rfl) (by kernel_rfl) (by kernel_rfl) ?_
                rw [neq_self]
                refine lin_now 20 (.bool false) (some 105) (by kernel_rfl) (by kernel_rfl) (by kernel_rfl) ?_
                refine lin_now 21 (.bool false) (some 106) (by kernel_rfl) (by kernel_rfl) (by kernel_rfl) ?_
                refine lin_now 22 (.bool false) (some 107) (by kernel_rfl) (by kernel_rfl) (by kernel_rfl) ?_
                refine lin_now 23 (.bool false) (some 108) (by kernel_rfl) (by kernel_rfl) (by kernel_rfl) ?_
                refine lin_now 24 (.int .i64 0) (some 109) (by kernel_rfl) (by kernel_rfl) (by kernel_rfl) ?_
                refine lin_now 25 (.bool false) (some 110) (by kernel_rfl) (by kernel_rfl) (by kernel_rfl) ?_
                refine lin_now 26 (.bool false) (some 111) (by kernel_rfl) (by kernel_rfl) (by kernel_rfl) ?_
                refine lin_pass 27 (some 112) (by kernel_rfl) (by kernel_rfl) ?_
                refine lin_pass 28 (some 113) (by kernel_rfl) (by kernel_rfl) ?_
                refine lin_pass 29 (some 114) (by kernel_rfl) (by kernel_rfl) ?_
                refine lin_pass 30 (some 115) (by kernel_rfl) (by kernel_rfl) ?_
                refine lin_pass 31 (some 116) (by kernel_rfl) (by kernel_rfl) ?_
                refine lin_pass 32 (some 117) (by kernel_rfl) (by kernel_rfl) ?_
                refine lin_pass 33 (some 118) (by kernel_rfl) (by kernel_rfl) ?_
                refine lin_pass 34 (some 119) (by kernel_rfl) (by kernel_rfl) ?_
                refine lin_pass 35 (some 120) (by kernel_rfl) (by kernel_rfl) ?_
                refine lin_pass 36 (some 121) (by kernel_rfl) (by kernel_rfl) ?_
                refine lin_pass 37 (some 122) (by kernel_rfl) (by kernel_rfl) ?_
                refine lin_now 38 (.bool false) (some 123) (by kernel_rfl) (by kernel_rfl) (by kernel_rfl) ?_
                refine lin_now 39 (.bool false) (some 124) (by kernel_rfl) (by kernel_rfl) (by kernel_rfl) ?_
                refine lin_done 40 (by kernel_rfl) ?_
                have BB : Below w9.heap.size w9 w11 := BD2.trans (hb11.mono BD2.size)
                have A11 := Lib.hid (A9.out.below BB)
                have D11 := Lib.hid (D9.out.below BB)
                have B11 : Hid (Below w1.heap.size w1 w11) := B9.out.trans (BB.mono B9.out.size)
                have RL2 : Hid ((rs ++ [rec]).length ≤ i + 1) := by unfold Hid; rw [RL9]; omega
                have PL2 : Hid ((p1 ++ wrsAt (0 + nx) (packF 1 nx rec) kn).length ≤ nx + kn) := by unfold Hid; rw [List.length_append, wrsAt_length]; omega
                clear BB BD2 hb11 hnr2 A9 D9 B9 RL9
                generalize hact : Act.put _ (some 124) _ = act
                simp only [Act.put, List.setIfInBounds_toArray, List.set_cons_succ, List.set_cons_zero] at hact
                subst hact
                go_wp2
                go_roundw
                case rel => exact ⟨i + 1, nx + kn, A9l, F9l, _, _, rs ++ [rec], by omega, by go_num, A11.out, D11.out, by omega, PL2.out, RL2.out, by omega, MG9, B11.out⟩
                case measure => simp [intOf]; omega
          · have r1 : ¬ (i : Int) < (n : Int) := by omega
            go_wp2_with fail
            refine (arstuck_walk AR.out).mono ?_
            rintro e w6 ⟨rfl, rfl⟩
            go_wp2
            go_ret
            exact ⟨rfl, BE1.out.trans (BE.out.mono SB.out)⟩
end Go.Proofs.YtijmaigcdcloiaaDoor
