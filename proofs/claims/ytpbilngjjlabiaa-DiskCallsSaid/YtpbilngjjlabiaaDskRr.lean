/- The reference's disk: Read. -/
import Derived.Test.YtpbilngjjlabiaaDskRi
namespace Go.Proofs.Ytpbilngjjlabiaa
open Go Go.RowKit
set_option maxRecDepth 100000

theorem outP_all {s : List Int} (hs : s.length = 64) : putP zB (0, s) 0 64 = s := by
  rw [putP_all (x := (0, s)) hs]
  unfold putB
  rw [Nat.mul_zero, List.take_zero, List.nil_append, List.drop_eq_nil_of_le (by rw [zB_length]; omega), List.append_nil]
theorem getB_at {l : List Int} {n k : Nat} (hk : k < 64) : (getB l n).getD k 0 = l.getD (64 * n + k) 0 := by
  unfold getB
  rw [List.getD_eq_getElem?_getD, List.getElem?_take, if_pos hk, List.getElem?_drop, List.getD_eq_getElem?_getD]
set_option maxHeartbeats 2000000 in
theorem rread_yes (r sz n : Nat) (F : List Nat) (last : List Int) (pend : List Wr) (left : Int) (w : World) (h : Rk w F r sz last pend left) (hm : pend.length ≤ 1000000) (hn : n < sz) :
    Calls Try.prog 19 #[.pointer (some ⟨r, 0, none⟩), .int .i64 (n : Int)] w fun e w' => e = .returned (.tuple #[.agg (ints .u8 (getB (applyK last pend pend.length) n)).toArray, .int .i64 0]) ∧ Below w.heap.size w w' := by
  have HAL : Hid ((applyK last pend pend.length).length = 64 * sz) := by
    obtain ⟨lB, lc, rl, pv, rfl, hx⟩ := id h
    exact applyK_length hx.ls hx.ok _ (Nat.le_refl _)
  have hbig : sz ≤ 4096 := by
    obtain ⟨lB, lc, rl, pv, rfl, hx⟩ := id h
    exact hx.big
  obtain ⟨al, hal⟩ : ∃ al, Hid (applyK last pend pend.length = al) := ⟨_, rfl⟩
  rw [hal.out] at HAL ⊢
  obtain ⟨s, hs⟩ : ∃ s, Hid (getB al n = s) := ⟨_, rfl⟩
  have HSL : Hid (s.length = 64) := by unfold Hid; rw [← hs.out]; exact getB_length HAL.out hn
  have HSD : Hid (∀ k, k < 64 → s.getD k 0 = al.getD (64 * n + k) 0) := fun k hk => by rw [← hs.out]; exact getB_at hk
  rw [hs.out]
  obtain ⟨W0, hW0⟩ : ∃ W0, Hid (W0 = w.alloc (.cells (ints .u8 zB).toArray 33)) := ⟨_, rfl⟩
  have B0 : Hid (Blk W0 w.heap.size 33 (ints .u8 zB)) := by unfold Hid; rw [hW0.out]; exact Blk.new _ _ _
  have E0 : Hid (Below w.heap.size w W0) := by unfold Hid; rw [hW0.out]; exact (Below.refl _ _).alloc (Nat.le_refl _) _
  have S0 : Hid (W0.heap.size = w.heap.size + 1) := by unfold Hid; rw [hW0.out]; simp
  have BX := Lib.hid (boxed W0 33 (ints .u8 zB) (ints .u8 zB) rfl)
  have TH : Hid (World.there (W0.alloc (.cells (ints .u8 zB).toArray 33)) W0.heap.size 0 (ints .u8 zB).length) := (Blk.new W0 33 (ints .u8 zB)).there 0 _ (by omega)
  have IZ : Hid ((Try.prog.info? 33).map (·.size) = some (ints .u8 zB).length) := infoBlk _ zB_length
  have E1 : Hid (Below w.heap.size w ((W0.alloc (.cells (ints .u8 zB).toArray 33)).setCells W0.heap.size 0 (ints .u8 zB))) := E0.out.trans (BX.out.2.1.mono E0.out.size)
  have HR := Lib.hid (h.below E1.out)
  have B1 := Lib.hid BX.out.1
  have B01 := Lib.hid (B0.out.below BX.out.2.1 B0.out.lt)
  clear h
  go_enter Try.func19, Try.ntmps19
  go_upto_region 1 with (fail)
  refine wp_at (w' := W0) (by rw [hW0.out]; kernel_rfl) ?_
  refine lin_begin (opsOf Try.f19 1) (by kernel_rfl) ?_
  refine lin_now 0 (.agg (ints .u8 zB).toArray) (some 9) (by kernel_rfl) (by kernel_rfl) (by kernel_rfl) ?_
  refine lin_value 1 (.pointer (some ⟨W0.heap.size, 0, none⟩)) (some 6) (W0.alloc (.cells (ints .u8 zB).toArray 33)) (by kernel_rfl) (by kernel_rfl) (exec_alloc 33 (by kernel_rfl) (.agg (ints .u8 zB).toArray) zeroBlk) ?_
  refine lin_store 2 _ (by kernel_rfl) (by kernel_rfl) (exec_store_mid 33 (.tmp 6) (.tmp 9) (by kernel_rfl) W0.heap.size 0 (ints .u8 zB) (by kernel_rfl) (by kernel_rfl) TH.out IZ.out (ints_oneCell _ _)) ?_
  refine lin_done 3 (by kernel_rfl) ?_
  clear TH BX B0 E0 hW0
  generalize (W0.alloc (.cells (ints .u8 zB).toArray 33)).setCells W0.heap.size 0 (ints .u8 zB) = W1 at *
  generalize W0.heap.size = X at *
  generalize hqe : w.heap.size = q at *
  have hqX : q < X := by have := S0.out; omega
  have HQE := Lib.hid hqe
  clear S0 hqe
  generalize hact : Act.put _ none undef = act
  simp only [Act.put, List.setIfInBounds_toArray, List.set_cons_succ, List.set_cons_zero] at hact
  subst hact
  go_wp2_with fail
  obtain ⟨lB, lc, rl, pv, -, hx⟩ := id HR.out
  refine (there_yes r sz n lc _ _ hx.c0 hn hx.big).mono ?_
  rintro e w1 ⟨rfl, rfl⟩
  clear hx
  go_wp2_with fail
  refine (rimage_walk r sz _ last pend left W1 HR.out hm).mono ?_
  rw [hal.out]
  rintro e w2 ⟨g, cap, rs, rfl, hg, hbg, hcap, hb2⟩
  rw [HAL.out] at hcap ⊢
  have G2 := Lib.hid hbg
  have E2 := Lib.hid (E1.out.trans (hb2.mono (by rw [← HQE.out]; exact E1.out.size)))
  have C1 := Lib.hid (B1.out.below hb2 B1.out.lt)
  have C0 := Lib.hid (B01.out.below hb2 B01.out.lt)
  have hgX : X < g := Nat.lt_of_lt_of_le B1.out.lt hg
  clear hbg hb2 B1 B01 HR E1 hg
  have IS : Hid ((Try.prog.info? 33).map (·.size) = some (ints .u8 s).length) := infoBlk _ HSL.out
  have hLb : 64 * n + 64 ≤ 64 * sz := by omega
  have hLt : 64 * sz ≤ 262144 := by omega
  generalize 64 * sz = L at *
  go_wp2
  go_loopw [8] (fun i wr => ∃ k : Nat, k ≤ 64 ∧ i = .int .i64 (k : Int) ∧ Blk wr X 33 (ints .u8 (putP zB (0, s) 0 k)) ∧ Blk wr q 33 (ints .u8 zB) ∧ Blk wr g 5 (ints .u8 al ++ rs) ∧ Below q w wr) (fun i _ => 64 - (intOf i).toNat)
  case atStart => exact ⟨0, by omega, rfl, by rw [putP_zero]; exact C1.out, C0.out, G2.out, E2.out⟩
  case round =>
    obtain ⟨k, hk, rfl, h1, h0, hg, hb⟩ := hrel
    have K1 := Lib.hid h1
    have K0 := Lib.hid h0
    have KG := Lib.hid hg
    have KB := Lib.hid hb
    clear h1 h0 hg hb C1 C0 G2 E2
    by_cases hlt : k < 64
    · have q1 : (k : Int) < 64 := by omega
      have HNX := Lib.hid (putP_next (l := zB) (x := (0, s)) (fr := 0) (n := k) HSL.out (by rw [zB_length]; omega) (by omega))
      have HPL := Lib.hid (putP_length (l := zB) (x := (0, s)) (fr := 0) (n := k) HSL.out (by rw [zB_length]; omega) (by omega))
      obtain ⟨v, hv⟩ : ∃ v, Hid (s.getD k 0 = v) := ⟨_, rfl⟩
      have CG : Hid (wr.cell? ⟨g, 0 + (64 * n + k), none⟩ = some (.int .u8 v)) := by
        refine KG.out.cell ?_
        rw [Nat.zero_add, List.getElem?_append_left (by rw [ints_length, HAL.out]; omega), ← hv.out, HSD.out k hlt]
        exact ints_getD (by rw [HAL.out]; omega)
      have K2 : Hid (Blk (wr.setCell ⟨X, 0 + k, none⟩ (.int .u8 v)) X 33 (ints .u8 (putP zB (0, s) 0 (k + 1)))) := by
        have h1 := K1.out.set (0 + k) (.int .u8 v)
        have h2 := HNX.out
        simp only [Nat.mul_zero, Nat.zero_add, hv.out] at h1 h2
        rw [ints_set, h2] at h1
        unfold Hid
        rw [Nat.zero_add]
        exact h1
      have K02 : Hid (Blk (wr.setCell ⟨X, 0 + k, none⟩ (.int .u8 v)) q 33 (ints .u8 zB)) := K0.out.other (by simp; omega) _
      have KG2 : Hid (Blk (wr.setCell ⟨X, 0 + k, none⟩ (.int .u8 v)) g 5 (ints .u8 al ++ rs)) := KG.out.other (by simp; omega) _
      have KB2 : Hid (Below q w (wr.setCell ⟨X, 0 + k, none⟩ (.int .u8 v))) := ((Upd.refl X wr).setCell (0 + k) _).below KB.out (by omega) (by rw [← HQE.out]; exact KB.out.size)
      go_upto_region 8 with (fail)
      refine lin_begin (opsOf Try.f19 8) (by kernel_rfl) ?_
      refine lin_now 0 (.int .i64 (k : Int)) (some 21) (by kernel_rfl) (by kernel_rfl) (by kernel_rfl) ?_
      refine lin_now 1 (.slice (some ⟨g, 0, none⟩) L cap) (some 22) (by kernel_rfl) (by kernel_rfl) (by kernel_rfl) ?_
      refine lin_now 2 (.int .i64 (n : Int)) (some 23) (by kernel_rfl) (by kernel_rfl) (by kernel_rfl) ?_
      refine lin_now 3 (.int .i64 (IntKind.i64.wrap (64 * (n : Int)))) (some 24) (by kernel_rfl) (by kernel_rfl) (by kernel_rfl) ?_
      rw [show IntKind.i64.wrap (64 * (n : Int)) = 64 * (n : Int) from IntWalk.i64_in _ (by omega)]
      refine lin_now 4 (.int .i64 (k : Int)) (some 25) (by kernel_rfl) (by kernel_rfl) (by kernel_rfl) ?_
      refine lin_now 5 (.int .i64 (IntKind.i64.wrap (64 * (n : Int) + (k : Int)))) (some 26) (by kernel_rfl) (by kernel_rfl) (by kernel_rfl) ?_
      rw [show IntKind.i64.wrap (64 * (n : Int) + (k : Int)) = ((64 * n + k : Nat) : Int) from by rw [IntWalk.i64_in _ (by omega)]; omega]
      refine lin_now 6 (.pointer (some ⟨g, 0 + (64 * n + k), none⟩)) (some 27) (by kernel_rfl) (by kernel_rfl) (exec_indexAt 34 (.tmp 22) (.tmp 26) (by kernel_rfl) _ _ _ (by kernel_rfl) (by kernel_rfl) (run_at_byte g 0 L cap (64 * n + k) (by omega) _)) ?_
      refine lin_now 7 (.int .u8 v) (some 28) (by kernel_rfl) (by kernel_rfl) (exec_load_cell 5 (.tmp 27) (by kernel_rfl) g (0 + (64 * n + k)) (by kernel_rfl) _ CG.out _ Try.underlying5 rfl) ?_
      refine lin_now 8 (.pointer (some ⟨X, 0 + k, none⟩)) (some 29) (by kernel_rfl) (by kernel_rfl) (exec_indexAt 33 (.tmp 6) (.tmp 21) (by kernel_rfl) _ _ _ (by kernel_rfl) (by kernel_rfl) (run_at_arr X 0 k hlt _)) ?_
      refine lin_store 9 (wr.setCell ⟨X, 0 + k, none⟩ (.int .u8 v)) (by kernel_rfl) (by kernel_rfl) (exec_store_cell 5 (.tmp 29) (.tmp 28) (by kernel_rfl) X (0 + k) _ (by kernel_rfl) (by kernel_rfl) _ _ K1.out (by rw [ints_length, HPL.out, zB_length]; omega) sizeByte2 rfl rfl) ?_
      refine lin_done 10 (by kernel_rfl) ?_
      clear K1 K0 KG KB HNX HPL CG
      generalize wr.setCell ⟨X, 0 + k, none⟩ (.int .u8 v) = W2 at *
      generalize hact : Act.put _ none undef = act
      simp only [Act.put, List.setIfInBounds_toArray, List.set_cons_succ, List.set_cons_zero] at hact
      subst hact
      go_wp2
      exact ⟨⟨k + 1, by omega, by go_num, K2.out, K02.out, KG2.out, KB2.out⟩, by simp [intOf]; omega⟩
    · have q1 : ¬ (k : Int) < 64 := by omega
      obtain rfl : k = 64 := by omega
      have K1' : Hid (Blk wr X 33 (ints .u8 s)) := by have h1 := K1.out; rw [outP_all HSL.out] at h1; exact h1
      have BW : Hid (Blk (wr.setCells q 0 (ints .u8 s)) q 33 (ints .u8 s)) := K0.out.setWhole _ (by rw [ints_length, ints_length, HSL.out, zB_length])
      have TH : Hid (wr.there q 0 (ints .u8 s).length) := K0.out.there 0 _ (by rw [ints_length, ints_length, HSL.out, zB_length]; omega)
      have BE : Hid (Below q w (wr.setCells q 0 (ints .u8 s))) := below_setCells (ints .u8 s) KB.out (b := q) 0 (Nat.le_refl _)
      clear K1
      go_upto_region 9 with (fail)
      refine lin_begin (opsOf Try.f19 9) (by kernel_rfl) ?_
      refine lin_now 0 (.agg (ints .u8 s).toArray) (some 30) (by kernel_rfl) (by kernel_rfl) (exec_load_mid 33 (.tmp 6) (by kernel_rfl) X 0 (by kernel_rfl) (ints .u8 s) _ K1'.out.whole Try.underlying33 rfl IS.out) ?_
      refine lin_store 1 (wr.setCells q 0 (ints .u8 s)) (by kernel_rfl) (by kernel_rfl) (exec_store_mid 33 (.tmp 4) (.tmp 30) (by kernel_rfl) q 0 (ints .u8 s) (by kernel_rfl) (by kernel_rfl) TH.out IS.out (ints_oneCell _ _)) ?_
      refine lin_now 2 (.int .i64 0) (some 5) (by kernel_rfl) (by kernel_rfl) (by kernel_rfl) ?_
      refine lin_done 3 (by kernel_rfl) ?_
      clear TH K0 K1' KG KB
      generalize wr.setCells q 0 (ints .u8 s) = wf at *
      generalize hact : Act.put _ (some 5) (.int .i64 0) = act
      have h4 : act.tmps.getD 4 undef = .pointer (some ⟨q, 0, none⟩) := by rw [← hact]; kernel_rfl
      have h5 : act.tmps.getD 5 undef = .int .i64 0 := by rw [← hact]; kernel_rfl
      have hd : act.defers = [] := by rw [← hact]; kernel_rfl
      clear hact
      go_wp2
      refine bodyPost_ret (v := .tuple #[.agg (ints .u8 s).toArray, .int .i64 0]) ?_ hd ⟨rfl, by rw [HQE.out]; exact BE.out⟩
      exact results_cell_tmp Try.results19 _ _ q 33 (ints .u8 s).toArray (0, 0) _ _ h4 h5 BW.out Try.underlying33 rfl (by rw [List.size_toArray]; exact IS.out)
set_option maxHeartbeats 1000000 in
theorem rread_no (r sz : Nat) (n : Int) (F : List Nat) (last : List Int) (pend : List Wr) (left : Int) (w : World) (h : Rk w F r sz last pend left) (hn : n < 0 ∨ (sz : Int) ≤ n) :
    Calls Try.prog 19 #[.pointer (some ⟨r, 0, none⟩), .int .i64 n] w fun e w' => e = .returned (.tuple #[.agg (ints .u8 zB).toArray, .int .i64 11]) ∧ Below w.heap.size w w' := by
  obtain ⟨W0, hW0⟩ : ∃ W0, Hid (W0 = w.alloc (.cells (ints .u8 zB).toArray 33)) := ⟨_, rfl⟩
  have B0 : Hid (Blk W0 w.heap.size 33 (ints .u8 zB)) := by unfold Hid; rw [hW0.out]; exact Blk.new _ _ _
  have E0 : Hid (Below w.heap.size w W0) := by unfold Hid; rw [hW0.out]; exact (Below.refl _ _).alloc (Nat.le_refl _) _
  have S0 : Hid (W0.heap.size = w.heap.size + 1) := by unfold Hid; rw [hW0.out]; simp
  have BX := Lib.hid (boxed W0 33 (ints .u8 zB) (ints .u8 zB) rfl)
  have TH : Hid (World.there (W0.alloc (.cells (ints .u8 zB).toArray 33)) W0.heap.size 0 (ints .u8 zB).length) := (Blk.new W0 33 (ints .u8 zB)).there 0 _ (by omega)
  have IZ : Hid ((Try.prog.info? 33).map (·.size) = some (ints .u8 zB).length) := infoBlk _ zB_length
  have E1 : Hid (Below w.heap.size w ((W0.alloc (.cells (ints .u8 zB).toArray 33)).setCells W0.heap.size 0 (ints .u8 zB))) := E0.out.trans (BX.out.2.1.mono E0.out.size)
  have HR := Lib.hid (h.below E1.out)
  have B1 := Lib.hid BX.out.1
  have B01 := Lib.hid (B0.out.below BX.out.2.1 B0.out.lt)
  clear h
  go_enter Try.func19, Try.ntmps19
  go_upto_region 1 with (fail)
  refine wp_at (w' := W0) (by rw [hW0.out]; kernel_rfl) ?_
  refine lin_begin (opsOf Try.f19 1) (by kernel_rfl) ?_
  refine lin_now 0 (.agg (ints .u8 zB).toArray) (some 9) (by kernel_rfl) (by kernel_rfl) (by kernel_rfl) ?_
  refine lin_value 1 (.pointer (some ⟨W0.heap.size, 0, none⟩)) (some 6) (W0.alloc (.cells (ints .u8 zB).toArray 33)) (by kernel_rfl) (by kernel_rfl) (exec_alloc 33 (by kernel_rfl) (.agg (ints .u8 zB).toArray) zeroBlk) ?_
  refine lin_store 2 _ (by kernel_rfl) (by kernel_rfl) (exec_store_mid 33 (.tmp 6) (.tmp 9) (by kernel_rfl) W0.heap.size 0 (ints .u8 zB) (by kernel_rfl) (by kernel_rfl) TH.out IZ.out (ints_oneCell _ _)) ?_
  refine lin_done 3 (by kernel_rfl) ?_
  clear TH BX B0 E0 hW0
  generalize (W0.alloc (.cells (ints .u8 zB).toArray 33)).setCells W0.heap.size 0 (ints .u8 zB) = W1 at *
  generalize W0.heap.size = X at *
  generalize hqe : w.heap.size = q at *
  have hqX : q < X := by have := S0.out; omega
  have HQE := Lib.hid hqe
  clear S0 hqe
  generalize hact : Act.put _ none undef = act
  simp only [Act.put, List.setIfInBounds_toArray, List.set_cons_succ, List.set_cons_zero] at hact
  subst hact
  go_wp2_with fail
  obtain ⟨lB, lc, rl, pv, -, hx⟩ := id HR.out
  refine (there_no r sz lc n _ _ hx.c0 hn hx.big).mono ?_
  rintro e w1 ⟨rfl, rfl⟩
  clear hx HR
  have BW : Hid (Blk (W1.setCells q 0 (ints .u8 zB)) q 33 (ints .u8 zB)) := B01.out.setWhole _ rfl
  have TH : Hid (W1.there q 0 (ints .u8 zB).length) := B01.out.there 0 _ (by omega)
  have BE : Hid (Below q w (W1.setCells q 0 (ints .u8 zB))) := below_setCells (ints .u8 zB) E1.out (b := q) 0 (Nat.le_refl _)
  go_upto_region 3 with (fail)
  refine lin_begin (opsOf Try.f19 3) (by kernel_rfl) ?_
  refine lin_now 0 (.agg (ints .u8 zB).toArray) (some 14) (by kernel_rfl) (by kernel_rfl) (exec_load_mid 33 (.tmp 6) (by kernel_rfl) X 0 (by kernel_rfl) (ints .u8 zB) _ B1.out.whole Try.underlying33 rfl IZ.out) ?_
  refine lin_store 1 (W1.setCells q 0 (ints .u8 zB)) (by kernel_rfl) (by kernel_rfl) (exec_store_mid 33 (.tmp 4) (.tmp 14) (by kernel_rfl) q 0 (ints .u8 zB) (by kernel_rfl) (by kernel_rfl) TH.out IZ.out (ints_oneCell _ _)) ?_
  refine lin_now 2 (.int .i64 11) (some 5) (by kernel_rfl) (by kernel_rfl) (by kernel_rfl) ?_
  refine lin_done 3 (by kernel_rfl) ?_
  clear TH B1 B01 E1
  generalize W1.setCells q 0 (ints .u8 zB) = wf at *
  generalize hact : Act.put _ (some 5) (.int .i64 11) = act
  have h4 : act.tmps.getD 4 undef = .pointer (some ⟨q, 0, none⟩) := by rw [← hact]; kernel_rfl
  have h5 : act.tmps.getD 5 undef = .int .i64 11 := by rw [← hact]; kernel_rfl
  have hd : act.defers = [] := by rw [← hact]; kernel_rfl
  clear hact
  go_wp2
  refine bodyPost_ret (v := .tuple #[.agg (ints .u8 zB).toArray, .int .i64 11]) ?_ hd ⟨rfl, by rw [HQE.out]; exact BE.out⟩
  exact results_cell_tmp Try.results19 _ _ q 33 (ints .u8 zB).toArray (0, 0) _ _ h4 h5 BW.out Try.underlying33 rfl (by rw [List.size_toArray]; exact IZ.out)
end Go.Proofs.Ytpbilngjjlabiaa
