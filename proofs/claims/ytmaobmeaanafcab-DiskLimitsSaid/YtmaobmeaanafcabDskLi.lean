/- DiskLimits answers true. -/
import Derived.Test.YtmaobmeaanafcabDskCo
namespace Go.Proofs.Ytmaobmeaanafcab
open Go Go.RowKit
set_option maxRecDepth 100000

/-- How many of k writes are done behind a limit, and what is left of it. -/
def dnK (n : Int) (k : Nat) : Nat := if n < 0 then k else min n.toNat k
def leftK (n : Int) (k : Nat) : Int := if n < 0 then n else n - (dnK n k : Int)
theorem dnK_le (n : Int) (k : Nat) : dnK n k ≤ k := by unfold dnK; split <;> omega
theorem lim_go {n : Int} {k : Nat} (h : n < 0 ∨ (k : Int) < n) : dnK n (k + 1) = dnK n k + 1 ∧ leftK n k ≠ 0 ∧ (if 0 < leftK n k then leftK n k - 1 else leftK n k) = leftK n (k + 1) := by
  unfold leftK dnK
  rcases h with h | h
  · simp only [if_pos h]
    exact ⟨trivial, by omega, by rw [if_neg (by omega)]⟩
  · simp only [if_neg (show ¬ n < 0 by omega)]
    have e1 : min n.toNat (k + 1) = k + 1 := by omega
    have e2 : min n.toNat k = k := by omega
    rw [e1, e2]
    exact ⟨rfl, by omega, by rw [if_pos (by omega)]; omega⟩
theorem lim_no {n : Int} {k : Nat} (h : 0 ≤ n ∧ n ≤ (k : Int)) : dnK n (k + 1) = dnK n k ∧ leftK n k = 0 ∧ leftK n (k + 1) = 0 := by
  unfold leftK dnK
  simp only [if_neg (show ¬ n < 0 by omega)]
  have e1 : min n.toNat (k + 1) = n.toNat := by omega
  have e2 : min n.toNat k = n.toNat := by omega
  rw [e1, e2]
  exact ⟨rfl, by omega, by omega⟩
theorem getB_putB {l b : List Int} {n : Nat} (hl : l.length = 512) (hn : n < 8) (hb : b.length = 64) : getB (putB l n b) n = b := by
  unfold getB putB
  rw [List.drop_append_of_le_length (by rw [List.length_take]; omega), List.drop_eq_nil_of_le (by rw [List.length_take]; omega), List.nil_append, List.take_append_of_le_length (by omega), List.take_of_length_le (by omega)]
set_option maxHeartbeats 4000000 in
theorem limits_main (n : Int) (v : Value) (cs : List Cl) (w : World) (hv : CallsIn w v cs) (hn : n ≤ 9223372036854775807) :
    Calls Try.prog 6 #[.int .i64 n, v] w fun e w' => e = .returned (.bool true) ∧ Below w.heap.size w w' := by
  obtain ⟨a, cap, rfl, hml, -⟩ := id hv
  have HV := Lib.hid hv
  obtain ⟨m, hm⟩ : ∃ m, Hid (cs.length = m) := ⟨_, rfl⟩
  rw [hm.out] at HV hml ⊢
  clear hv
  go_enter Try.func6, Try.ntmps6
  go_wp2_with fail
  refine (dalive_walk _).mono ?_
  rintro e w1 ⟨rfl, hb1⟩
  have BE1 := Lib.hid hb1
  clear hb1
  go_wp2_with fail
  refine (great_walk _ cs _ (HV.out.below BE1.out)).mono ?_
  rintro e w2 ⟨gb, rfl, hgb, rfl⟩
  have HG := Lib.hid hgb
  clear hgb
  cases gb with
  | true =>
    go_wp2
    go_ret
    exact ⟨rfl, BE1.out⟩
  | false =>
    have hm60 : m ≤ 60 := by have := (HG.out rfl).1; rw [hm.out] at this; exact this
    go_wp2_with fail
    refine (new_yes 8 (by decide) (by decide) _).mono ?_
    rintro e w3 ⟨d, F3, rfl, hd3, hs3⟩
    have L3 : Hid (Lv F3 d 8 (zeros 512) (zeros 512) [] (-1) w w3) := ⟨hd3, (Step.of_below BE1.out (Nat.le_refl _)).trans hs3⟩
    clear hd3 hs3 BE1
    go_wp2_with fail
    refine (limit_walk d 8 F3 (zeros 512) (zeros 512) [] (-1) n _ L3.out.dk).mono ?_
    rintro e w4 ⟨rfl, F4, hd4, hs4⟩
    have L4 : Hid (Lv F4 d 8 (zeros 512) (zeros 512) [] (leftK n 0) w w4) := by
      have e : leftK n 0 = n := by unfold leftK dnK; split <;> simp
      unfold Hid
      rw [e]
      exact L3.out.step hd4 hs4
    clear hd4 hs4 L3
    go_wp2
    go_loopw [8, 7] (fun i dn wr => ∃ (k : Nat) (F : List Nat) (seen dur : List Int) (pend : List Wr), k ≤ m ∧ i = .int .i64 (k : Int) ∧ dn = .int .i64 (dnK n k : Int) ∧ pend.length = dnK n k ∧ Lv F d 8 seen dur pend (leftK n k) w wr) (fun i _ _ => m - (intOf i).toNat)
    case atStart => exact ⟨0, F4, _, _, [], by omega, rfl, by rw [show dnK n 0 = 0 by unfold dnK; split <;> simp]; rfl, by rw [show dnK n 0 = 0 by unfold dnK; split <;> simp]; rfl, L4.out⟩
    case round =>
    obtain ⟨k, F, seen, dur, pend, hk, rfl, rfl, hpl, hlv⟩ := hrel
    have LK := Lib.hid hlv
    have HPL := Lib.hid hpl
    have hdn := dnK_le n k
    clear hlv hpl L4
    by_cases hlt : k < m
    · have q1 : (k : Int) < (m : Int) := by omega
      obtain ⟨a', cap', he, -, hq'⟩ := HV.out.below LK.out.st.below
      rw [hm.out] at he hq'
      obtain ⟨e1, -, e3⟩ := Value.slice.inj he
      obtain ⟨qb, qo, hae, hqb, hcl⟩ := hq' (by omega)
      obtain ⟨c, hck⟩ : ∃ c, cs[k]? = some c := ⟨_, List.getElem?_eq_getElem (by rw [hm.out]; exact hlt)⟩
      have hc := hcl k c hck
      have HCW0 : Hid (Cw qb (qo + 67 * k) c wr) := ⟨hc.n, hc.block⟩
      have HCL := Lib.hid hc.len
      have IBC : Hid ((Try.prog.info? 33).map (·.size) = some (ints .u8 c.block).length) := infoBlk c.block hc.len
      have HQF : Hid (qb ∉ F) := fun hcon => by
        obtain ⟨a2, cap2, he2, -, hq2⟩ := HV.out
        rw [hm.out] at he2 hq2
        obtain ⟨e4, -, -⟩ := Value.slice.inj he2
        obtain ⟨qb2, qo2, hae2, hqb2, -⟩ := hq2 (by omega)
        have : qb = qb2 := by rw [← e4, e1, hae] at hae2; simpa using (congrArg (fun o => (o.map Addr.block)) hae2)
        have := LK.out.le qb hcon
        omega
      rw [hae] at e1
      subst e1
      clear he hq' hcl hc e3
      go_wp2_with fail
      refine (image_walk d 8 F seen dur pend (leftK n k) _ LK.out.dk).mono ?_
      rintro e w5 ⟨iv, rfl, hiv, hb5⟩
      have L5 := Lib.hid (LK.out.below hb5)
      have I5 : Hid (BytesOff F w5 iv seen) := owns_off hiv LK.out.dk.lt
      have HCW := Lib.hid (HCW0.out.step (Step.of_below (F := F) hb5 (Nat.le_refl _)) hqb HQF.out)
      have hqb5 : qb < w5.heap.size := Nat.lt_of_lt_of_le hqb hb5.size
      clear hiv hb5 LK HCW0 hqb
      obtain ⟨ia, ic, hie, -⟩ := id I5.out
      have HSL : Hid (seen.length = 512) := by obtain ⟨_, _, _, _, _, _, _, _, hx⟩ := L5.out.dk; exact hx.ls
      rw [HSL.out] at hie
      subst hie
      go_upto_region 14 with (fail)
      refine region_begin (opsOf Try.f6 14) (Cw qb (qo + 67 * k) c) (by kernel_rfl) (by kernel_rfl) 14 (by kernel_rfl) ?_
      intro Q' hQN hN
      have hS : Cw qb (qo + 67 * k) c w5.drew := ⟨HCW.out.n, HCW.out.block⟩
      refine reg_now 0 (.pointer (some ⟨d, 0, none⟩)) (some 39) hQN hS (by kernel_rfl) (by kernel_rfl) (fun w => by kernel_rfl) ?_
      refine reg_now 1 (.slice (some ⟨qb, qo, none⟩) m cap) (some 40) hQN hS (by kernel_rfl) (by kernel_rfl) (fun w => by kernel_rfl) ?_
      refine reg_now 2 (.int .i64 (k : Int)) (some 41) hQN hS (by kernel_rfl) (by kernel_rfl) (fun w => by kernel_rfl) ?_
      refine reg_now 3 (.pointer (some ⟨qb, qo + 67 * k, none⟩)) (some 42) hQN hS (by kernel_rfl) (by kernel_rfl) (fun w' => exec_indexAt 22 (.tmp 40) (.tmp 41) (by kernel_rfl) _ _ _ (by kernel_rfl) (by kernel_rfl) (run_at_call qb qo m cap k hlt w')) ?_
      refine reg_now 4 (.pointer (some ⟨qb, qo + 67 * k + 1, none⟩)) (some 43) hQN hS (by kernel_rfl) (by kernel_rfl) (fun w => by kernel_rfl) ?_
      refine reg_nowIf 5 (.int .i64 c.n) (some 44) hQN hS (by kernel_rfl) (by kernel_rfl) (fun w' hw => exec_load_cell 3 (.tmp 43) (by kernel_rfl) qb (qo + 67 * k + 1) (by kernel_rfl) _ hw.n _ Try.underlying3 rfl) ?_
      refine reg_now 6 (.int .i64 (bits BinOp.and IntKind.i64 c.n 7)) (some 45) hQN hS (by kernel_rfl) (by kernel_rfl) (fun w => by kernel_rfl) ?_
      refine reg_now 7 (.slice (some ⟨qb, qo, none⟩) m cap) (some 46) hQN hS (by kernel_rfl) (by kernel_rfl) (fun w => by kernel_rfl) ?_
      refine reg_now 8 (.int .i64 (k : Int)) (some 47) hQN hS (by kernel_rfl) (by kernel_rfl) (fun w => by kernel_rfl) ?_
      refine reg_now 9 (.pointer (some ⟨qb, qo + 67 * k, none⟩)) (some 48) hQN hS (by kernel_rfl) (by kernel_rfl) (fun w' => exec_indexAt 22 (.tmp 46) (.tmp 47) (by kernel_rfl) _ _ _ (by kernel_rfl) (by kernel_rfl) (run_at_call qb qo m cap k hlt w')) ?_
      refine reg_now 10 (.pointer (some ⟨qb, qo + 67 * k + 2, none⟩)) (some 49) hQN hS (by kernel_rfl) (by kernel_rfl) (fun w => by kernel_rfl) ?_
      refine reg_nowIf 11 (.agg (ints .u8 c.block).toArray) (some 50) hQN hS (by kernel_rfl) (by kernel_rfl) (fun w' hw => exec_load_mid 33 (.tmp 49) (by kernel_rfl) qb (qo + 67 * k + 2) (by kernel_rfl) (ints .u8 c.block) _ hw.block Try.underlying33 rfl IBC.out) ?_
      rw [sec_int c]
      by_cases hgo : n < 0 ∨ (k : Int) < n
      · obtain ⟨g1, g2, g3⟩ := lim_go hgo
        have hll : leftK n k ≤ 9223372036854775807 := by unfold leftK; split <;> omega
        refine reg_call 12 12 #[.pointer (some ⟨d, 0, none⟩), .int .i64 (sec c : Int), .agg (ints .u8 c.block).toArray] (some 51) _ (by kernel_rfl) (by kernel_rfl) (by kernel_rfl) (write_ok d 8 (sec c) F seen dur pend (leftK n k) c.block w5.drew (L5.out.dk.below (Below.refl _ _).drew) (sec_lt c) HCL.out g2 hll (by rw [HPL.out]; omega)) ?_
        rintro e W6 ⟨rfl, F6, hd6, hs6⟩
        have hS6 := hS.step hs6 (by exact hqb5) HQF.out
        refine ⟨_, rfl, hS6, ?_⟩
        refine reg_now 13 (.int .i64 0) (some 10) hQN hS6 (by kernel_rfl) (by kernel_rfl) (fun w => by kernel_rfl) ?_
        refine reg_done (by kernel_rfl) (hN _ _ ?_)
        rw [g3] at hd6
        have L6 : Hid (Lv F6 d 8 (putB seen (sec c) c.block) dur (pend ++ [(sec c, c.block)]) (leftK n (k + 1)) w W6) := (L5.out.below (Below.refl _ _).drew).step hd6 hs6
        have HPL6 : Hid ((pend ++ [(sec c, c.block)]).length = dnK n (k + 1)) := by unfold Hid; rw [List.length_append, HPL.out, g1]; rfl
        have HD1 : Hid (dnK n (k + 1) = dnK n k + 1) := g1
        have HCW6 := Lib.hid hS6
        have hq6 : qb < W6.heap.size := Nat.lt_of_lt_of_le hqb5 (by have := hs6.size; exact this)
        clear hQN hN hS hS6 hd6 hs6 L5 HCW g1 g2 g3 I5 hgo hll
        generalize hact : Act.put _ (some 10) (.int .i64 0) = act
        simp only [Act.put, List.setIfInBounds_toArray, List.set_cons_succ, List.set_cons_zero] at hact
        subst hact
        have HRD := Lib.hid (read_yes d 8 (sec c) F6 (putB seen (sec c) c.block) dur (pend ++ [(sec c, c.block)]) (leftK n (k + 1)) W6 L6.out.dk (sec_lt c))
        have HGB : Hid (getB (putB seen (sec c) c.block) (sec c) = c.block) := getB_putB HSL.out (sec_lt c) HCL.out
        rw [HGB.out] at HRD
        go_upto_region 17 with (fail)
        refine lin_begin (opsOf Try.f6 17) (by kernel_rfl) ?_
        refine lin_now 0 (.pointer (some ⟨d, 0, none⟩)) (some 57) (by kernel_rfl) (by kernel_rfl) (by kernel_rfl) ?_
        refine lin_now 1 (.slice (some ⟨qb, qo, none⟩) m cap) (some 58) (by kernel_rfl) (by kernel_rfl) (by kernel_rfl) ?_
        refine lin_now 2 (.int .i64 (k : Int)) (some 59) (by kernel_rfl) (by kernel_rfl) (by kernel_rfl) ?_
        refine lin_now 3 (.pointer (some ⟨qb, qo + 67 * k, none⟩)) (some 60) (by kernel_rfl) (by kernel_rfl) (exec_indexAt 22 (.tmp 58) (.tmp 59) (by kernel_rfl) _ _ _ (by kernel_rfl) (by kernel_rfl) (run_at_call qb qo m cap k hlt _)) ?_
        refine lin_now 4 (.pointer (some ⟨qb, qo + 67 * k + 1, none⟩)) (some 61) (by kernel_rfl) (by kernel_rfl) (by kernel_rfl) ?_
        refine lin_now 5 (.int .i64 c.n) (some 62) (by kernel_rfl) (by kernel_rfl) (exec_load_cell 3 (.tmp 61) (by kernel_rfl) qb (qo + 67 * k + 1) (by kernel_rfl) _ HCW6.out.n _ Try.underlying3 rfl) ?_
        refine lin_now 6 (.int .i64 (bits BinOp.and IntKind.i64 c.n 7)) (some 63) (by kernel_rfl) (by kernel_rfl) (by kernel_rfl) ?_
        rw [sec_int c]
        refine lin_call 7 22 #[.pointer (some ⟨d, 0, none⟩), .int .i64 (sec c : Int)] (some 64) _ (by kernel_rfl) (by kernel_rfl) (by kernel_rfl) HRD.out ?_
        rintro e W7 ⟨rfl, hb7⟩
        refine ⟨_, rfl, ?_⟩
        have L7 := Lib.hid (L6.out.below hb7)
        have HCW7 : Hid (Cw qb (qo + 67 * k) c W7) := HCW6.out.step (Step.of_below (F := []) hb7 (Nat.le_refl _)) hq6 (by simp)
        have hq7 : qb < W7.heap.size := Nat.lt_of_lt_of_le hq6 hb7.size
        clear hb7 L6 HCW6 HRD
        refine lin_now 8 (.tuple #[.agg (ints .u8 c.block).toArray, .int .i64 0]) (some 56) (by kernel_rfl) (by kernel_rfl) (by kernel_rfl) ?_
        refine lin_now 9 (.agg (ints .u8 c.block).toArray) (some 65) (by kernel_rfl) (by kernel_rfl) (by kernel_rfl) ?_
        refine lin_now 10 (.int .i64 0) (some 66) (by kernel_rfl) (by kernel_rfl) (by kernel_rfl) ?_
        refine lin_value 11 (.pointer (some ⟨W7.heap.size, 0, none⟩)) (some 11) (W7.alloc (.cells (ints .u8 zB).toArray 33)) (by kernel_rfl) (by kernel_rfl) (exec_alloc 33 (by kernel_rfl) (.agg (ints .u8 zB).toArray) zeroBlk) ?_
        have BX := boxed W7 33 (ints .u8 zB) (ints .u8 c.block) (by rw [ints_length, ints_length, HCL.out, zB_length])
        have TH : World.there (W7.alloc (.cells (ints .u8 zB).toArray 33)) W7.heap.size 0 (ints .u8 c.block).length := (Blk.new W7 33 (ints .u8 zB)).there 0 _ (by rw [ints_length, ints_length, HCL.out, zB_length]; omega)
        refine lin_store 12 ((W7.alloc (.cells (ints .u8 zB).toArray 33)).setCells W7.heap.size 0 (ints .u8 c.block)) (by kernel_rfl) (by kernel_rfl) (exec_store_mid 33 (.tmp 11) (.tmp 65) (by kernel_rfl) W7.heap.size 0 (ints .u8 c.block) (by kernel_rfl) (by kernel_rfl) TH IBC.out (ints_oneCell _ _)) ?_
        refine lin_now 13 (.int .i64 0) (some 12) (by kernel_rfl) (by kernel_rfl) (by kernel_rfl) ?_
        refine lin_done 14 (by kernel_rfl) ?_
        have L8 := Lib.hid (L7.out.below BX.2.1)
        have X8 := Lib.hid BX.1
        have HCW8 : Hid (Cw qb (qo + 67 * k) c _) := HCW7.out.step (Step.of_below (F := []) BX.2.1 (Nat.le_refl _)) hq7 (by simp)
        clear BX TH L7 HCW7
        generalize (W7.alloc (.cells (ints .u8 zB).toArray 33)).setCells W7.heap.size 0 (ints .u8 c.block) = W8 at *
        generalize W7.heap.size = X at *
        generalize hact : Act.put _ (some 12) (.int .i64 0) = act
        simp only [Act.put, List.setIfInBounds_toArray, List.set_cons_succ, List.set_cons_zero] at hact
        subst hact
        go_upto_region 18 with (fail)
        refine region_begin (opsOf Try.f6 18) (fun w' => Cw qb (qo + 67 * k) c w' ∧ Blk w' X 33 (ints .u8 c.block)) (by kernel_rfl) (by kernel_rfl) 7 (by kernel_rfl) ?_
        intro Q' hQN hN
        have hS : Cw qb (qo + 67 * k) c W8.drew ∧ Blk W8.drew X 33 (ints .u8 c.block) := ⟨⟨HCW8.out.n, HCW8.out.block⟩, X8.out⟩
        refine reg_nowIf 0 (.agg (ints .u8 c.block).toArray) (some 67) hQN hS (by kernel_rfl) (by kernel_rfl) (fun w' hw => exec_load_mid 33 (.tmp 11) (by kernel_rfl) X 0 (by kernel_rfl) (ints .u8 c.block) _ hw.2.whole Try.underlying33 rfl IBC.out) ?_
        refine reg_now 1 (.slice (some ⟨qb, qo, none⟩) m cap) (some 68) hQN hS (by kernel_rfl) (by kernel_rfl) (fun w => by kernel_rfl) ?_
        refine reg_now 2 (.int .i64 (k : Int)) (some 69) hQN hS (by kernel_rfl) (by kernel_rfl) (fun w => by kernel_rfl) ?_
        refine reg_now 3 (.pointer (some ⟨qb, qo + 67 * k, none⟩)) (some 70) hQN hS (by kernel_rfl) (by kernel_rfl) (fun w' => exec_indexAt 22 (.tmp 68) (.tmp 69) (by kernel_rfl) _ _ _ (by kernel_rfl) (by kernel_rfl) (run_at_call qb qo m cap k hlt w')) ?_
        refine reg_now 4 (.pointer (some ⟨qb, qo + 67 * k + 2, none⟩)) (some 71) hQN hS (by kernel_rfl) (by kernel_rfl) (fun w => by kernel_rfl) ?_
        refine reg_nowIf 5 (.agg (ints .u8 c.block).toArray) (some 72) hQN hS (by kernel_rfl) (by kernel_rfl) (fun w' hw => exec_load_mid 33 (.tmp 71) (by kernel_rfl) qb (qo + 67 * k + 2) (by kernel_rfl) (ints .u8 c.block) _ hw.1.block Try.underlying33 rfl IBC.out) ?_
        refine reg_now 6 (.bool (!decide (c.block = c.block))) (some 73) hQN hS (by kernel_rfl) (by kernel_rfl) (fun w' => exec_neq w' (.tmp 67) (.tmp 72) 33 (by kernel_rfl) Try.underlying33 Try.underlying5 sizeByte' guardBlock c.block c.block HCL.out HCL.out (by kernel_rfl) (by kernel_rfl)) ?_
        rw [show (!decide (c.block = c.block)) = false by rw [decide_eq_true rfl]; rfl]
        refine reg_done (by kernel_rfl) (hN _ _ ?_)
        have L9 := Lib.hid (L8.out.below (Below.refl _ _).drew)
        clear hQN hN hS L8 X8 HCW8
        generalize W8.drew = W9 at *
        generalize hact : Act.put _ (some 73) (.bool false) = act
        simp only [Act.put, List.setIfInBounds_toArray, List.set_cons_succ, List.set_cons_zero] at hact
        subst hact
        go_wp2
        exact ⟨⟨k + 1, F6, _, _, _, by omega, by go_num, by rw [HD1.out]; go_num, HPL6.out, L9.out⟩, by simp [intOf]; omega⟩
      · obtain ⟨g1, g2, g3⟩ := lim_no (n := n) (k := k) (by omega)
        have L5' := L5.out
        rw [g2] at L5'
        refine reg_call 12 12 #[.pointer (some ⟨d, 0, none⟩), .int .i64 (sec c : Int), .agg (ints .u8 c.block).toArray] (some 51) _ (by kernel_rfl) (by kernel_rfl) (by kernel_rfl) (write_full d 8 (sec c) F seen dur pend c.block w5.drew (L5'.dk.below (Below.refl _ _).drew) (sec_lt c)) ?_
        rintro e W6 ⟨rfl, F6, hd6, hs6⟩
        have hS6 := hS.step hs6 (by exact hqb5) HQF.out
        refine ⟨_, rfl, hS6, ?_⟩
        refine reg_now 13 (.int .i64 15) (some 10) hQN hS6 (by kernel_rfl) (by kernel_rfl) (fun w => by kernel_rfl) ?_
        refine reg_done (by kernel_rfl) (hN _ _ ?_)
        have L6 : Hid (Lv F6 d 8 seen dur pend 0 w W6) := (L5'.below (Below.refl _ _).drew).step hd6 hs6
        have I6 : Hid (BytesOff F6 W6 (.slice ia 512 ic) seen) := (I5.out.step (Step.of_below (Below.refl _ _).drew (Nat.le_refl _))).step hs6
        have HPL6 : Hid (pend.length = dnK n (k + 1)) := by unfold Hid; rw [HPL.out, g1]
        have HD1 : Hid (dnK n (k + 1) = dnK n k) := g1
        have HL1 : Hid (leftK n (k + 1) = 0) := g3
        clear hQN hN hS hS6 hd6 hs6 L5 L5' HCW g1 g2 g3 I5 hgo
        generalize hact : Act.put _ (some 10) (.int .i64 15) = act
        simp only [Act.put, List.setIfInBounds_toArray, List.set_cons_succ, List.set_cons_zero] at hact
        subst hact
        go_wp2_with fail
        refine (image_walk d 8 F6 seen dur pend 0 _ L6.out.dk).mono ?_
        rintro e W7 ⟨iv7, rfl, hiv, hb7⟩
        have L7 := Lib.hid (L6.out.below hb7)
        have I7 := Lib.hid (I6.out.step (Step.of_below hb7 (Nat.le_refl _)))
        have J7 := Lib.hid (owns_bytes hiv)
        clear hiv hb7 L6 I6
        go_wp2_with fail
        refine (sameb_walk _ _ seen seen _ J7.out I7.out.in (by rw [HSL.out]; decide)).mono ?_
        rintro e W8 ⟨rfl, n8, rfl⟩
        rw [show decide (seen = seen) = true from decide_eq_true rfl]
        have L8 := Lib.hid (L7.out.below (below_drewN W7 n8))
        clear L7 I7 J7
        generalize W7.drewN n8 = W8 at *
        go_wp2
        exact ⟨⟨k + 1, F6, _, _, _, by omega, by go_num, by rw [HD1.out], HPL6.out, by rw [HL1.out]; exact L8.out⟩, by simp [intOf]; omega⟩
    · have q1 : ¬ (k : Int) < (m : Int) := by omega
      have e : k = m := by omega
      subst e
      by_cases hneg : n < 0
      · have q2 : ¬ (0 ≤ n) := by omega
        have HDN : Hid (dnK n k = k) := by unfold Hid dnK; rw [if_pos hneg]
        rw [HDN.out]
        go_wp2_with fail
        refine (pending_walk d 8 F seen dur pend (leftK n k) _ LK.out.dk).mono ?_
        rintro e w6 ⟨rfl, rfl⟩
        rw [HPL.out, HDN.out]
        go_wp2
        go_ret
        exact ⟨rfl, LK.out.st.below⟩
      · have q2 : 0 ≤ n := by omega
        by_cases hnk : n ≤ (k : Int)
        · have HDN : Hid ((dnK n k : Int) = n) := by unfold Hid dnK; rw [if_neg hneg]; omega
          rw [HDN.out]
          go_wp2_with fail
          refine (pending_walk d 8 F seen dur pend (leftK n k) _ LK.out.dk).mono ?_
          rintro e w6 ⟨rfl, rfl⟩
          rw [HPL.out, HDN.out]
          go_wp2
          go_ret
          exact ⟨rfl, LK.out.st.below⟩
        · have HDN : Hid (dnK n k = k) := by unfold Hid dnK; rw [if_neg hneg]; omega
          have q3 : (k : Int) < n := by omega
          rw [HDN.out]
          go_wp2_with fail
          refine (pending_walk d 8 F seen dur pend (leftK n k) _ LK.out.dk).mono ?_
          rintro e w6 ⟨rfl, rfl⟩
          rw [HPL.out, HDN.out]
          go_wp2
          go_ret
          exact ⟨rfl, LK.out.st.below⟩
end Go.Proofs.Ytmaobmeaanafcab
