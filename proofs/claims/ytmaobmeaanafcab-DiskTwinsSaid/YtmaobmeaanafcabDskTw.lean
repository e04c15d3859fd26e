/- DiskTwins answers true. -/
import Derived.Test.YtmaobmeaanafcabDskCo
namespace Go.Proofs.Ytmaobmeaanafcab
open Go Go.RowKit
set_option maxRecDepth 100000

set_option maxHeartbeats 4000000 in
theorem twins_main (v u : Value) (cs : List Cl) (picks b : List Int) (w : World) (hv : CallsIn w v cs) (hu : BytesIn w u picks) (hpb : isBytes picks) (hb : b.length = 64) :
    Calls Try.prog 5 #[v, u, .agg (ints .u8 b).toArray] w fun e w' => e = .returned (.bool true) ∧ Below w.heap.size w w' := by
  obtain ⟨a, cap, rfl, hml, -⟩ := id hv
  obtain ⟨ua, uc, rfl, -⟩ := id hu
  have HV := Lib.hid hv
  have HU := Lib.hid hu
  have HPB := Lib.hid hpb
  have HB := Lib.hid hb
  obtain ⟨m, hm⟩ : ∃ m, Hid (cs.length = m) := ⟨_, rfl⟩
  obtain ⟨pn, hpn⟩ : ∃ m, Hid (picks.length = m) := ⟨_, rfl⟩
  rw [hm.out] at HV hml ⊢
  rw [hpn.out] at HU ⊢
  have IB : Hid ((Try.prog.info? 33).map (·.size) = some (ints .u8 b).length) := infoBlk b hb
  have IB' : Hid ((Try.prog.info? 33).map (·.size) = some (ints .u8 b).toArray.size) := infoBlk b hb
  have BE0 : Hid (Below w.heap.size w (w.alloc (.cells (ints .u8 b).toArray 33))) := (Below.refl _ _).alloc (Nat.le_refl _) _
  have Q0 : Hid (Blk (w.alloc (.cells (ints .u8 b).toArray 33)) w.heap.size 33 (ints .u8 b)) := Blk.new _ _ _
  clear hv hu hpb hb
  go_enter Try.func5, Try.ntmps5
  go_wp2_with fail
  refine (dalive_walk _).mono ?_
  rintro e w1 ⟨rfl, hb1⟩
  have BE1 := Lib.hid (BE0.out.trans (hb1.mono BE0.out.size))
  have Q1 := Lib.hid (Q0.out.below hb1 Q0.out.lt)
  clear hb1 BE0 Q0
  go_wp2_with fail
  refine (great_walk _ cs _ (HV.out.below BE1.out)).mono ?_
  rintro e w2 ⟨gb, rfl, hgb, rfl⟩
  have HG := Lib.hid hgb
  clear hgb
  obtain ⟨q, hq⟩ : ∃ q, Hid (q = w.heap.size) := ⟨_, rfl⟩
  rw [← hq.out] at Q1 ⊢
  cases gb with
  | true =>
    go_wp2
    go_ret
    exact ⟨rfl, BE1.out⟩
  | false =>
  have hm60 : m ≤ 60 := by have := (HG.out rfl).1; rw [hm.out] at this; exact this
  by_cases hp5 : 500 < pn
  · have q5 : (500 : Int) < (pn : Int) := by omega
    go_wp2
    go_ret
    exact ⟨rfl, BE1.out⟩
  · have q5 : ¬ ((500 : Int) < (pn : Int)) := by omega
    go_wp2_with fail
    refine (new_yes 8 (by decide) (by decide) _).mono ?_
    rintro e w3 ⟨d, F3, rfl, hd3, hs3⟩
    have L3 : Hid (Lv F3 d 8 (zeros 512) (zeros 512) [] (-1) w w3) := ⟨hd3, (Step.of_below BE1.out (Nat.le_refl _)).trans hs3⟩
    have Q3 : Hid (Off F3 w3 q 33 (ints .u8 b)) := ⟨hs3.blk Q1.out (by simp), fun hc => by have := hs3.new q hc; have := Q1.out.lt; omega⟩
    clear hd3 hs3 BE1 Q1
    go_wp2
    go_loopw [9] (fun i wr => ∃ (k : Nat) (F : List Nat) (seen dur : List Int), k ≤ m ∧ i = .int .i64 (k : Int) ∧ Lv F d 8 seen dur (wrs cs k) (-1) w wr ∧ Off F wr q 33 (ints .u8 b)) (fun i _ => m - (intOf i).toNat)
    case atStart => exact ⟨0, F3, _, _, by omega, rfl, L3.out, Q3.out⟩
    case round =>
    obtain ⟨k, F, seen, dur, hk, rfl, hlv, hoq⟩ := hrel
    have LK := Lib.hid hlv
    have QK := Lib.hid hoq
    clear hlv hoq L3 Q3
    by_cases hlt : k < m
    · have q1 : (k : Int) < (m : Int) := by omega
      obtain ⟨a', cap', he, -, hq'⟩ := HV.out.below LK.out.st.below
      rw [hm.out] at he hq'
      obtain ⟨e1, -, e3⟩ := Value.slice.inj he
      obtain ⟨qb, qo, hae, hqb, hcl⟩ := hq' (by omega)
      obtain ⟨c, hck⟩ : ∃ c, cs[k]? = some c := ⟨_, List.getElem?_eq_getElem (by rw [hm.out]; exact hlt)⟩
      have hc := hcl k c hck
      have HCW : Hid (Cw qb (qo + 67 * k) c wr) := ⟨hc.n, hc.block⟩
      have HCL := Lib.hid hc.len
      have IBC : Hid ((Try.prog.info? 33).map (·.size) = some (ints .u8 c.block).length) := infoBlk c.block hc.len
      have HQF : Hid (qb ∉ F) := fun hcon => by
        obtain ⟨a2, cap2, he2, -, hq2⟩ := HV.out
        rw [hm.out] at he2 hq2
        obtain ⟨e4, -, -⟩ := Value.slice.inj he2
        obtain ⟨qb2, qo2, hae2, hqb2, -⟩ := hq2 (by omega)
        have : qb = qb2 := by rw [← e4, e1, hae] at hae2; simpa using (congrArg (fun o => (o.map Addr.block)) hae2)
        have := LK.out.le qb hcon
        omega
      have HNX := Lib.hid (wrs_next cs k c hck)
      have HWL : Hid ((wrs cs k).length = k) := wrs_length cs k (by rw [hm.out]; exact hk)
      rw [hae] at e1
      subst e1
      clear he hq' hcl hc e3
      go_upto_region 11 with (fail)
      refine region_begin (opsOf Try.f5 11) (Cw qb (qo + 67 * k) c) (by kernel_rfl) (by kernel_rfl) 13 (by kernel_rfl) ?_
      intro Q' hQN hN
      have hS : Cw qb (qo + 67 * k) c wr.drew := ⟨HCW.out.n, HCW.out.block⟩
      refine reg_now 0 (.pointer (some ⟨d, 0, none⟩)) (some 37) hQN hS (by kernel_rfl) (by kernel_rfl) (fun w => by kernel_rfl) ?_
      refine reg_now 1 (.slice (some ⟨qb, qo, none⟩) m cap) (some 38) hQN hS (by kernel_rfl) (by kernel_rfl) (fun w => by kernel_rfl) ?_
      refine reg_now 2 (.int .i64 (k : Int)) (some 39) hQN hS (by kernel_rfl) (by kernel_rfl) (fun w => by kernel_rfl) ?_
      refine reg_now 3 (.pointer (some ⟨qb, qo + 67 * k, none⟩)) (some 40) hQN hS (by kernel_rfl) (by kernel_rfl) (fun w' => exec_indexAt 22 (.tmp 38) (.tmp 39) (by kernel_rfl) _ _ _ (by kernel_rfl) (by kernel_rfl) (run_at_call qb qo m cap k hlt w')) ?_
      refine reg_now 4 (.pointer (some ⟨qb, qo + 67 * k + 1, none⟩)) (some 41) hQN hS (by kernel_rfl) (by kernel_rfl) (fun w => by kernel_rfl) ?_
      refine reg_nowIf 5 (.int .i64 c.n) (some 42) hQN hS (by kernel_rfl) (by kernel_rfl) (fun w' hw => exec_load_cell 3 (.tmp 41) (by kernel_rfl) qb (qo + 67 * k + 1) (by kernel_rfl) _ hw.n _ Try.underlying3 rfl) ?_
      refine reg_now 6 (.int .i64 (bits BinOp.and IntKind.i64 c.n 7)) (some 43) hQN hS (by kernel_rfl) (by kernel_rfl) (fun w => by kernel_rfl) ?_
      refine reg_now 7 (.slice (some ⟨qb, qo, none⟩) m cap) (some 44) hQN hS (by kernel_rfl) (by kernel_rfl) (fun w => by kernel_rfl) ?_
      refine reg_now 8 (.int .i64 (k : Int)) (some 45) hQN hS (by kernel_rfl) (by kernel_rfl) (fun w => by kernel_rfl) ?_
      refine reg_now 9 (.pointer (some ⟨qb, qo + 67 * k, none⟩)) (some 46) hQN hS (by kernel_rfl) (by kernel_rfl) (fun w' => exec_indexAt 22 (.tmp 44) (.tmp 45) (by kernel_rfl) _ _ _ (by kernel_rfl) (by kernel_rfl) (run_at_call qb qo m cap k hlt w')) ?_
      refine reg_now 10 (.pointer (some ⟨qb, qo + 67 * k + 2, none⟩)) (some 47) hQN hS (by kernel_rfl) (by kernel_rfl) (fun w => by kernel_rfl) ?_
      refine reg_nowIf 11 (.agg (ints .u8 c.block).toArray) (some 48) hQN hS (by kernel_rfl) (by kernel_rfl) (fun w' hw => exec_load_mid 33 (.tmp 47) (by kernel_rfl) qb (qo + 67 * k + 2) (by kernel_rfl) (ints .u8 c.block) _ hw.block Try.underlying33 rfl IBC.out) ?_
      rw [sec_int c]
      refine reg_call 12 12 #[.pointer (some ⟨d, 0, none⟩), .int .i64 (sec c : Int), .agg (ints .u8 c.block).toArray] (some 49) _ (by kernel_rfl) (by kernel_rfl) (by kernel_rfl) (write_ok d 8 (sec c) F seen dur (wrs cs k) (-1) c.block wr.drew (LK.out.dk.below (Below.refl _ _).drew) (sec_lt c) HCL.out (by decide) (by decide) (by rw [HWL.out]; omega)) ?_
      rintro e W4 ⟨rfl, F4, hd4, hs4⟩
      refine ⟨_, rfl, hS.step hs4 (by exact hqb) HQF.out, ?_⟩
      refine reg_done (by kernel_rfl) (hN _ _ ?_)
      have L4 : Hid (Lv F4 d 8 (putB seen (sec c) c.block) dur (wrs cs (k + 1)) (-1) w W4) := by
        rw [if_neg (by decide)] at hd4
        unfold Hid
        rw [HNX.out]
        exact (LK.out.below (Below.refl _ _).drew).step hd4 hs4
      have Q4 := Lib.hid ((QK.out.below (Below.refl _ _).drew).step hs4)
      clear hQN hN hS hd4 hs4 LK QK HCW
      generalize hact : Act.put _ (some 49) _ = act
      simp only [Act.put, List.setIfInBounds_toArray, List.set_cons_succ, List.set_cons_zero] at hact
      subst hact
      go_wp2
      exact ⟨⟨k + 1, F4, _, _, by omega, by go_num, L4.out, Q4.out⟩, by simp [intOf]; omega⟩
    · have q1 : ¬ (k : Int) < (m : Int) := by omega
      go_wp2_with fail
      refine (image_walk d 8 F seen dur (wrs cs k) (-1) _ LK.out.dk).mono ?_
      rintro e w5 ⟨iv, rfl, hiv, hb5⟩
      have L5 := Lib.hid (LK.out.below hb5)
      have Q5 := Lib.hid (QK.out.below hb5)
      have I5 := Lib.hid (owns_bytes hiv)
      have N5 := Lib.hid (owns_nilok hiv)
      clear hiv hb5 LK QK
      obtain ⟨ia, ic, hie, -⟩ := id I5.out
      have HSL : Hid (seen.length = 512) := by obtain ⟨_, _, _, _, _, _, _, _, hx⟩ := L5.out.dk; exact hx.ls
      rw [HSL.out] at hie
      subst hie
      go_wp2_with fail
      refine (twin_walk d 8 F seen dur (wrs cs k) (-1) _ L5.out.dk).mono ?_
      rintro e w6 ⟨t, G, rfl, hdt, hst⟩
      have L6 := Lib.hid (L5.out.below hst.below)
      have T6 : Hid (Lv G t 8 seen seen [] (-1) w5 w6) := ⟨hdt, hst⟩
      have I6 : Hid (BytesOff G w6 (.slice ia 512 ic) seen) := I5.out.off hst.below hst.new
      have FL : Hid (∀ k ∈ F, k ∉ G) := fun k hk hc => by have := L5.out.dk.lt k hk; have := hst.new k hc; omega
      have Q6 : Hid (Off G w6 q 33 (ints .u8 b)) := ⟨(Q5.out.below hst.below).blk, fun hc => by have := hst.new q hc; have := Q5.out.blk.lt; omega⟩
      have U6 : Hid (BytesOff G w6 (.slice ua pn uc) picks) := HU.out.off L6.out.st.below (fun k hk => by have := hst.new k hk; have := L5.out.st.size; omega)
      have GW : Hid (∀ k ∈ G, w.heap.size ≤ k) := fun k hk => by have := hst.new k hk; have := L5.out.st.size; omega
      clear hdt hst L5 Q5 I5
      go_wp2_with fail
      refine (pending_walk t 8 G seen seen [] (-1) _ T6.out.dk).mono ?_
      rintro e w7 ⟨rfl, rfl⟩
      rw [show (([] : List Wr).length : Int) = 0 from rfl]
      go_wp2_with fail
      refine (image_walk t 8 G seen seen [] (-1) _ T6.out.dk).mono ?_
      rintro e w7 ⟨iv7, rfl, hiv, hb7⟩
      have L7 := Lib.hid (L6.out.below hb7)
      have T7 := Lib.hid (T6.out.below hb7)
      have Q7 := Lib.hid (Q6.out.below hb7)
      have I7 := Lib.hid (I6.out.step (Step.of_below hb7 (Nat.le_refl _)))
      have U7 := Lib.hid (U6.out.step (Step.of_below hb7 (Nat.le_refl _)))
      have J7 := Lib.hid (owns_bytes hiv)
      clear hiv hb7 L6 T6 Q6 I6 U6
      go_wp2_with fail
      refine (sameb_walk _ _ seen seen _ J7.out I7.out.in (by rw [HSL.out]; decide)).mono ?_
      rintro e w8 ⟨rfl, n8, rfl⟩
      rw [show decide (seen = seen) = true from decide_eq_true rfl]
      have hb8 := below_drewN w7 n8
      have L8 := Lib.hid (L7.out.below hb8)
      have T8 := Lib.hid (T7.out.below hb8)
      have Q8 := Lib.hid (Q7.out.below hb8)
      have I8 := Lib.hid (I7.out.step (Step.of_below hb8 (Nat.le_refl _)))
      have U8 := Lib.hid (U7.out.step (Step.of_below hb8 (Nat.le_refl _)))
      clear hb8 L7 T7 Q7 I7 U7 J7
      generalize w7.drewN n8 = w8 at *
      have HCR := Lib.hid (crash_walk t 8 G seen seen [] (-1) (.slice ua pn uc) picks _ T8.out.dk (by simp) U8.out HPB.out (by rw [hpn.out]; omega))
      go_wp2_with fail
      refine HCR.out.mono ?_
      rintro e w9 ⟨rfl, G9, hd9, hs9⟩
      have L9 : Hid (Dk w9 F d 8 seen dur (wrs cs k) (-1)) := L8.out.dk.step hs9 FL.out
      have T9 : Hid (Lv G9 t 8 seen seen [] (-1) w5 w9) := T8.out.step hd9 hs9
      have Q9 := Lib.hid (Q8.out.step hs9)
      have I9 := Lib.hid (I8.out.step hs9)
      have FL9 : Hid (∀ k ∈ F, k ∉ G9) := fun k hk hc => hs9.off (L8.out.dk.lt k hk) (FL.out k hk) hc
      have BE9 : Hid (Below w.heap.size w w9) := hs9.belowF L8.out.st.below GW.out L8.out.st.size
      have GW9 : Hid (∀ k ∈ G9, w.heap.size ≤ k) := fun k hk => by
        rcases hs9.fresh k hk with h | h
        · exact GW.out k h
        · have := L8.out.st.size; omega
      clear hd9 hs9 L8 T8 Q8 I8 U8 FL GW HCR
      go_wp2_with fail
      refine (image_walk t 8 G9 seen seen [] (-1) _ T9.out.dk).mono ?_
      rintro e w10 ⟨iv10, rfl, hiv, hb10⟩
      have L10 := Lib.hid (L9.out.below hb10)
      have T10 := Lib.hid (T9.out.below hb10)
      have Q10 := Lib.hid (Q9.out.below hb10)
      have I10 := Lib.hid (I9.out.step (Step.of_below hb10 (Nat.le_refl _)))
      have BE10 := Lib.hid (BE9.out.trans (hb10.mono BE9.out.size))
      have J10 := Lib.hid (owns_bytes hiv)
      clear hiv hb10 L9 T9 Q9 I9 BE9
      go_wp2_with fail
      refine (sameb_walk _ _ seen seen _ J10.out I10.out.in (by rw [HSL.out]; decide)).mono ?_
      rintro e w11 ⟨rfl, n11, rfl⟩
      rw [show decide (seen = seen) = true from decide_eq_true rfl]
      have hb11 := below_drewN w10 n11
      have L11 := Lib.hid (L10.out.below hb11)
      have T11 := Lib.hid (T10.out.below hb11)
      have Q11 := Lib.hid (Q10.out.below hb11)
      have I11 := Lib.hid (I10.out.step (Step.of_below hb11 (Nat.le_refl _)))
      have BE11 := Lib.hid (BE10.out.trans (hb11.mono BE10.out.size))
      clear hb11 L10 T10 Q10 I10 J10 BE10
      generalize w10.drewN n11 = w11 at *
      go_wp2_with (refine wpList_load_row rfl 33 _ rfl q rfl 33 (ints .u8 b).toArray (0, 0) _ Q11.out.blk Try.underlying33 rfl IB'.out ?_)
      refine (write_ok t 8 3 G9 seen seen [] (-1) b _ T11.out.dk (by decide) HB.out (by decide) (by decide) (by simp)).mono ?_
      rintro e w12 ⟨rfl, G12, hd12, hs12⟩
      have L12 : Hid (Dk w12 F d 8 seen dur (wrs cs k) (-1)) := L11.out.step hs12 FL9.out
      have I12 := Lib.hid (I11.out.step hs12)
      have BE12 : Hid (Below w.heap.size w w12) := hs12.belowF BE11.out GW9.out BE11.out.size
      clear hd12 hs12 L11 T11 Q11 I11 BE11 FL9 GW9
      go_wp2_with fail
      refine (image_walk d 8 F seen dur (wrs cs k) (-1) _ L12.out).mono ?_
      rintro e w13 ⟨iv13, rfl, hiv, hb13⟩
      have I13 := Lib.hid (I12.out.step (Step.of_below hb13 (Nat.le_refl _)))
      have BE13 := Lib.hid (BE12.out.trans (hb13.mono BE12.out.size))
      have J13 := Lib.hid (owns_bytes hiv)
      clear hiv hb13 L12 I12 BE12
      go_wp2_with fail
      refine (sameb_walk _ _ seen seen _ J13.out I13.out.in (by rw [HSL.out]; decide)).mono ?_
      rintro e w14 ⟨rfl, n14, rfl⟩
      rw [show decide (seen = seen) = true from decide_eq_true rfl]
      go_wp2
      go_ret
      exact ⟨rfl, below_quiet BE13.out ⟨_, rfl⟩⟩
end Go.Proofs.Ytmaobmeaanafcab
