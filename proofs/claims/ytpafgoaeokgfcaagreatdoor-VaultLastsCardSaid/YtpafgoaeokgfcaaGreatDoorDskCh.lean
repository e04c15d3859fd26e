/- package disk: Crash. -/
import Derived.Test.YtpafgoaeokgfcaaGreatDoorDskCd
namespace Go.Proofs.YtpafgoaeokgfcaaGreatDoor
open Go Go.RowKit
set_option maxRecDepth 100000

structure Csx (d W X : Nat) (cs : List Value) (x : Wr) (b : List Int) (ww : World) : Prop where
  d : Blk ww d 77 cs
  w : Blk ww W 81 (wcells x)
  x : Blk ww X 79 (ints .u8 b)
structure Ksx (d W dB : Nat) (cs : List Value) (x : Wr) (ds : List Value) (ww : World) : Prop where
  d : Blk ww d 77 cs
  w : Blk ww W 81 (wcells x)
  u : Blk ww dB 79 ds
theorem keptK_next (picks : List Int) (k : Nat) (b : Bool) (h : decide (64 ≤ pickL picks k) = b) : keptK picks (k + 1) = keptK picks k + if b then 1 else 0 := by
  rw [keptK]
  cases b with
  | true => rw [if_pos (of_decide_eq_true h), if_pos rfl]
  | false => rw [if_neg (of_decide_eq_false h), if_neg (by decide)]
theorem kept_big (picks : List Int) (k : Nat) : (keptK picks k : Int) ≤ k := by have := keptK_le picks k; omega
/-- The cells of a write lie in a new block of their own. -/
theorem Dkx.boxed {w : World} {d sz sB dB sc dc : Nat} {rs rd : List Value} {pv : Value} {seen dur : List Int} {pend : List Wr} {left : Int} (h : Dkx w d sz sB dB sc dc rs rd pv seen dur pend left) (x : Wr) (hx : x.2.length = 64) :
    Dkx ((w.alloc (.cells zW.toArray 81)).setCells w.heap.size 0 (wcells x)) d sz sB dB sc dc rs rd pv seen dur pend left ∧ Blk ((w.alloc (.cells zW.toArray 81)).setCells w.heap.size 0 (wcells x)) w.heap.size 81 (wcells x) ∧ Below w.heap.size w ((w.alloc (.cells zW.toArray 81)).setCells w.heap.size 0 (wcells x)) ∧ World.there (w.alloc (.cells zW.toArray 81)) w.heap.size 0 (wcells x).length := by
  obtain ⟨h1, h2, h3⟩ := Proofs.YtpafgoaeokgfcaaGreatDoor.boxed w 81 zW (wcells x) (by rw [wcells_length hx, zW_length])
  exact ⟨h.next h2, h1, h2, (Blk.new w 81 zW).there 0 _ (by rw [wcells_length hx, zW_length]; omega)⟩
set_option maxHeartbeats 4000000 in
theorem crash_walk (d sz : Nat) (F : List Nat) (seen dur : List Int) (pend : List Wr) (left : Int) (u : Value) (picks : List Int) (w : World) (h : Dk w F d sz seen dur pend left) (hm : pend.length ≤ 1000000) (hu : BytesOff F w u picks) (hpb : isBytes picks) (hpl : picks.length ≤ 1000000000) :
    Calls Tryz.prog 24 #[.pointer (some ⟨d, 0, none⟩), u] w (DkPost F d sz (seenK seen (crashK dur pend picks pend.length) pend pend.length) (crashK dur pend picks pend.length) [] (-1) (.int .i64 (keptK picks pend.length : Int)) w) := by
  obtain ⟨sB, dB, sc, dc, rs, rd, pv, rfl, hx⟩ := h
  have HX := Lib.hid hx
  have HOK := Lib.hid hx.ok
  have HLU := Lib.hid hx.lu
  have HLS := Lib.hid hx.ls
  have c2 := hx.c2
  obtain ⟨a, c, hpv⟩ := hx.pv'
  obtain ⟨m, hmm⟩ : ∃ m, Hid (pend.length = m) := ⟨_, rfl⟩
  rw [hmm.out] at hm hpv ⊢
  subst hpv
  obtain ⟨ua, uc, hue, -⟩ := id hu
  have HU := Lib.hid hu
  have HPB := Lib.hid hpb
  have HPL := Lib.hid hpl
  obtain ⟨pn, hpn⟩ : ∃ n, Hid (picks.length = n) := ⟨_, rfl⟩
  rw [hpn.out] at hue
  subst hue
  obtain ⟨durF, hdF⟩ : ∃ l, Hid (crashK dur pend picks m = l) := ⟨_, rfl⟩
  rw [hdF.out]
  have HLF : Hid (durF.length = 64 * sz) := by unfold Hid; rw [← hdF.out]; exact crashK_length HLU.out HOK.out HPB.out m (by rw [hmm.out]; exact Nat.le_refl _)
  clear hx hu hpb hpl
  go_enter Tryz.func24, Tryz.ntmps24
  go_wp2
  go_loopw [17, 5] (fun i kv wr => ∃ k : Nat, k ≤ m ∧ i = .int .i64 (k : Int) ∧ kv = .int .i64 (keptK picks k : Int) ∧ Dkx wr d sz sB dB sc dc rs rd (.slice a m c) seen (crashK dur pend picks k) pend left ∧ Step (foot d sB dB (.slice a m c)) w (foot d sB dB (.slice a m c)) wr) (fun i _ _ => m - (intOf i).toNat)
  case atStart => exact ⟨0, by omega, rfl, rfl, HX.out, Step.refl _ _⟩
  case round =>
    obtain ⟨k, hk, rfl, rfl, hx, hst⟩ := hrel
    have HXK := Lib.hid hx
    have HST := Lib.hid hst
    clear hx hst HX c2
    have kb := kept_big picks k
    by_cases hlt : k < m
    · have q1 : (k : Int) < (m : Int) := by omega
      have hkl : Hid (k < pend.length) := by unfold Hid; rw [hmm.out]; exact hlt
      obtain ⟨x, hxe⟩ : ∃ x, Hid (wrAt pend k = x) := ⟨_, rfl⟩
      have HXO : Hid (x.1 < sz ∧ x.2.length = 64) := by unfold Hid; rw [← hxe.out]; exact wrAt_ok HOK.out hkl.out
      obtain ⟨g, hg⟩ : ∃ g, a = some ⟨g, 0, none⟩ := by
        rcases HXK.out.hp.2 with ⟨e, h0⟩ | ⟨g, cap, cur, e, _⟩
        · have := hkl.out; omega
        · obtain ⟨e1, -, -⟩ := Value.slice.inj e
          exact ⟨g, e1⟩
      subst hg
      have HRG : Hid (wr.rangeAt g (0 + 65 * k) (wcells x)) := by
        unfold Hid
        rw [← hxe.out]
        exact own_range HXK.out.hp HOK.out hkl.out
      have IW : Hid ((Tryz.prog.info? 81).map (·.size) = some (wcells x).length) := infoWr x HXO.out.2
      have IB : Hid ((Tryz.prog.info? 79).map (·.size) = some (ints .u8 x.2).length) := infoBlk x.2 HXO.out.2
      obtain ⟨p, hp⟩ : ∃ p, Hid (pickL picks k = p) := ⟨_, rfl⟩
      have HPR : Hid (0 ≤ p ∧ p ≤ 255) := by unfold Hid; rw [← hp.out]; exact pickL_range HPB.out k
      have HKN := Lib.hid (keptK_next picks k)
      rw [hp.out] at HKN
      have HCK : Hid (crashK dur pend picks (k + 1) = putB (crashK dur pend picks k) x.1 (crash1 (getB (crashK dur pend picks k) x.1) x.2 p)) := by unfold Hid; rw [crashK, hxe.out, hp.out]
      generalize crashK dur pend picks k = dk at *
      obtain ⟨bf, hbf⟩ : ∃ b, Hid (getB dk x.1 = b) := ⟨_, rfl⟩
      have HBF : Hid (bf.length = 64) := by unfold Hid; rw [← hbf.out]; exact getB_length HXK.out.lu HXO.out.1
      have IBF : Hid ((Tryz.prog.info? 79).map (·.size) = some (ints .u8 bf).length) := infoBlk bf HBF.out
      rw [hbf.out] at HCK
      have HCW := Lib.hid (fun w => crashed_walk bf x.2 p HBF.out HXO.out.2 HPR.out.1 HPR.out.2 w)
      obtain ⟨cr, hcr⟩ : ∃ c, Hid (crash1 bf x.2 p = c) := ⟨_, rfl⟩
      have HCL : Hid (cr.length = 64) := by unfold Hid; rw [← hcr.out]; exact crash1_length HBF.out HXO.out.2 p HPR.out.1
      have ICR : Hid ((Tryz.prog.info? 79).map (·.size) = some (ints .u8 cr).length) := infoBlk cr HCL.out
      obtain ⟨fb, hfb⟩ : ∃ b, Hid (decide (64 ≤ p) = b) := ⟨_, rfl⟩
      rw [hcr.out] at HCK
      simp only [hcr.out, hfb.out] at HCW
      have HKN2 : Hid (keptK picks (k + 1) = keptK picks k + if fb then 1 else 0) := HKN.out fb hfb.out
      obtain ⟨HX2a, BWa, BE2a, THa⟩ := HXK.out.boxed x HXO.out.2
      have HX2 := Lib.hid HX2a
      have BW := Lib.hid BWa
      have BE2 := Lib.hid BE2a
      have TH := Lib.hid THa
      have ST2 := Lib.hid (HST.out.trans (Step.of_below BE2a (Nat.le_refl _)))
      clear HX2a BWa BE2a THa HKN
      go_upto_region 4 with (fail)
      refine lin_begin (opsOf Tryz.f24 4) (by kernel_rfl) ?_
      refine lin_now 0 (.int .i64 (k : Int)) (some 19) (by kernel_rfl) (by kernel_rfl) (by kernel_rfl) ?_
      refine lin_now 1 (.pointer (some ⟨g, 0 + 65 * k, none⟩)) (some 20) (by kernel_rfl) (by kernel_rfl) (exec_indexAt 75 (.tmp 15) (.tmp 17) (by kernel_rfl) _ _ _ (by kernel_rfl) (by kernel_rfl) (run_at_write g 0 m c k hlt _)) ?_
      refine lin_now 2 (.agg (wcells x).toArray) (some 21) (by kernel_rfl) (by kernel_rfl) (exec_load_mid 81 (.tmp 20) (by kernel_rfl) g (0 + 65 * k) (by kernel_rfl) (wcells x) _ HRG.out Tryz.underlying81 rfl IW.out) ?_
      refine lin_value 3 (.pointer (some ⟨wr.heap.size, 0, none⟩)) (some 7) (wr.alloc (.cells zW.toArray 81)) (by kernel_rfl) (by kernel_rfl) (exec_alloc 81 (by kernel_rfl) (.agg zW.toArray) zeroWr) ?_
      refine lin_now 4 (.int .i64 (k : Int)) (some 6) (by kernel_rfl) (by kernel_rfl) (by kernel_rfl) ?_
      refine lin_store 5 ((wr.alloc (.cells zW.toArray 81)).setCells wr.heap.size 0 (wcells x)) (by kernel_rfl) (by kernel_rfl) (exec_store_mid 81 (.tmp 7) (.tmp 21) (by kernel_rfl) wr.heap.size 0 (wcells x) (by kernel_rfl) (by kernel_rfl) TH.out IW.out (wcells_ok x)) ?_
      refine lin_done 6 (by kernel_rfl) ?_
      have hdW : d < wr.heap.size := HXK.out.hd.lt
      have hdBW : dB < wr.heap.size := HXK.out.hu.lt
      clear TH HRG HXK HST BE2
      generalize (wr.alloc (.cells zW.toArray 81)).setCells wr.heap.size 0 (wcells x) = W2 at *
      generalize wr.heap.size = W at *
      generalize hact : Act.put _ none undef = act
      simp only [Act.put, List.setIfInBounds_toArray, List.set_cons_succ, List.set_cons_zero] at hact
      subst hact
      have HU2 : Hid (BytesIn W2 (.slice ua pn uc) picks) := (HU.out.step ST2.out).in
      go_upto_region 5 with (fail)
      refine region_begin (opsOf Tryz.f24 5) (Below W2.heap.size W2) (by kernel_rfl) (by kernel_rfl) 20 (by kernel_rfl) ?_
      intro Q' hQN hN
      have hS : Below W2.heap.size W2 W2.drew := (Below.refl _ _).drew
      refine reg_now 0 (.pointer (some ⟨d, 0, none⟩)) (some 23) hQN hS (by kernel_rfl) (by kernel_rfl) (fun w => by kernel_rfl) ?_
      refine reg_now 1 (.pointer (some ⟨d, 0, none⟩)) (some 24) hQN hS (by kernel_rfl) (by kernel_rfl) (fun w => by kernel_rfl) ?_
      refine reg_now 2 (.pointer (some ⟨d, 1, none⟩)) (some 25) hQN hS (by kernel_rfl) (by kernel_rfl) (fun w => by kernel_rfl) ?_
      refine reg_nowIf 3 (.slice (some ⟨dB, 0, none⟩) sz dc) (some 26) hQN hS (by kernel_rfl) (by kernel_rfl) (fun w' hw => exec_load_cell 61 (.tmp 25) (by kernel_rfl) d 1 (by kernel_rfl) _ ((HX2.out.hd.below hw HX2.out.hd.lt).cell rfl) _ Tryz.underlying61 rfl) ?_
      refine reg_now 4 (.pointer (some ⟨W, 0, none⟩)) (some 27) hQN hS (by kernel_rfl) (by kernel_rfl) (fun w => by kernel_rfl) ?_
      refine reg_nowIf 5 (.int .i64 (x.1 : Int)) (some 28) hQN hS (by kernel_rfl) (by kernel_rfl) (fun w' hw => exec_load_cell 3 (.tmp 27) (by kernel_rfl) W 0 (by kernel_rfl) _ ((BW.out.below hw BW.out.lt).cell rfl) _ Tryz.underlying3 rfl) ?_
      refine reg_now 6 (.pointer (some ⟨dB, 0 + 64 * x.1, none⟩)) (some 29) hQN hS (by kernel_rfl) (by kernel_rfl) (fun w' => exec_indexAt 61 (.tmp 26) (.tmp 28) (by kernel_rfl) _ _ _ (by kernel_rfl) (by kernel_rfl) (run_at_block dB 0 sz dc x.1 HXO.out.1 w')) ?_
      refine reg_nowIf 7 (.agg (ints .u8 bf).toArray) (some 30) hQN hS (by kernel_rfl) (by kernel_rfl) (fun w' hw => exec_load_mid 79 (.tmp 29) (by kernel_rfl) dB (0 + 64 * x.1) (by kernel_rfl) (ints .u8 bf) _ (hbf.out ▸ getB_range (HX2.out.hu.below hw HX2.out.hu.lt) HX2.out.lu HXO.out.1) Tryz.underlying79 rfl IBF.out) ?_
      refine reg_now 8 (.pointer (some ⟨W, 1, none⟩)) (some 31) hQN hS (by kernel_rfl) (by kernel_rfl) (fun w => by kernel_rfl) ?_
      refine reg_nowIf 9 (.agg (ints .u8 x.2).toArray) (some 32) hQN hS (by kernel_rfl) (by kernel_rfl) (fun w' hw => exec_load_mid 79 (.tmp 31) (by kernel_rfl) W 1 (by kernel_rfl) (ints .u8 x.2) _ (wcells_block (BW.out.below hw BW.out.lt)) Tryz.underlying79 rfl IB.out) ?_
      refine reg_now 10 (.slice ua pn uc) (some 33) hQN hS (by kernel_rfl) (by kernel_rfl) (fun w => by kernel_rfl) ?_
      refine reg_now 11 (.int .i64 (k : Int)) (some 34) hQN hS (by kernel_rfl) (by kernel_rfl) (fun w => by kernel_rfl) ?_
      refine reg_two 12 17 (by kernel_rfl) ?_ ?_
      · refine op_call 12 41 #[.slice ua pn uc, .int .i64 (k : Int)] (some 35) _ (by kernel_rfl) (by kernel_rfl) (by kernel_rfl) (pick_walk (.slice ua pn uc) picks k _ (HU2.out.below hS (Nat.le_refl _)) HPL.out (by omega)) ?_
        rintro e w' ⟨rfl, rfl⟩
        refine ⟨_, rfl, hS, ?_⟩
        rw [hp.out]
        refine reg_two 13 17 (by kernel_rfl) ?_ ?_
        · refine op_call 13 40 #[.agg (ints .u8 bf).toArray, .agg (ints .u8 x.2).toArray, .int .u8 p] (some 36) _ (by kernel_rfl) (by kernel_rfl) (by kernel_rfl) (HCW.out _) ?_
          rintro e W4 ⟨rfl, hb4⟩
          have hS4 : Below W2.heap.size W2 W4 := hS.trans (hb4.mono (Nat.le_refl _))
          refine ⟨_, rfl, hS4, ?_⟩
          refine reg_now 14 (.tuple #[.agg (ints .u8 cr).toArray, .bool fb]) (some 22) hQN hS4 (by kernel_rfl) (by kernel_rfl) (fun w => by kernel_rfl) ?_
          refine reg_now 15 (.agg (ints .u8 cr).toArray) (some 37) hQN hS4 (by kernel_rfl) (by kernel_rfl) (fun w => by kernel_rfl) ?_
          refine reg_now 16 (.bool fb) (some 38) hQN hS4 (by kernel_rfl) (by kernel_rfl) (fun w => by kernel_rfl) ?_
          have hXge : W2.heap.size ≤ W4.heap.size := hS4.size
          have hS5 : Below W2.heap.size W2 (W4.alloc (.cells (ints .u8 zB).toArray 79)) := hS4.alloc hXge _
          have BZ : Blk (W4.alloc (.cells (ints .u8 zB).toArray 79)) W4.heap.size 79 (ints .u8 zB) := Blk.new _ _ _
          refine reg_value 17 (.pointer (some ⟨W4.heap.size, 0, none⟩)) (some 8) (W4.alloc (.cells (ints .u8 zB).toArray 79)) (by kernel_rfl) (by kernel_rfl) (exec_alloc 79 (by kernel_rfl) (.agg (ints .u8 zB).toArray) zeroBlk) hS5 ?_
          have THX : World.there (W4.alloc (.cells (ints .u8 zB).toArray 79)) W4.heap.size 0 (ints .u8 cr).length := BZ.there 0 _ (by rw [ints_length, ints_length, HCL.out, zB_length]; omega)
          have BXf : Blk ((W4.alloc (.cells (ints .u8 zB).toArray 79)).setCells W4.heap.size 0 (ints .u8 cr)) W4.heap.size 79 (ints .u8 cr) := BZ.setWhole _ (by rw [ints_length, ints_length, HCL.out, zB_length])
          have BELf : Below W2.heap.size W2 ((W4.alloc (.cells (ints .u8 zB).toArray 79)).setCells W4.heap.size 0 (ints .u8 cr)) := below_setCells (ints .u8 cr) hS5 0 hXge
          refine reg_store 18 ((W4.alloc (.cells (ints .u8 zB).toArray 79)).setCells W4.heap.size 0 (ints .u8 cr)) (by kernel_rfl) (by kernel_rfl) (exec_store_mid 79 (.tmp 8) (.tmp 37) (by kernel_rfl) W4.heap.size 0 (ints .u8 cr) (by kernel_rfl) (by kernel_rfl) THX ICR.out (ints_oneCell _ _)) BELf ?_
          refine reg_now 19 (.bool fb) (some 9) hQN BELf (by kernel_rfl) (by kernel_rfl) (fun w => by kernel_rfl) ?_
          refine reg_done (by kernel_rfl) (hN _ _ ?_)
          clear THX BZ
          generalize (W4.alloc (.cells (ints .u8 zB).toArray 79)).setCells W4.heap.size 0 (ints .u8 cr) = WF at *
          clear hS5 hS4 hb4 hS
          generalize W4.heap.size = X at *
          have HX6 := Lib.hid (HX2.out.next BELf)
          have BW6 := Lib.hid (BW.out.below BELf BW.out.lt)
          have ST6 := Lib.hid (ST2.out.trans (Step.of_below BELf (Nat.le_refl _)))
          have BX6 := Lib.hid BXf
          have hWl : W < W2.heap.size := BW.out.lt
          have hXd : d ≠ X := by have := HX2.out.hd.lt; omega
          have hXW : W ≠ X := by omega
          have hXB : dB ≠ X := by have := HX2.out.hu.lt; omega
          clear hQN hN BXf BELf
          generalize hact : Act.put _ (some 9) (.bool fb) = act
          simp only [Act.put, List.setIfInBounds_toArray, List.set_cons_succ, List.set_cons_zero] at hact
          subst hact
          clear HX2 BW ST2 HU2
          generalize WF = W6 at *
          go_upto_region 6 with (fail)
          refine region_begin (opsOf Tryz.f24 6) (Csx d W X (dcells sz sB dB sc dc (.slice (some ⟨g, 0, none⟩) m c) left) x cr) (by kernel_rfl) (by kernel_rfl) 9 (by kernel_rfl) ?_
          intro Q' hQN hN
          have hS : Csx d W X (dcells sz sB dB sc dc (.slice (some ⟨g, 0, none⟩) m c) left) x cr W6.drew := ⟨HX6.out.hd, BW6.out, BX6.out⟩
          obtain ⟨th, bs, ub⟩ := store_block (w := W6.drew) HX6.out.hu HX6.out.lu HXO.out.1 HCL.out
          refine reg_now 0 (.pointer (some ⟨d, 0, none⟩)) (some 39) hQN hS (by kernel_rfl) (by kernel_rfl) (fun w => by kernel_rfl) ?_
          refine reg_now 1 (.pointer (some ⟨d, 0, none⟩)) (some 40) hQN hS (by kernel_rfl) (by kernel_rfl) (fun w => by kernel_rfl) ?_
          refine reg_now 2 (.pointer (some ⟨d, 1, none⟩)) (some 41) hQN hS (by kernel_rfl) (by kernel_rfl) (fun w => by kernel_rfl) ?_
          refine reg_nowIf 3 (.slice (some ⟨dB, 0, none⟩) sz dc) (some 42) hQN hS (by kernel_rfl) (by kernel_rfl) (fun w' hw => exec_load_cell 61 (.tmp 41) (by kernel_rfl) d 1 (by kernel_rfl) _ (hw.d.cell rfl) _ Tryz.underlying61 rfl) ?_
          refine reg_now 4 (.pointer (some ⟨W, 0, none⟩)) (some 43) hQN hS (by kernel_rfl) (by kernel_rfl) (fun w => by kernel_rfl) ?_
          refine reg_nowIf 5 (.int .i64 (x.1 : Int)) (some 44) hQN hS (by kernel_rfl) (by kernel_rfl) (fun w' hw => exec_load_cell 3 (.tmp 43) (by kernel_rfl) W 0 (by kernel_rfl) _ (hw.w.cell rfl) _ Tryz.underlying3 rfl) ?_
          refine reg_nowIf 6 (.agg (ints .u8 cr).toArray) (some 45) hQN hS (by kernel_rfl) (by kernel_rfl) (fun w' hw => exec_load_mid 79 (.tmp 8) (by kernel_rfl) X 0 (by kernel_rfl) (ints .u8 cr) _ hw.x.whole Tryz.underlying79 rfl ICR.out) ?_
          refine reg_now 7 (.pointer (some ⟨dB, 0 + 64 * x.1, none⟩)) (some 46) hQN hS (by kernel_rfl) (by kernel_rfl) (fun w' => exec_indexAt 61 (.tmp 42) (.tmp 44) (by kernel_rfl) _ _ _ (by kernel_rfl) (by kernel_rfl) (run_at_block dB 0 sz dc x.1 HXO.out.1 w')) ?_
          refine reg_store 8 (W6.drew.setCells dB (0 + 64 * x.1) (ints .u8 cr)) (by kernel_rfl) (by kernel_rfl) (exec_store_mid 79 (.tmp 46) (.tmp 45) (by kernel_rfl) dB (0 + 64 * x.1) (ints .u8 cr) (by kernel_rfl) (by kernel_rfl) th ICR.out (ints_oneCell _ _)) ⟨ub.blk hS.d HX6.out.n2, ub.blk hS.w (by omega), ub.blk hS.x (Ne.symm hXB)⟩ ?_
          refine reg_done (by kernel_rfl) (hN _ _ ?_)
          have ub' : Upd dB W6 (W6.drew.setCells dB (0 + 64 * x.1) (ints .u8 cr)) := ((Upd.refl dB W6).drew).setCells _ _
          have HX7 : Hid (Dkx (W6.drew.setCells dB (0 + 64 * x.1) (ints .u8 cr)) d sz sB dB sc dc rs rd (.slice (some ⟨g, 0, none⟩) m c) seen (crashK dur pend picks (k + 1)) pend left) := by
            unfold Hid
            rw [HCK.out]
            exact HX6.out.durable HXO.out.1 HCL.out ub' bs
          have ST7 : Hid (Step (foot d sB dB (.slice (some ⟨g, 0, none⟩) m c)) w (foot d sB dB (.slice (some ⟨g, 0, none⟩) m c)) (W6.drew.setCells dB (0 + 64 * x.1) (ints .u8 cr))) := ST6.out.trans (Step.of_upd ub' (by simp [foot]))
          clear hQN hN hS th bs ub ub' HX6 ST6 BW6 BX6
          generalize W6.drew.setCells dB (0 + 64 * x.1) (ints .u8 cr) = W7 at *
          generalize hact : Act.put _ none undef = act
          simp only [Act.put, List.setIfInBounds_toArray, List.set_cons_succ, List.set_cons_zero] at hact
          subst hact
          cases fb with
          | true =>
            go_wp2
            exact ⟨⟨k + 1, by omega, by go_num, by rw [HKN2.out, if_pos rfl]; go_num, HX7.out, ST7.out⟩, by simp [intOf]; omega⟩
          | false =>
            go_wp2
            exact ⟨⟨k + 1, by omega, by go_num, by rw [HKN2.out, if_neg (by decide)]; rfl, HX7.out, ST7.out⟩, by simp [intOf]; omega⟩
        · have hXge : W2.heap.size ≤ W2.drew.heap.size := Nat.le_refl _
          have hS3 : Below W2.heap.size W2 (W2.drew.alloc (.cells (ints .u8 zB).toArray 79)) := hS.alloc hXge _
          have BZ3 : Blk (W2.drew.alloc (.cells (ints .u8 zB).toArray 79)) W2.drew.heap.size 79 (ints .u8 zB) := Blk.new _ _ _
          refine op_value 17 (.pointer (some ⟨W2.drew.heap.size, 0, none⟩)) (some 8) (W2.drew.alloc (.cells (ints .u8 zB).toArray 79)) (by kernel_rfl) (by kernel_rfl) (exec_alloc 79 (by kernel_rfl) (.agg (ints .u8 zB).toArray) zeroBlk) ⟨hS3, ?_⟩
          refine reg_call 13 40 #[.agg (ints .u8 bf).toArray, .agg (ints .u8 x.2).toArray, .int .u8 p] (some 36) _ (by kernel_rfl) (by kernel_rfl) (by kernel_rfl) (HCW.out _) ?_
          rintro e W4 ⟨rfl, hb4⟩
          have hS4 : Below W2.heap.size W2 W4 := hS3.trans (hb4.mono (by simp))
          refine ⟨_, rfl, hS4, ?_⟩
          have BZ := BZ3.below hb4 BZ3.lt
          refine reg_now 14 (.tuple #[.agg (ints .u8 cr).toArray, .bool fb]) (some 22) hQN hS4 (by kernel_rfl) (by kernel_rfl) (fun w => by kernel_rfl) ?_
          refine reg_now 15 (.agg (ints .u8 cr).toArray) (some 37) hQN hS4 (by kernel_rfl) (by kernel_rfl) (fun w => by kernel_rfl) ?_
          refine reg_now 16 (.bool fb) (some 38) hQN hS4 (by kernel_rfl) (by kernel_rfl) (fun w => by kernel_rfl) ?_
          have THX : World.there (W4) W2.drew.heap.size 0 (ints .u8 cr).length := BZ.there 0 _ (by rw [ints_length, ints_length, HCL.out, zB_length]; omega)
          have BXf : Blk ((W4).setCells W2.drew.heap.size 0 (ints .u8 cr)) W2.drew.heap.size 79 (ints .u8 cr) := BZ.setWhole _ (by rw [ints_length, ints_length, HCL.out, zB_length])
          have BELf : Below W2.heap.size W2 ((W4).setCells W2.drew.heap.size 0 (ints .u8 cr)) := below_setCells (ints .u8 cr) hS4 0 hXge
          refine reg_store 18 ((W4).setCells W2.drew.heap.size 0 (ints .u8 cr)) (by kernel_rfl) (by kernel_rfl) (exec_store_mid 79 (.tmp 8) (.tmp 37) (by kernel_rfl) W2.drew.heap.size 0 (ints .u8 cr) (by kernel_rfl) (by kernel_rfl) THX ICR.out (ints_oneCell _ _)) BELf ?_
          refine reg_now 19 (.bool fb) (some 9) hQN BELf (by kernel_rfl) (by kernel_rfl) (fun w => by kernel_rfl) ?_
          refine reg_done (by kernel_rfl) (hN _ _ ?_)
          clear THX BZ
          generalize (W4).setCells W2.drew.heap.size 0 (ints .u8 cr) = WF at *
          clear hS4 hb4 hS hS3 BZ3
          generalize W2.drew.heap.size = X at *
          have HX6 := Lib.hid (HX2.out.next BELf)
          have BW6 := Lib.hid (BW.out.below BELf BW.out.lt)
          have ST6 := Lib.hid (ST2.out.trans (Step.of_below BELf (Nat.le_refl _)))
          have BX6 := Lib.hid BXf
          have hWl : W < W2.heap.size := BW.out.lt
          have hXd : d ≠ X := by have := HX2.out.hd.lt; omega
          have hXW : W ≠ X := by omega
          have hXB : dB ≠ X := by have := HX2.out.hu.lt; omega
          clear hQN hN BXf BELf
          generalize hact : Act.put _ (some 9) (.bool fb) = act
          simp only [Act.put, List.setIfInBounds_toArray, List.set_cons_succ, List.set_cons_zero] at hact
          subst hact
          clear HX2 BW ST2 HU2
          generalize WF = W6 at *
          go_upto_region 6 with (fail)
          refine region_begin (opsOf Tryz.f24 6) (Csx d W X (dcells sz sB dB sc dc (.slice (some ⟨g, 0, none⟩) m c) left) x cr) (by kernel_rfl) (by kernel_rfl) 9 (by kernel_rfl) ?_
          intro Q' hQN hN
          have hS : Csx d W X (dcells sz sB dB sc dc (.slice (some ⟨g, 0, none⟩) m c) left) x cr W6.drew := ⟨HX6.out.hd, BW6.out, BX6.out⟩
          obtain ⟨th, bs, ub⟩ := store_block (w := W6.drew) HX6.out.hu HX6.out.lu HXO.out.1 HCL.out
          refine reg_now 0 (.pointer (some ⟨d, 0, none⟩)) (some 39) hQN hS (by kernel_rfl) (by kernel_rfl) (fun w => by kernel_rfl) ?_
          refine reg_now 1 (.pointer (some ⟨d, 0, none⟩)) (some 40) hQN hS (by kernel_rfl) (by kernel_rfl) (fun w => by kernel_rfl) ?_
          refine reg_now 2 (.pointer (some ⟨d, 1, none⟩)) (some 41) hQN hS (by kernel_rfl) (by kernel_rfl) (fun w => by kernel_rfl) ?_
          refine reg_nowIf 3 (.slice (some ⟨dB, 0, none⟩) sz dc) (some 42) hQN hS (by kernel_rfl) (by kernel_rfl) (fun w' hw => exec_load_cell 61 (.tmp 41) (by kernel_rfl) d 1 (by kernel_rfl) _ (hw.d.cell rfl) _ Tryz.underlying61 rfl) ?_
          refine reg_now 4 (.pointer (some ⟨W, 0, none⟩)) (some 43) hQN hS (by kernel_rfl) (by kernel_rfl) (fun w => by kernel_rfl) ?_
          refine reg_nowIf 5 (.int .i64 (x.1 : Int)) (some 44) hQN hS (by kernel_rfl) (by kernel_rfl) (fun w' hw => exec_load_cell 3 (.tmp 43) (by kernel_rfl) W 0 (by kernel_rfl) _ (hw.w.cell rfl) _ Tryz.underlying3 rfl) ?_
          refine reg_nowIf 6 (.agg (ints .u8 cr).toArray) (some 45) hQN hS (by kernel_rfl) (by kernel_rfl) (fun w' hw => exec_load_mid 79 (.tmp 8) (by kernel_rfl) X 0 (by kernel_rfl) (ints .u8 cr) _ hw.x.whole Tryz.underlying79 rfl ICR.out) ?_
          refine reg_now 7 (.pointer (some ⟨dB, 0 + 64 * x.1, none⟩)) (some 46) hQN hS (by kernel_rfl) (by kernel_rfl) (fun w' => exec_indexAt 61 (.tmp 42) (.tmp 44) (by kernel_rfl) _ _ _ (by kernel_rfl) (by kernel_rfl) (run_at_block dB 0 sz dc x.1 HXO.out.1 w')) ?_
          refine reg_store 8 (W6.drew.setCells dB (0 + 64 * x.1) (ints .u8 cr)) (by kernel_rfl) (by kernel_rfl) (exec_store_mid 79 (.tmp 46) (.tmp 45) (by kernel_rfl) dB (0 + 64 * x.1) (ints .u8 cr) (by kernel_rfl) (by kernel_rfl) th ICR.out (ints_oneCell _ _)) ⟨ub.blk hS.d HX6.out.n2, ub.blk hS.w (by omega), ub.blk hS.x (Ne.symm hXB)⟩ ?_
          refine reg_done (by kernel_rfl) (hN _ _ ?_)
          have ub' : Upd dB W6 (W6.drew.setCells dB (0 + 64 * x.1) (ints .u8 cr)) := ((Upd.refl dB W6).drew).setCells _ _
          have HX7 : Hid (Dkx (W6.drew.setCells dB (0 + 64 * x.1) (ints .u8 cr)) d sz sB dB sc dc rs rd (.slice (some ⟨g, 0, none⟩) m c) seen (crashK dur pend picks (k + 1)) pend left) := by
            unfold Hid
            rw [HCK.out]
            exact HX6.out.durable HXO.out.1 HCL.out ub' bs
          have ST7 : Hid (Step (foot d sB dB (.slice (some ⟨g, 0, none⟩) m c)) w (foot d sB dB (.slice (some ⟨g, 0, none⟩) m c)) (W6.drew.setCells dB (0 + 64 * x.1) (ints .u8 cr))) := ST6.out.trans (Step.of_upd ub' (by simp [foot]))
          clear hQN hN hS th bs ub ub' HX6 ST6 BW6 BX6
          generalize W6.drew.setCells dB (0 + 64 * x.1) (ints .u8 cr) = W7 at *
          generalize hact : Act.put _ none undef = act
          simp only [Act.put, List.setIfInBounds_toArray, List.set_cons_succ, List.set_cons_zero] at hact
          subst hact
          cases fb with
          | true =>
            go_wp2
            exact ⟨⟨k + 1, by omega, by go_num, by rw [HKN2.out, if_pos rfl]; go_num, HX7.out, ST7.out⟩, by simp [intOf]; omega⟩
          | false =>
            go_wp2
            exact ⟨⟨k + 1, by omega, by go_num, by rw [HKN2.out, if_neg (by decide)]; rfl, HX7.out, ST7.out⟩, by simp [intOf]; omega⟩
      · have hXge : W2.heap.size ≤ W2.drew.heap.size := Nat.le_refl _
        have hS3 : Below W2.heap.size W2 (W2.drew.alloc (.cells (ints .u8 zB).toArray 79)) := hS.alloc hXge _
        have BZ3 : Blk (W2.drew.alloc (.cells (ints .u8 zB).toArray 79)) W2.drew.heap.size 79 (ints .u8 zB) := Blk.new _ _ _
        refine op_value 17 (.pointer (some ⟨W2.drew.heap.size, 0, none⟩)) (some 8) (W2.drew.alloc (.cells (ints .u8 zB).toArray 79)) (by kernel_rfl) (by kernel_rfl) (exec_alloc 79 (by kernel_rfl) (.agg (ints .u8 zB).toArray) zeroBlk) ⟨hS3, ?_⟩
        refine reg_call 12 41 #[.slice ua pn uc, .int .i64 (k : Int)] (some 35) _ (by kernel_rfl) (by kernel_rfl) (by kernel_rfl) (pick_walk (.slice ua pn uc) picks k _ (HU2.out.below hS3 (Nat.le_refl _)) HPL.out (by omega)) ?_
        rintro e w' ⟨rfl, rfl⟩
        refine ⟨_, rfl, hS3, ?_⟩
        rw [hp.out]
        refine reg_call 13 40 #[.agg (ints .u8 bf).toArray, .agg (ints .u8 x.2).toArray, .int .u8 p] (some 36) _ (by kernel_rfl) (by kernel_rfl) (by kernel_rfl) (HCW.out _) ?_
        rintro e W4 ⟨rfl, hb4⟩
        have hS4 : Below W2.heap.size W2 W4 := hS3.trans (hb4.mono (by simp))
        refine ⟨_, rfl, hS4, ?_⟩
        have BZ := BZ3.below hb4 BZ3.lt
        refine reg_now 14 (.tuple #[.agg (ints .u8 cr).toArray, .bool fb]) (some 22) hQN hS4 (by kernel_rfl) (by kernel_rfl) (fun w => by kernel_rfl) ?_
        refine reg_now 15 (.agg (ints .u8 cr).toArray) (some 37) hQN hS4 (by kernel_rfl) (by kernel_rfl) (fun w => by kernel_rfl) ?_
        refine reg_now 16 (.bool fb) (some 38) hQN hS4 (by kernel_rfl) (by kernel_rfl) (fun w => by kernel_rfl) ?_
        have THX : World.there (W4) W2.drew.heap.size 0 (ints .u8 cr).length := BZ.there 0 _ (by rw [ints_length, ints_length, HCL.out, zB_length]; omega)
        have BXf : Blk ((W4).setCells W2.drew.heap.size 0 (ints .u8 cr)) W2.drew.heap.size 79 (ints .u8 cr) := BZ.setWhole _ (by rw [ints_length, ints_length, HCL.out, zB_length])
        have BELf : Below W2.heap.size W2 ((W4).setCells W2.drew.heap.size 0 (ints .u8 cr)) := below_setCells (ints .u8 cr) hS4 0 hXge
        refine reg_store 18 ((W4).setCells W2.drew.heap.size 0 (ints .u8 cr)) (by kernel_rfl) (by kernel_rfl) (exec_store_mid 79 (.tmp 8) (.tmp 37) (by kernel_rfl) W2.drew.heap.size 0 (ints .u8 cr) (by kernel_rfl) (by kernel_rfl) THX ICR.out (ints_oneCell _ _)) BELf ?_
        refine reg_now 19 (.bool fb) (some 9) hQN BELf (by kernel_rfl) (by kernel_rfl) (fun w => by kernel_rfl) ?_
        refine reg_done (by kernel_rfl) (hN _ _ ?_)
        clear THX BZ
        generalize (W4).setCells W2.drew.heap.size 0 (ints .u8 cr) = WF at *
        clear hS4 hb4 hS hS3 BZ3
        generalize W2.drew.heap.size = X at *
        have HX6 := Lib.hid (HX2.out.next BELf)
        have BW6 := Lib.hid (BW.out.below BELf BW.out.lt)
        have ST6 := Lib.hid (ST2.out.trans (Step.of_below BELf (Nat.le_refl _)))
        have BX6 := Lib.hid BXf
        have hWl : W < W2.heap.size := BW.out.lt
        have hXd : d ≠ X := by have := HX2.out.hd.lt; omega
        have hXW : W ≠ X := by omega
        have hXB : dB ≠ X := by have := HX2.out.hu.lt; omega
        clear hQN hN BXf BELf
        generalize hact : Act.put _ (some 9) (.bool fb) = act
        simp only [Act.put, List.setIfInBounds_toArray, List.set_cons_succ, List.set_cons_zero] at hact
        subst hact
        clear HX2 BW ST2 HU2
        generalize WF = W6 at *
        go_upto_region 6 with (fail)
        refine region_begin (opsOf Tryz.f24 6) (Csx d W X (dcells sz sB dB sc dc (.slice (some ⟨g, 0, none⟩) m c) left) x cr) (by kernel_rfl) (by kernel_rfl) 9 (by kernel_rfl) ?_
        intro Q' hQN hN
        have hS : Csx d W X (dcells sz sB dB sc dc (.slice (some ⟨g, 0, none⟩) m c) left) x cr W6.drew := ⟨HX6.out.hd, BW6.out, BX6.out⟩
        obtain ⟨th, bs, ub⟩ := store_block (w := W6.drew) HX6.out.hu HX6.out.lu HXO.out.1 HCL.out
        refine reg_now 0 (.pointer (some ⟨d, 0, none⟩)) (some 39) hQN hS (by kernel_rfl) (by kernel_rfl) (fun w => by kernel_rfl) ?_
        refine reg_now 1 (.pointer (some ⟨d, 0, none⟩)) (some 40) hQN hS (by kernel_rfl) (by kernel_rfl) (fun w => by kernel_rfl) ?_
        refine reg_now 2 (.pointer (some ⟨d, 1, none⟩)) (some 41) hQN hS (by kernel_rfl) (by kernel_rfl) (fun w => by kernel_rfl) ?_
        refine reg_nowIf 3 (.slice (some ⟨dB, 0, none⟩) sz dc) (some 42) hQN hS (by kernel_rfl) (by kernel_rfl) (fun w' hw => exec_load_cell 61 (.tmp 41) (by kernel_rfl) d 1 (by kernel_rfl) _ (hw.d.cell rfl) _ Tryz.underlying61 rfl) ?_
        refine reg_now 4 (.pointer (some ⟨W, 0, none⟩)) (some 43) hQN hS (by kernel_rfl) (by kernel_rfl) (fun w => by kernel_rfl) ?_
        refine reg_nowIf 5 (.int .i64 (x.1 : Int)) (some 44) hQN hS (by kernel_rfl) (by kernel_rfl) (fun w' hw => exec_load_cell 3 (.tmp 43) (by kernel_rfl) W 0 (by kernel_rfl) _ (hw.w.cell rfl) _ Tryz.underlying3 rfl) ?_
        refine reg_nowIf 6 (.agg (ints .u8 cr).toArray) (some 45) hQN hS (by kernel_rfl) (by kernel_rfl) (fun w' hw => exec_load_mid 79 (.tmp 8) (by kernel_rfl) X 0 (by kernel_rfl) (ints .u8 cr) _ hw.x.whole Tryz.underlying79 rfl ICR.out) ?_
        refine reg_now 7 (.pointer (some ⟨dB, 0 + 64 * x.1, none⟩)) (some 46) hQN hS (by kernel_rfl) (by kernel_rfl) (fun w' => exec_indexAt 61 (.tmp 42) (.tmp 44) (by kernel_rfl) _ _ _ (by kernel_rfl) (by kernel_rfl) (run_at_block dB 0 sz dc x.1 HXO.out.1 w')) ?_
        refine reg_store 8 (W6.drew.setCells dB (0 + 64 * x.1) (ints .u8 cr)) (by kernel_rfl) (by kernel_rfl) (exec_store_mid 79 (.tmp 46) (.tmp 45) (by kernel_rfl) dB (0 + 64 * x.1) (ints .u8 cr) (by kernel_rfl) (by kernel_rfl) th ICR.out (ints_oneCell _ _)) ⟨ub.blk hS.d HX6.out.n2, ub.blk hS.w (by omega), ub.blk hS.x (Ne.symm hXB)⟩ ?_
        refine reg_done (by kernel_rfl) (hN _ _ ?_)
        have ub' : Upd dB W6 (W6.drew.setCells dB (0 + 64 * x.1) (ints .u8 cr)) := ((Upd.refl dB W6).drew).setCells _ _
        have HX7 : Hid (Dkx (W6.drew.setCells dB (0 + 64 * x.1) (ints .u8 cr)) d sz sB dB sc dc rs rd (.slice (some ⟨g, 0, none⟩) m c) seen (crashK dur pend picks (k + 1)) pend left) := by
          unfold Hid
          rw [HCK.out]
          exact HX6.out.durable HXO.out.1 HCL.out ub' bs
        have ST7 : Hid (Step (foot d sB dB (.slice (some ⟨g, 0, none⟩) m c)) w (foot d sB dB (.slice (some ⟨g, 0, none⟩) m c)) (W6.drew.setCells dB (0 + 64 * x.1) (ints .u8 cr))) := ST6.out.trans (Step.of_upd ub' (by simp [foot]))
        clear hQN hN hS th bs ub ub' HX6 ST6 BW6 BX6
        generalize W6.drew.setCells dB (0 + 64 * x.1) (ints .u8 cr) = W7 at *
        generalize hact : Act.put _ none undef = act
        simp only [Act.put, List.setIfInBounds_toArray, List.set_cons_succ, List.set_cons_zero] at hact
        subst hact
        cases fb with
        | true =>
          go_wp2
          exact ⟨⟨k + 1, by omega, by go_num, by rw [HKN2.out, if_pos rfl]; go_num, HX7.out, ST7.out⟩, by simp [intOf]; omega⟩
        | false =>
          go_wp2
          exact ⟨⟨k + 1, by omega, by go_num, by rw [HKN2.out, if_neg (by decide)]; rfl, HX7.out, ST7.out⟩, by simp [intOf]; omega⟩
    · have q1 : ¬ (k : Int) < (m : Int) := by omega
      have e : k = m := by omega
      subst e
      rw [hdF.out] at HXK
      have c2 := HXK.out.c2
      clear q1 hlt
      have q1 : ¬ (k : Int) < (k : Int) := by omega
      go_wp2
      go_loopw [56] (fun i wr => ∃ j : Nat, j ≤ k ∧ i = .int .i64 (j : Int) ∧ Dkx wr d sz sB dB sc dc rs rd (.slice a k c) (seenK seen durF pend j) durF pend left ∧ Step (foot d sB dB (.slice a k c)) w (foot d sB dB (.slice a k c)) wr) (fun i _ => k - (intOf i).toNat)
      case atStart => exact ⟨0, by omega, rfl, HXK.out, HST.out⟩
      case round =>
      obtain ⟨j, hj, rfl, hx, hst⟩ := hrel
      have HXJ := Lib.hid hx
      have HSJ := Lib.hid hst
      clear hx hst HXK HST c2
      by_cases hlt : j < k
      · have q2 : (j : Int) < (k : Int) := by omega
        have hkl : Hid (j < pend.length) := by unfold Hid; rw [hmm.out]; exact hlt
        obtain ⟨x, hxe⟩ : ∃ x, Hid (wrAt pend j = x) := ⟨_, rfl⟩
        have HXO : Hid (x.1 < sz ∧ x.2.length = 64) := by unfold Hid; rw [← hxe.out]; exact wrAt_ok HOK.out hkl.out
        obtain ⟨g, hg⟩ : ∃ g, a = some ⟨g, 0, none⟩ := by
          rcases HXJ.out.hp.2 with ⟨e, h0⟩ | ⟨g, cap, cur, e, _⟩
          · have := hkl.out; omega
          · obtain ⟨e1, -, -⟩ := Value.slice.inj e
            exact ⟨g, e1⟩
        subst hg
        have HRG : Hid (wr.rangeAt g (0 + 65 * j) (wcells x)) := by
          unfold Hid
          rw [← hxe.out]
          exact own_range HXJ.out.hp HOK.out hkl.out
        have IW : Hid ((Tryz.prog.info? 81).map (·.size) = some (wcells x).length) := infoWr x HXO.out.2
        have HSN : Hid (seenK seen durF pend (j + 1) = putB (seenK seen durF pend j) x.1 (getB durF x.1)) := by unfold Hid; rw [seenK, hxe.out]
        generalize seenK seen durF pend j = sj at *
        obtain ⟨bf, hbf⟩ : ∃ b, Hid (getB durF x.1 = b) := ⟨_, rfl⟩
        have HBF : Hid (bf.length = 64) := by unfold Hid; rw [← hbf.out]; exact getB_length HXJ.out.lu HXO.out.1
        have IBF : Hid ((Tryz.prog.info? 79).map (·.size) = some (ints .u8 bf).length) := infoBlk bf HBF.out
        rw [hbf.out] at HSN
        obtain ⟨HX2a, BWa, BE2a, THa⟩ := HXJ.out.boxed x HXO.out.2
        have HX2 := Lib.hid HX2a
        have BW := Lib.hid BWa
        have TH := Lib.hid THa
        have ST2 := Lib.hid (HSJ.out.trans (Step.of_below BE2a (Nat.le_refl _)))
        clear HX2a BWa BE2a THa
        have hdW := HXJ.out.hd.lt
        have hsBW := HXJ.out.hs.lt
        go_upto_region 12 with (fail)
        refine lin_begin (opsOf Tryz.f24 12) (by kernel_rfl) ?_
        refine lin_now 0 (.pointer (some ⟨g, 0 + 65 * j, none⟩)) (some 58) (by kernel_rfl) (by kernel_rfl) (exec_indexAt 75 (.tmp 54) (.tmp 56) (by kernel_rfl) _ _ _ (by kernel_rfl) (by kernel_rfl) (run_at_write g 0 k c j hlt _)) ?_
        refine lin_now 1 (.agg (wcells x).toArray) (some 59) (by kernel_rfl) (by kernel_rfl) (exec_load_mid 81 (.tmp 58) (by kernel_rfl) g (0 + 65 * j) (by kernel_rfl) (wcells x) _ HRG.out Tryz.underlying81 rfl IW.out) ?_
        refine lin_value 2 (.pointer (some ⟨wr.heap.size, 0, none⟩)) (some 11) (wr.alloc (.cells zW.toArray 81)) (by kernel_rfl) (by kernel_rfl) (exec_alloc 81 (by kernel_rfl) (.agg zW.toArray) zeroWr) ?_
        refine lin_store 3 ((wr.alloc (.cells zW.toArray 81)).setCells wr.heap.size 0 (wcells x)) (by kernel_rfl) (by kernel_rfl) (exec_store_mid 81 (.tmp 11) (.tmp 59) (by kernel_rfl) wr.heap.size 0 (wcells x) (by kernel_rfl) (by kernel_rfl) TH.out IW.out (wcells_ok x)) ?_
        refine lin_done 4 (by kernel_rfl) ?_
        clear TH HRG HXJ HSJ
        generalize (wr.alloc (.cells zW.toArray 81)).setCells wr.heap.size 0 (wcells x) = W2 at *
        generalize wr.heap.size = W at *
        generalize hact : Act.put _ none undef = act
        simp only [Act.put, List.setIfInBounds_toArray, List.set_cons_succ, List.set_cons_zero] at hact
        subst hact
        go_upto_region 13 with (fail)
        refine region_begin (opsOf Tryz.f24 13) (Ksx d W dB (dcells sz sB dB sc dc (.slice (some ⟨g, 0, none⟩) k c) left) x (ints .u8 durF ++ rd)) (by kernel_rfl) (by kernel_rfl) 16 (by kernel_rfl) ?_
        intro Q' hQN hN
        have hS : Ksx d W dB (dcells sz sB dB sc dc (.slice (some ⟨g, 0, none⟩) k c) left) x (ints .u8 durF ++ rd) W2.drew := ⟨HX2.out.hd, BW.out, HX2.out.hu⟩
        obtain ⟨th, bs, ub⟩ := store_block (w := W2.drew) HX2.out.hs HX2.out.ls HXO.out.1 HBF.out
        refine reg_now 0 (.pointer (some ⟨d, 0, none⟩)) (some 60) hQN hS (by kernel_rfl) (by kernel_rfl) (fun w => by kernel_rfl) ?_
        refine reg_now 1 (.pointer (some ⟨d, 0, none⟩)) (some 61) hQN hS (by kernel_rfl) (by kernel_rfl) (fun w => by kernel_rfl) ?_
        refine reg_now 2 (.pointer (some ⟨d, 0, none⟩)) (some 62) hQN hS (by kernel_rfl) (by kernel_rfl) (fun w => by kernel_rfl) ?_
        refine reg_nowIf 3 (.slice (some ⟨sB, 0, none⟩) sz sc) (some 63) hQN hS (by kernel_rfl) (by kernel_rfl) (fun w' hw => exec_load_cell 61 (.tmp 62) (by kernel_rfl) d 0 (by kernel_rfl) _ (hw.d.cell rfl) _ Tryz.underlying61 rfl) ?_
        refine reg_now 4 (.pointer (some ⟨W, 0, none⟩)) (some 64) hQN hS (by kernel_rfl) (by kernel_rfl) (fun w => by kernel_rfl) ?_
        refine reg_nowIf 5 (.int .i64 (x.1 : Int)) (some 65) hQN hS (by kernel_rfl) (by kernel_rfl) (fun w' hw => exec_load_cell 3 (.tmp 64) (by kernel_rfl) W 0 (by kernel_rfl) _ (hw.w.cell rfl) _ Tryz.underlying3 rfl) ?_
        refine reg_now 6 (.pointer (some ⟨d, 0, none⟩)) (some 66) hQN hS (by kernel_rfl) (by kernel_rfl) (fun w => by kernel_rfl) ?_
        refine reg_now 7 (.pointer (some ⟨d, 0, none⟩)) (some 67) hQN hS (by kernel_rfl) (by kernel_rfl) (fun w => by kernel_rfl) ?_
        refine reg_now 8 (.pointer (some ⟨d, 1, none⟩)) (some 68) hQN hS (by kernel_rfl) (by kernel_rfl) (fun w => by kernel_rfl) ?_
        refine reg_nowIf 9 (.slice (some ⟨dB, 0, none⟩) sz dc) (some 69) hQN hS (by kernel_rfl) (by kernel_rfl) (fun w' hw => exec_load_cell 61 (.tmp 68) (by kernel_rfl) d 1 (by kernel_rfl) _ (hw.d.cell rfl) _ Tryz.underlying61 rfl) ?_
        refine reg_now 10 (.pointer (some ⟨W, 0, none⟩)) (some 70) hQN hS (by kernel_rfl) (by kernel_rfl) (fun w => by kernel_rfl) ?_
        refine reg_nowIf 11 (.int .i64 (x.1 : Int)) (some 71) hQN hS (by kernel_rfl) (by kernel_rfl) (fun w' hw => exec_load_cell 3 (.tmp 70) (by kernel_rfl) W 0 (by kernel_rfl) _ (hw.w.cell rfl) _ Tryz.underlying3 rfl) ?_
        refine reg_now 12 (.pointer (some ⟨dB, 0 + 64 * x.1, none⟩)) (some 72) hQN hS (by kernel_rfl) (by kernel_rfl) (fun w' => exec_indexAt 61 (.tmp 69) (.tmp 71) (by kernel_rfl) _ _ _ (by kernel_rfl) (by kernel_rfl) (run_at_block dB 0 sz dc x.1 HXO.out.1 w')) ?_
        refine reg_nowIf 13 (.agg (ints .u8 bf).toArray) (some 73) hQN hS (by kernel_rfl) (by kernel_rfl) (fun w' hw => exec_load_mid 79 (.tmp 72) (by kernel_rfl) dB (0 + 64 * x.1) (by kernel_rfl) (ints .u8 bf) _ (hbf.out ▸ getB_range hw.u HLF.out HXO.out.1) Tryz.underlying79 rfl IBF.out) ?_
        refine reg_now 14 (.pointer (some ⟨sB, 0 + 64 * x.1, none⟩)) (some 74) hQN hS (by kernel_rfl) (by kernel_rfl) (fun w' => exec_indexAt 61 (.tmp 63) (.tmp 65) (by kernel_rfl) _ _ _ (by kernel_rfl) (by kernel_rfl) (run_at_block sB 0 sz sc x.1 HXO.out.1 w')) ?_
        refine reg_store 15 (W2.drew.setCells sB (0 + 64 * x.1) (ints .u8 bf)) (by kernel_rfl) (by kernel_rfl) (exec_store_mid 79 (.tmp 74) (.tmp 73) (by kernel_rfl) sB (0 + 64 * x.1) (ints .u8 bf) (by kernel_rfl) (by kernel_rfl) th IBF.out (ints_oneCell _ _)) ⟨ub.blk hS.d HX2.out.n1, ub.blk hS.w (by omega), ub.blk hS.u (Ne.symm HX2.out.n3)⟩ ?_
        refine reg_done (by kernel_rfl) (hN _ _ ?_)
        have ub' : Upd sB W2 (W2.drew.setCells sB (0 + 64 * x.1) (ints .u8 bf)) := ((Upd.refl sB W2).drew).setCells _ _
        have HX3 : Hid (Dkx (W2.drew.setCells sB (0 + 64 * x.1) (ints .u8 bf)) d sz sB dB sc dc rs rd (.slice (some ⟨g, 0, none⟩) k c) (seenK seen durF pend (j + 1)) durF pend left) := by
          unfold Hid
          rw [HSN.out]
          exact HX2.out.seen' HXO.out.1 HBF.out ub' bs
        have ST3 : Hid (Step (foot d sB dB (.slice (some ⟨g, 0, none⟩) k c)) w (foot d sB dB (.slice (some ⟨g, 0, none⟩) k c)) (W2.drew.setCells sB (0 + 64 * x.1) (ints .u8 bf))) := ST2.out.trans (Step.of_upd ub' (by simp [foot]))
        clear hQN hN hS th bs ub ub' HX2 ST2 BW
        generalize W2.drew.setCells sB (0 + 64 * x.1) (ints .u8 bf) = W3 at *
        generalize hact : Act.put _ none undef = act
        simp only [Act.put, List.setIfInBounds_toArray, List.set_cons_succ, List.set_cons_zero] at hact
        subst hact
        go_wp2
        exact ⟨⟨j + 1, by omega, by go_num, HX3.out, ST3.out⟩, by simp [intOf]; omega⟩
      · have q2 : ¬ (j : Int) < (k : Int) := by omega
        have e : j = k := by omega
        subst e
        have c2 := HXJ.out.c2
        have f2 := HXJ.out.hd.free 2
        have c3 := HXJ.out.c3
        have f3 := HXJ.out.hd.free 3
        have HN := Lib.hid (HXJ.out.none.limit (-1))
        have ST : Hid (Step (foot d sB dB (.slice a j c)) w (foot d sB dB (.slice none 0 0)) _) := (HSJ.out.trans ((Step.of_upd ((Upd.refl d wr).setCell 2 (.slice none 0 0)) (by simp [foot])).trans (Step.of_upd ((Upd.refl d _).setCell 3 (.int .i64 (-1))) (by simp [foot])))).sub (foot_none d sB dB _)
        clear HXJ HSJ
        go_wp2
        go_ret
        exact ⟨rfl, _, ⟨sB, dB, sc, dc, rs, rd, _, rfl, HN.out⟩, ST.out⟩
end Go.Proofs.YtpafgoaeokgfcaaGreatDoor
