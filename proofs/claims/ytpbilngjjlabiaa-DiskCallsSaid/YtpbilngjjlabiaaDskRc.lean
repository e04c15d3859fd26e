/- The reference's disk: Crash. -/
import Derived.Test.YtpbilngjjlabiaaDskRi
namespace Go.Proofs.Ytpbilngjjlabiaa
open Go Go.RowKit
set_option maxRecDepth 100000

theorem putB_getB {l : List Int} {n : Nat} : putB l n (getB l n) = l := by
  unfold putB getB
  rw [show 64 * n + 64 = 64 * n + 64 from rfl, ← List.drop_drop, List.take_append_drop, List.take_append_drop]
theorem crash_put0 {l : List Int} {x : Wr} {p : Int} (h : p / 64 = 0) : l = putB l x.1 (crash1 (getB l x.1) x.2 p) := by
  unfold crash1
  rw [if_neg (by omega), if_neg (by omega), if_neg (by omega), putB_getB]
theorem crash_put1 {l : List Int} {x : Wr} {p : Int} (hx : x.2.length = 64) (h : p / 64 = 1) : putP l x 0 64 = putB l x.1 (crash1 (getB l x.1) x.2 p) := by
  unfold crash1
  rw [if_pos h, putP_all hx]
theorem crash_put2 {l : List Int} {x : Wr} {p : Int} (hr : (p % 64).toNat ≤ 64) (h : p / 64 = 2) : putP l x 0 (p % 64).toNat = putB l x.1 (crash1 (getB l x.1) x.2 p) := by
  unfold crash1
  rw [if_neg (by omega), if_pos h]
  generalize (p % 64).toNat = r at *
  unfold putP putB getB
  rw [Nat.add_zero, List.drop_zero, List.append_assoc, List.drop_take, List.drop_drop]
  congr 2
  rw [show l.drop (64 * x.1 + 64) = (l.drop (64 * x.1 + r)).drop (64 - r) by rw [List.drop_drop]; congr 1; omega, List.take_append_drop]
theorem crash_put3 {l : List Int} {x : Wr} {p : Int} (hx : x.2.length = 64) (hr : (p % 64).toNat ≤ 64) (h : p / 64 = 3) : putP l x (64 - (p % 64).toNat) (p % 64).toNat = putB l x.1 (crash1 (getB l x.1) x.2 p) := by
  unfold crash1
  rw [if_neg (by omega), if_neg (by omega), if_pos h]
  generalize (p % 64).toNat = r at *
  unfold putP putB getB
  rw [List.take_take, Nat.min_eq_left (by omega), List.take_of_length_le (l := x.2.drop (64 - r)) (by rw [List.length_drop]; omega), show 64 * x.1 + (64 - r) + r = 64 * x.1 + 64 by omega, List.take_add, List.append_assoc, List.append_assoc]
structure Rsx (r p k : Nat) (cs : List Value) (x : Wr) (w : World) : Prop where
  d : Blk w r 47 cs
  g : w.rangeAt p (0 + 65 * k) (wcells x)
section
variable {w : World} {r sz lB lc : Nat} {rl : List Value} {pv : Value} {last : List Int} {pend : List Wr} {left : Int}
theorem Rkx.last' {w' : World} {l : List Int} (h : Rkx w r sz lB lc rl pv last pend left) (hl : l.length = 64 * sz) (hu : Upd lB w w') (hs : Blk w' lB 5 (ints .u8 l ++ rl)) : Rkx w' r sz lB lc rl pv l pend left :=
  ⟨hu.blk h.hd h.n1, hs, own_upd h.hp hu (fun g hg => (h.n4 g hg).2), h.n1, h.n4, hl, h.lc, h.ok, h.one, h.big⟩
end
set_option maxHeartbeats 4000000 in
theorem rcrash_walk (r sz : Nat) (F : List Nat) (last : List Int) (pend : List Wr) (left : Int) (u : Value) (picks : List Int) (w : World) (h : Rk w F r sz last pend left) (hm : pend.length ≤ 1000000) (hu : BytesOff F w u picks) (hpb : isBytes picks) (hpl : picks.length ≤ 1000000000) :
    Calls Try.prog 14 #[.pointer (some ⟨r, 0, none⟩), u] w (RkPost F r sz (crashK last pend picks pend.length) [] (-1) (.int .i64 (keptK picks pend.length : Int)) w) := by
  obtain ⟨lB, lc, rl, pv, rfl, hx⟩ := h
  have HX := Lib.hid hx
  have HOK := Lib.hid hx.ok
  have HLS := Lib.hid hx.ls
  have hbig := hx.big
  have c1 := hx.c1
  obtain ⟨a, c, hpv⟩ := hx.pv'
  obtain ⟨m, hmm⟩ : ∃ m, Hid (pend.length = m) := ⟨_, rfl⟩
  rw [hmm.out] at hm hpv ⊢
  subst hpv
  obtain ⟨ua, uc, hue, -⟩ := id hu
  have HU := Lib.hid hu
  have HPB := Lib.hid hpb
  obtain ⟨pn, hpn⟩ : ∃ n, Hid (picks.length = n) := ⟨_, rfl⟩
  rw [hpn.out] at hue hpl
  subst hue
  clear hx hu hpb
  go_enter Try.func14, Try.ntmps14
  go_wp2
  go_loopw [6, 5] (fun i nv wr => ∃ k : Nat, k ≤ m ∧ i = .int .i64 (k : Int) ∧ nv = .int .i64 (keptK picks k : Int) ∧ Rkx wr r sz lB lc rl (.slice a m c) (crashK last pend picks k) pend left ∧ Step (rfoot r lB (.slice a m c)) w (rfoot r lB (.slice a m c)) wr) (fun i _ _ => m - (intOf i).toNat)
  case atStart => exact ⟨0, by omega, rfl, rfl, HX.out, Step.refl _ _⟩
  case round =>
    obtain ⟨k, hk, rfl, rfl, hx, hst⟩ := hrel
    have XK := Lib.hid hx
    have HST := Lib.hid hst
    clear hx hst HX c1
    have kb := kept_big picks k
    have c1 := XK.out.c1
    by_cases hlt : k < m
    · have q1 : (k : Int) < (m : Int) := by omega
      have hkl : Hid (k < pend.length) := by unfold Hid; rw [hmm.out]; exact hlt
      obtain ⟨x, hxe⟩ : ∃ x, Hid (wrAt pend k = x) := ⟨_, rfl⟩
      have HXO : Hid (x.1 < sz ∧ x.2.length = 64) := by unfold Hid; rw [← hxe.out]; exact wrAt_ok HOK.out hkl.out
      obtain ⟨g, hg⟩ : ∃ g, a = some ⟨g, 0, none⟩ := by
        rcases XK.out.hp.2 with ⟨e, h0⟩ | ⟨g, cap, cur, e, _⟩
        · have := hkl.out; omega
        · obtain ⟨e1, -, -⟩ := Value.slice.inj e
          exact ⟨g, e1⟩
      subst hg
      have HRG : Hid (wr.rangeAt g (0 + 65 * k) (wcells x)) := by
        unfold Hid
        rw [← hxe.out]
        exact own_range2 XK.out.hp HOK.out hkl.out
      have HGL : Hid (g ≠ lB) := (XK.out.n4 g rfl).2
      have HGT : Hid (g < wr.heap.size) := (XK.out.hp.lt g rfl).2
      have IW : Hid ((Try.prog.info? 60).map (·.size) = some (wcells x).length) := infoRwr x HXO.out.2
      obtain ⟨p, hp⟩ : ∃ p, Hid (pickL picks k = p) := ⟨_, rfl⟩
      have HPR : Hid (0 ≤ p ∧ p ≤ 255) := by unfold Hid; rw [← hp.out]; exact pickL_range HPB.out k
      have HKN := Lib.hid (keptK_next picks k)
      rw [hp.out] at HKN
      have HCK : Hid (crashK last pend picks (k + 1) = putB (crashK last pend picks k) x.1 (crash1 (getB (crashK last pend picks k) x.1) x.2 p)) := by unfold Hid; rw [crashK, hxe.out, hp.out]
      have HLN : Hid ((crashK last pend picks (k + 1)).length = 64 * sz) := crashK_length HLS.out HOK.out HPB.out (k + 1) (by rw [hmm.out]; omega)
      generalize crashK last pend picks k = dk at *
      obtain ⟨dn, hdn⟩ : ∃ l, Hid (crashK last pend picks (k + 1) = l) := ⟨_, rfl⟩
      rw [hdn.out] at HCK HLN
      have p0 : 0 ≤ p := HPR.out.1
      have p1 : p ≤ 255 := HPR.out.2
      have m0 : 0 ≤ p % 64 := Int.emod_nonneg p (by decide)
      have m1 : p % 64 ≤ 63 := by have := Int.emod_lt_of_pos p (show (0 : Int) < 64 by decide); omega
      have HU2 : Hid (BytesIn wr (.slice ua pn uc) picks) := (HU.out.step HST.out).in
      by_cases h0 : pn = 0
      · obtain rfl : p = 0 := by rw [← hp.out, pickL, if_pos (hpn.out.trans h0)]
        have q0 : ¬ (0 : Int) < (pn : Int) := by omega
        have XN : Hid (Rkx wr r sz lB lc rl (.slice (some ⟨g, 0, none⟩) m c) dn pend left) := by unfold Hid; rw [HCK.out, ← crash_put0 (by decide)]; exact XK.out
        have HK2 : Hid (keptK picks (k + 1) = keptK picks k) := (HKN.out false (by decide)).trans (by rw [if_neg (by decide)]; rfl)
        clear XK HKN HU2 HRG h0
        go_wp2
        exact ⟨⟨k + 1, by omega, by go_num, by rw [HK2.out], by rw [hdn.out]; exact XN.out, HST.out⟩, by simp [intOf]; omega⟩
      · have q0 : (0 : Int) < (pn : Int) := by omega
        obtain ⟨pb, po, rfl, cz⟩ : ∃ pb po, ua = some ⟨pb, po, none⟩ ∧ wr.cell? ⟨pb, po + k % pn, none⟩ = some (.int .u8 p) := by
          obtain ⟨a', c', e, _, hr⟩ := HU2.out
          obtain ⟨e1, -, -⟩ := Value.slice.inj e
          obtain ⟨pb, po, e2, _, hr⟩ := hr (by rw [hpn.out]; omega)
          refine ⟨pb, po, e1.trans e2, ?_⟩
          have hlm : k % pn < pn := Nat.mod_lt _ (by omega)
          have h1 := hp.out
          rw [pickL, if_neg (by rw [hpn.out]; exact h0), hpn.out] at h1
          rw [← h1]
          exact hr (k % pn) _ (ints_getD (by rw [hpn.out]; exact hlm))
        have hlm : k % pn < pn := Nat.mod_lt _ (by omega)
        have EI : Hid (((k : Int) % (pn : Int)) = ((k % pn : Nat) : Int)) := rfl
        have hq : p / 64 = 0 ∨ p / 64 = 1 ∨ p / 64 = 2 ∨ p / 64 = 3 := by omega
        rcases hq with hq | hq | hq | hq
        · have s1 : (p / 64 == 1) = false := by rw [hq]; rfl
          have s2 : (p / 64 == 2) = false := by rw [hq]; rfl
          have s3 : (p / 64 == 3) = false := by rw [hq]; rfl
          have g1 : ¬ (64 ≤ p) := by omega
          have XN : Hid (Rkx wr r sz lB lc rl (.slice (some ⟨g, 0, none⟩) m c) dn pend left) := by unfold Hid; rw [HCK.out, ← crash_put0 hq]; exact XK.out
          have HK2 : Hid (keptK picks (k + 1) = keptK picks k) := (HKN.out false (decide_eq_false g1)).trans (by rw [if_neg (by decide)]; rfl)
          clear XK HKN HU2 HRG hq
          go_wp2
          exact ⟨⟨k + 1, by omega, by go_num, by rw [HK2.out], by rw [hdn.out]; exact XN.out, HST.out⟩, by simp [intOf]; omega⟩
        · have HQ := Lib.hid hq
          have s1 : (p / 64 == 1) = true := by rw [hq]; rfl
          have s2 : (p / 64 == 2) = false := by rw [hq]; rfl
          have s3 : (p / 64 == 3) = false := by rw [hq]; rfl
          have g1 : 64 ≤ p := by omega
          have HK2 : Hid (keptK picks (k + 1) = keptK picks k + 1) := (HKN.out true (decide_eq_true g1)).trans (by rw [if_pos rfl])
          clear HKN HU2 hq
          obtain ⟨n, hn⟩ : ∃ n : Nat, p % 64 = (n : Int) := Int.eq_ofNat_of_zero_le m0
          have HN64 : Hid ((p % 64).toNat = n) := by unfold Hid; rw [hn]; rfl
          have hn63 : n ≤ 63 := by omega
          go_upto_region 13 with (fail)
          refine region_begin (opsOf Try.f14 13) (Rsx r g k (rcells (64 * sz) lB lc (.slice (some ⟨g, 0, none⟩) m c) left) x) (by kernel_rfl) (by kernel_rfl) 12 (by kernel_rfl) ?_
          intro Q' hQN hN
          have hS : Rsx r g k (rcells (64 * sz) lB lc (.slice (some ⟨g, 0, none⟩) m c) left) x wr.drew := ⟨XK.out.hd, HRG.out⟩
          refine reg_now 0 (.pointer (some ⟨r, 0, none⟩)) (some 39) hQN hS (by kernel_rfl) (by kernel_rfl) (fun w => by kernel_rfl) ?_
          refine reg_now 1 (.pointer (some ⟨r, 0, none⟩)) (some 40) hQN hS (by kernel_rfl) (by kernel_rfl) (fun w => by kernel_rfl) ?_
          refine reg_now 2 (.pointer (some ⟨r, 0, none⟩)) (some 41) hQN hS (by kernel_rfl) (by kernel_rfl) (fun w => by kernel_rfl) ?_
          refine reg_nowIf 3 (.slice (some ⟨lB, 0, none⟩) (64 * sz) lc) (some 42) hQN hS (by kernel_rfl) (by kernel_rfl) (fun w' hw => exec_load_cell 34 (.tmp 41) (by kernel_rfl) r 0 (by kernel_rfl) _ (hw.d.cell rfl) _ Try.underlying34 rfl) ?_
          refine reg_now 4 (.pointer (some ⟨r, 0, none⟩)) (some 43) hQN hS (by kernel_rfl) (by kernel_rfl) (fun w => by kernel_rfl) ?_
          refine reg_now 5 (.pointer (some ⟨r, 0, none⟩)) (some 44) hQN hS (by kernel_rfl) (by kernel_rfl) (fun w => by kernel_rfl) ?_
          refine reg_now 6 (.pointer (some ⟨r, 1, none⟩)) (some 45) hQN hS (by kernel_rfl) (by kernel_rfl) (fun w => by kernel_rfl) ?_
          refine reg_nowIf 7 (.slice (some ⟨g, 0, none⟩) m c) (some 46) hQN hS (by kernel_rfl) (by kernel_rfl) (fun w' hw => exec_load_cell 45 (.tmp 45) (by kernel_rfl) r 1 (by kernel_rfl) _ (hw.d.cell rfl) _ Try.underlying45 rfl) ?_
          refine reg_now 8 (.int .i64 (k : Int)) (some 47) hQN hS (by kernel_rfl) (by kernel_rfl) (fun w => by kernel_rfl) ?_
          refine reg_now 9 (.pointer (some ⟨g, 0 + 65 * k, none⟩)) (some 48) hQN hS (by kernel_rfl) (by kernel_rfl) (fun w' => exec_indexAt 45 (.tmp 46) (.tmp 47) (by kernel_rfl) _ _ _ (by kernel_rfl) (by kernel_rfl) (run_at_rwr g 0 m c k hlt w')) ?_
          refine reg_nowIf 10 (.agg (wcells x).toArray) (some 49) hQN hS (by kernel_rfl) (by kernel_rfl) (fun w' hw => exec_load_mid 60 (.tmp 48) (by kernel_rfl) g (0 + 65 * k) (by kernel_rfl) (wcells x) _ hw.g Try.underlying60 rfl IW.out) ?_
          refine reg_call 11 30 #[.slice (some ⟨lB, 0, none⟩) (64 * sz) lc, .agg (wcells x).toArray, .int .i64 0, .int .i64 64] (some 50) _ (by kernel_rfl) (by kernel_rfl) (by kernel_rfl) (rput_walk lB (64 * sz) lc 0 64 dk rl x wr.drew XK.out.hl XK.out.ls HXO.out.2 (by have := HXO.out.1; omega) (by omega) (by omega)) ?_
          rintro e W2 ⟨rfl, hb2, hu2⟩
          have HU0 : Upd lB wr W2 := ((Upd.refl lB wr).drew).trans hu2
          have EQ : putP dk x 0 64 = dn := by rw [HCK.out]; exact crash_put1 HXO.out.2 HQ.out
          rw [EQ] at hb2
          refine ⟨_, rfl, ⟨HU0.blk XK.out.hd XK.out.n1, fun j v hv => by rw [HU0.cell (p := ⟨g, 0 + 65 * k + j, none⟩) HGT.out HGL.out]; exact HRG.out j v hv⟩, ?_⟩
          refine reg_done (by kernel_rfl) (hN _ _ ?_)
          have XN := Lib.hid (XK.out.last' HLN.out HU0 hb2)
          have ST2 := Lib.hid (HST.out.trans (Step.of_upd (F := rfoot r lB (.slice (some ⟨g, 0, none⟩) m c)) HU0 (by simp [rfoot])))
          clear hQN hN hS XK HST hb2 hu2 HU0 EQ HRG cz c1 HGT
          generalize hact : Act.put _ (some 50) _ = act
          simp only [Act.put, List.setIfInBounds_toArray, List.set_cons_succ, List.set_cons_zero] at hact
          subst hact
          go_wp2
          exact ⟨⟨k + 1, by omega, by go_num, by rw [HK2.out]; go_num, by rw [hdn.out]; exact XN.out, ST2.out⟩, by simp [intOf]; omega⟩
        · have HQ := Lib.hid hq
          have s1 : (p / 64 == 1) = false := by rw [hq]; rfl
          have s2 : (p / 64 == 2) = true := by rw [hq]; rfl
          have s3 : (p / 64 == 3) = false := by rw [hq]; rfl
          have g1 : 64 ≤ p := by omega
          have HK2 : Hid (keptK picks (k + 1) = keptK picks k + 1) := (HKN.out true (decide_eq_true g1)).trans (by rw [if_pos rfl])
          clear HKN HU2 hq
          obtain ⟨n, hn⟩ : ∃ n : Nat, p % 64 = (n : Int) := Int.eq_ofNat_of_zero_le m0
          have HN64 : Hid ((p % 64).toNat = n) := by unfold Hid; rw [hn]; rfl
          have hn63 : n ≤ 63 := by omega
          go_upto_region 15 with (fail)
          refine region_begin (opsOf Try.f14 15) (Rsx r g k (rcells (64 * sz) lB lc (.slice (some ⟨g, 0, none⟩) m c) left) x) (by kernel_rfl) (by kernel_rfl) 13 (by kernel_rfl) ?_
          intro Q' hQN hN
          have hS : Rsx r g k (rcells (64 * sz) lB lc (.slice (some ⟨g, 0, none⟩) m c) left) x wr.drew := ⟨XK.out.hd, HRG.out⟩
          refine reg_now 0 (.pointer (some ⟨r, 0, none⟩)) (some 53) hQN hS (by kernel_rfl) (by kernel_rfl) (fun w => by kernel_rfl) ?_
          refine reg_now 1 (.pointer (some ⟨r, 0, none⟩)) (some 54) hQN hS (by kernel_rfl) (by kernel_rfl) (fun w => by kernel_rfl) ?_
          refine reg_now 2 (.pointer (some ⟨r, 0, none⟩)) (some 55) hQN hS (by kernel_rfl) (by kernel_rfl) (fun w => by kernel_rfl) ?_
          refine reg_nowIf 3 (.slice (some ⟨lB, 0, none⟩) (64 * sz) lc) (some 56) hQN hS (by kernel_rfl) (by kernel_rfl) (fun w' hw => exec_load_cell 34 (.tmp 55) (by kernel_rfl) r 0 (by kernel_rfl) _ (hw.d.cell rfl) _ Try.underlying34 rfl) ?_
          refine reg_now 4 (.pointer (some ⟨r, 0, none⟩)) (some 57) hQN hS (by kernel_rfl) (by kernel_rfl) (fun w => by kernel_rfl) ?_
          refine reg_now 5 (.pointer (some ⟨r, 0, none⟩)) (some 58) hQN hS (by kernel_rfl) (by kernel_rfl) (fun w => by kernel_rfl) ?_
          refine reg_now 6 (.pointer (some ⟨r, 1, none⟩)) (some 59) hQN hS (by kernel_rfl) (by kernel_rfl) (fun w => by kernel_rfl) ?_
          refine reg_nowIf 7 (.slice (some ⟨g, 0, none⟩) m c) (some 60) hQN hS (by kernel_rfl) (by kernel_rfl) (fun w' hw => exec_load_cell 45 (.tmp 59) (by kernel_rfl) r 1 (by kernel_rfl) _ (hw.d.cell rfl) _ Try.underlying45 rfl) ?_
          refine reg_now 8 (.int .i64 (k : Int)) (some 61) hQN hS (by kernel_rfl) (by kernel_rfl) (fun w => by kernel_rfl) ?_
          refine reg_now 9 (.pointer (some ⟨g, 0 + 65 * k, none⟩)) (some 62) hQN hS (by kernel_rfl) (by kernel_rfl) (fun w' => exec_indexAt 45 (.tmp 60) (.tmp 61) (by kernel_rfl) _ _ _ (by kernel_rfl) (by kernel_rfl) (run_at_rwr g 0 m c k hlt w')) ?_
          refine reg_nowIf 10 (.agg (wcells x).toArray) (some 63) hQN hS (by kernel_rfl) (by kernel_rfl) (fun w' hw => exec_load_mid 60 (.tmp 62) (by kernel_rfl) g (0 + 65 * k) (by kernel_rfl) (wcells x) _ hw.g Try.underlying60 rfl IW.out) ?_
          refine reg_now 11 (.int .i64 (n : Int)) (some 64) hQN hS (by kernel_rfl) (by kernel_rfl) (fun w => by kernel_rfl) ?_
          refine reg_call 12 30 #[.slice (some ⟨lB, 0, none⟩) (64 * sz) lc, .agg (wcells x).toArray, .int .i64 0, .int .i64 (n : Int)] (some 65) _ (by kernel_rfl) (by kernel_rfl) (by kernel_rfl) (rput_walk lB (64 * sz) lc 0 n dk rl x wr.drew XK.out.hl XK.out.ls HXO.out.2 (by have := HXO.out.1; omega) (by omega) (by omega)) ?_
          rintro e W2 ⟨rfl, hb2, hu2⟩
          have HU0 : Upd lB wr W2 := ((Upd.refl lB wr).drew).trans hu2
          have EQ : putP dk x 0 n = dn := by rw [HCK.out, ← HN64.out]; exact crash_put2 (by omega) HQ.out
          rw [EQ] at hb2
          refine ⟨_, rfl, ⟨HU0.blk XK.out.hd XK.out.n1, fun j v hv => by rw [HU0.cell (p := ⟨g, 0 + 65 * k + j, none⟩) HGT.out HGL.out]; exact HRG.out j v hv⟩, ?_⟩
          refine reg_done (by kernel_rfl) (hN _ _ ?_)
          have XN := Lib.hid (XK.out.last' HLN.out HU0 hb2)
          have ST2 := Lib.hid (HST.out.trans (Step.of_upd (F := rfoot r lB (.slice (some ⟨g, 0, none⟩) m c)) HU0 (by simp [rfoot])))
          clear hQN hN hS XK HST hb2 hu2 HU0 EQ HRG cz c1 HGT
          generalize hact : Act.put _ (some 65) _ = act
          simp only [Act.put, List.setIfInBounds_toArray, List.set_cons_succ, List.set_cons_zero] at hact
          subst hact
          go_wp2
          exact ⟨⟨k + 1, by omega, by go_num, by rw [HK2.out]; go_num, by rw [hdn.out]; exact XN.out, ST2.out⟩, by simp [intOf]; omega⟩
        · have HQ := Lib.hid hq
          have s1 : (p / 64 == 1) = false := by rw [hq]; rfl
          have s2 : (p / 64 == 2) = false := by rw [hq]; rfl
          have s3 : (p / 64 == 3) = true := by rw [hq]; rfl
          have g1 : 64 ≤ p := by omega
          have HK2 : Hid (keptK picks (k + 1) = keptK picks k + 1) := (HKN.out true (decide_eq_true g1)).trans (by rw [if_pos rfl])
          clear HKN HU2 hq
          obtain ⟨n, hn⟩ : ∃ n : Nat, p % 64 = (n : Int) := Int.eq_ofNat_of_zero_le m0
          have HN64 : Hid ((p % 64).toNat = n) := by unfold Hid; rw [hn]; rfl
          have hn63 : n ≤ 63 := by omega
          go_upto_region 17 with (fail)
          refine region_begin (opsOf Try.f14 17) (Rsx r g k (rcells (64 * sz) lB lc (.slice (some ⟨g, 0, none⟩) m c) left) x) (by kernel_rfl) (by kernel_rfl) 15 (by kernel_rfl) ?_
          intro Q' hQN hN
          have hS : Rsx r g k (rcells (64 * sz) lB lc (.slice (some ⟨g, 0, none⟩) m c) left) x wr.drew := ⟨XK.out.hd, HRG.out⟩
          refine reg_now 0 (.pointer (some ⟨r, 0, none⟩)) (some 68) hQN hS (by kernel_rfl) (by kernel_rfl) (fun w => by kernel_rfl) ?_
          refine reg_now 1 (.pointer (some ⟨r, 0, none⟩)) (some 69) hQN hS (by kernel_rfl) (by kernel_rfl) (fun w => by kernel_rfl) ?_
          refine reg_now 2 (.pointer (some ⟨r, 0, none⟩)) (some 70) hQN hS (by kernel_rfl) (by kernel_rfl) (fun w => by kernel_rfl) ?_
          refine reg_nowIf 3 (.slice (some ⟨lB, 0, none⟩) (64 * sz) lc) (some 71) hQN hS (by kernel_rfl) (by kernel_rfl) (fun w' hw => exec_load_cell 34 (.tmp 70) (by kernel_rfl) r 0 (by kernel_rfl) _ (hw.d.cell rfl) _ Try.underlying34 rfl) ?_
          refine reg_now 4 (.pointer (some ⟨r, 0, none⟩)) (some 72) hQN hS (by kernel_rfl) (by kernel_rfl) (fun w => by kernel_rfl) ?_
          refine reg_now 5 (.pointer (some ⟨r, 0, none⟩)) (some 73) hQN hS (by kernel_rfl) (by kernel_rfl) (fun w => by kernel_rfl) ?_
          refine reg_now 6 (.pointer (some ⟨r, 1, none⟩)) (some 74) hQN hS (by kernel_rfl) (by kernel_rfl) (fun w => by kernel_rfl) ?_
          refine reg_nowIf 7 (.slice (some ⟨g, 0, none⟩) m c) (some 75) hQN hS (by kernel_rfl) (by kernel_rfl) (fun w' hw => exec_load_cell 45 (.tmp 74) (by kernel_rfl) r 1 (by kernel_rfl) _ (hw.d.cell rfl) _ Try.underlying45 rfl) ?_
          refine reg_now 8 (.int .i64 (k : Int)) (some 76) hQN hS (by kernel_rfl) (by kernel_rfl) (fun w => by kernel_rfl) ?_
          refine reg_now 9 (.pointer (some ⟨g, 0 + 65 * k, none⟩)) (some 77) hQN hS (by kernel_rfl) (by kernel_rfl) (fun w' => exec_indexAt 45 (.tmp 75) (.tmp 76) (by kernel_rfl) _ _ _ (by kernel_rfl) (by kernel_rfl) (run_at_rwr g 0 m c k hlt w')) ?_
          refine reg_nowIf 10 (.agg (wcells x).toArray) (some 78) hQN hS (by kernel_rfl) (by kernel_rfl) (fun w' hw => exec_load_mid 60 (.tmp 77) (by kernel_rfl) g (0 + 65 * k) (by kernel_rfl) (wcells x) _ hw.g Try.underlying60 rfl IW.out) ?_
          refine reg_now 11 (.int .i64 (n : Int)) (some 79) hQN hS (by kernel_rfl) (by kernel_rfl) (fun w => by kernel_rfl) ?_
          refine reg_now 12 (.int .i64 (IntKind.i64.wrap (64 - (n : Int)))) (some 80) hQN hS (by kernel_rfl) (by kernel_rfl) (fun w => by kernel_rfl) ?_
          rw [show IntKind.i64.wrap (64 - (n : Int)) = ((64 - n : Nat) : Int) from by rw [IntWalk.i64_in _ (by omega)]; omega]
          refine reg_now 13 (.int .i64 (n : Int)) (some 81) hQN hS (by kernel_rfl) (by kernel_rfl) (fun w => by kernel_rfl) ?_
          refine reg_call 14 30 #[.slice (some ⟨lB, 0, none⟩) (64 * sz) lc, .agg (wcells x).toArray, .int .i64 ((64 - n : Nat) : Int), .int .i64 (n : Int)] (some 82) _ (by kernel_rfl) (by kernel_rfl) (by kernel_rfl) (rput_walk lB (64 * sz) lc (64 - n) n dk rl x wr.drew XK.out.hl XK.out.ls HXO.out.2 (by have := HXO.out.1; omega) (by omega) (by omega)) ?_
          rintro e W2 ⟨rfl, hb2, hu2⟩
          have HU0 : Upd lB wr W2 := ((Upd.refl lB wr).drew).trans hu2
          have EQ : putP dk x (64 - n) n = dn := by rw [HCK.out, ← HN64.out]; exact crash_put3 HXO.out.2 (by omega) HQ.out
          rw [EQ] at hb2
          refine ⟨_, rfl, ⟨HU0.blk XK.out.hd XK.out.n1, fun j v hv => by rw [HU0.cell (p := ⟨g, 0 + 65 * k + j, none⟩) HGT.out HGL.out]; exact HRG.out j v hv⟩, ?_⟩
          refine reg_done (by kernel_rfl) (hN _ _ ?_)
          have XN := Lib.hid (XK.out.last' HLN.out HU0 hb2)
          have ST2 := Lib.hid (HST.out.trans (Step.of_upd (F := rfoot r lB (.slice (some ⟨g, 0, none⟩) m c)) HU0 (by simp [rfoot])))
          clear hQN hN hS XK HST hb2 hu2 HU0 EQ HRG cz c1 HGT
          generalize hact : Act.put _ (some 82) _ = act
          simp only [Act.put, List.setIfInBounds_toArray, List.set_cons_succ, List.set_cons_zero] at hact
          subst hact
          go_wp2
          exact ⟨⟨k + 1, by omega, by go_num, by rw [HK2.out]; go_num, by rw [hdn.out]; exact XN.out, ST2.out⟩, by simp [intOf]; omega⟩
    · have q1 : ¬ (k : Int) < (m : Int) := by omega
      obtain rfl : k = m := by omega
      have f1 := XK.out.hd.free 1
      have c2 := XK.out.c2
      have f2 := XK.out.hd.free 2
      have HN := Lib.hid (XK.out.gone.limit (-1))
      have ST : Hid (Step (rfoot r lB (.slice a k c)) w (rfoot r lB (.slice none 0 0)) _) := (HST.out.trans ((Step.of_upd ((Upd.refl r wr).setCell 1 (.slice none 0 0)) (by simp [rfoot])).trans (Step.of_upd ((Upd.refl r _).setCell 2 (.int .i64 (-1))) (by simp [rfoot])))).sub (rfoot_none r lB _)
      clear XK HST
      go_wp2
      go_ret
      exact ⟨rfl, _, ⟨lB, lc, rl, _, rfl, HN.out⟩, ST.out⟩
end Go.Proofs.Ytpbilngjjlabiaa
