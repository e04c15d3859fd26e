/- TagUnframes answers true. -/
import Derived.Test.YtmaobmeaanafcaaDoorTagRuf
import Derived.Test.YtmaobmeaanafcaaDoorTagNod
namespace Go.Proofs.YtmaobmeaanafcaaDoor
open Go Go.RowKit
set_option maxRecDepth 100000

theorem unframes_big (a : Option Addr) (m c : Nat) (w : World) (hm : 2000 < m) (hK : KW w) : Calls Tryd.prog 5 #[.slice a m c] w fun e w' => e = .returned (.bool true) ∧ Below w.heap.size w w' := by
  have q : (2000 : Int) < (m : Int) := by omega
  have HK := Lib.hid hK
  clear hK
  go_enter Tryd.func5, Tryd.ntmps5
  go_wp2_with fail
  refine (talive_walk _ HK.out).mono ?_
  rintro e w1 ⟨rfl, hb1⟩
  have BEL1 := Lib.hid hb1
  clear hb1
  go_wp2
  go_ret
  exact ⟨rfl, BEL1.out⟩
set_option maxHeartbeats 2000000 in
theorem unframes_main (v : Value) (zs : List Int) (w : World) (hv : BytesIn w v zs) (hn : NilOk v) (hb : isBytes zs) (hK : KW w) :
    Calls Tryd.prog 5 #[v] w fun e w' => e = .returned (.bool true) ∧ Below w.heap.size w w' := by
  obtain ⟨a, c, rfl, -⟩ := id hv
  by_cases hl : zs.length ≤ 2000
  · have HV := Lib.hid hv
    have HN := Lib.hid hn
    have HB := Lib.hid hb
    have HK := Lib.hid hK
    obtain ⟨m, hm⟩ : ∃ m, Hid (zs.length = m) := ⟨_, rfl⟩
    have HL := Lib.hid hl
    rw [hm.out] at hl HV HN ⊢
    have q : ¬ ((2000 : Int) < (m : Int)) := by omega
    clear hv hn hb hK
    go_enter Tryd.func5, Tryd.ntmps5
    go_wp2_with fail
    refine (talive_walk _ HK.out).mono ?_
    rintro e w1 ⟨rfl, hb1⟩
    have BEL1 := Lib.hid hb1
    clear hb1
    go_wp2_with fail
    refine (copyb_walk _ zs _ (HV.out.below BEL1.out (Nat.le_refl _)) HN.out (by have := HL.out; omega)).mono ?_
    rintro e w2 ⟨ov, rfl, ho, hb2⟩
    obtain ⟨oa, oc, rfl, -⟩ := id (owns_bytes ho)
    have BEL2 := Lib.hid (BEL1.out.trans (hb2.mono BEL1.out.size))
    have O2 := Lib.hid (owns_bytes ho)
    clear ho hb2 BEL1
    rw [hm.out] at O2 ⊢
    go_wp2_with fail
    refine (unframe_walk _ zs _ O2.out HB.out (by have := HL.out; omega)).mono ?_
    cases hU : unframeL zs with
    | none =>
      have HU := Lib.hid hU
      clear hU
      rintro e w3 ⟨rfl, hb3⟩
      have BEL3 := Lib.hid (BEL2.out.trans (hb3.mono BEL2.out.size))
      have O3 := Lib.hid (O2.out.below hb3 (Nat.le_refl _))
      clear hb3 BEL2 O2
      have HR := Lib.hid (runframe_walk _ zs _ (HV.out.below BEL3.out (Nat.le_refl _)) HB.out (by have := HL.out; omega))
      rw [HU.out] at HR
      go_wp2_with fail
      refine HR.out.mono ?_
      rintro e w4 ⟨rfl, hb4⟩
      have BEL4 := Lib.hid (BEL3.out.trans (hb4.mono BEL3.out.size))
      have O4 := Lib.hid (O3.out.below hb4 (Nat.le_refl _))
      clear hb4 BEL3 O3 HR
      go_wp2_with fail
      refine (same_walk _ _ [] [] _ (parts_none _) (parts_none _)).mono ?_
      rintro e w5 ⟨rfl, n5, rfl⟩
      rw [show decide (([] : List (List Int)) = []) = true from decide_eq_true rfl]
      go_wp2_with fail
      refine (sameb_walk _ _ zs zs _ (O4.out.drewN n5) ((HV.out.below BEL4.out (Nat.le_refl _)).drewN n5) (by have := HL.out; omega)).mono ?_
      rintro e w6 ⟨rfl, n6, rfl⟩
      rw [show decide (zs = zs) = true from decide_eq_true rfl]
      have BEL6 : Hid (Below w.heap.size w ((w4.drewN n5).drewN n6)) := below_quiet (below_quiet BEL4.out ⟨_, rfl⟩) ⟨_, rfl⟩
      generalize (w4.drewN n5).drewN n6 = w7 at BEL6 ⊢
      go_wp2
      go_ret
      exact ⟨rfl, BEL6.out⟩
    | some ps =>
      have HU := Lib.hid hU
      clear hU
      rintro e w3 ⟨lv, rfl, hlv, hb3⟩
      have BEL3 := Lib.hid (BEL2.out.trans (hb3.mono BEL2.out.size))
      have O3 := Lib.hid (O2.out.below hb3 (Nat.le_refl _))
      have L3 := Lib.hid hlv
      clear hb3 BEL2 O2 hlv
      have HR := Lib.hid (runframe_walk _ zs _ (HV.out.below BEL3.out (Nat.le_refl _)) HB.out (by have := HL.out; omega))
      rw [HU.out] at HR
      have HF := Lib.hid (unframe_back zs ps HB.out HU.out)
      have HS := Lib.hid (frameL_sizes ps zs HF.out)
      go_wp2_with fail
      refine HR.out.mono ?_
      rintro e w4 ⟨mv, rfl, hmv, hb4⟩
      have BEL4 := Lib.hid (BEL3.out.trans (hb4.mono BEL3.out.size))
      have O4 := Lib.hid (O3.out.below hb4 (Nat.le_refl _))
      have L4 := Lib.hid (L3.out.below hb4 (Nat.le_refl _))
      have M4 := Lib.hid hmv
      clear hb4 BEL3 O3 HR L3 hmv
      go_wp2_with fail
      refine (same_walk _ _ ps ps _ L4.out M4.out).mono ?_
      rintro e w5 ⟨rfl, n5, rfl⟩
      rw [show decide (ps = ps) = true from decide_eq_true rfl]
      go_wp2_with fail
      refine (sameb_walk _ _ zs zs _ (O4.out.drewN n5) ((HV.out.below BEL4.out (Nat.le_refl _)).drewN n5) (by have := HL.out; omega)).mono ?_
      rintro e w6 ⟨rfl, n6, rfl⟩
      rw [show decide (zs = zs) = true from decide_eq_true rfl]
      have BEL6 : Hid (Below w.heap.size w ((w4.drewN n5).drewN n6)) := below_quiet (below_quiet BEL4.out ⟨_, rfl⟩) ⟨_, rfl⟩
      have L6 : Hid (PartsIn ((w4.drewN n5).drewN n6) lv ps) := (L4.out.drewN n5).drewN n6
      clear BEL4 L4 O4 M4
      generalize (w4.drewN n5).drewN n6 = w7 at BEL6 L6 ⊢
      go_wp2_with fail
      refine (frame_walk _ ps _ L6.out (by have := HS.out; have := HL.out; omega) (by have := HS.out; have := HL.out; omega)).mono ?_
      rintro e w8 ⟨fv, rfl, hf, hb8⟩
      obtain ⟨fa, fc, rfl, -⟩ := id (owns_bytes hf)
      have BEL8 := Lib.hid (BEL6.out.trans (hb8.mono BEL6.out.size))
      have F8 := Lib.hid (owns_bytes hf)
      clear hf hb8 BEL6 L6
      rw [HF.out] at F8 ⊢
      rw [hm.out] at F8 ⊢
      go_wp2_with fail
      refine (sameb_walk _ _ zs zs _ F8.out (HV.out.below BEL8.out (Nat.le_refl _)) (by have := HL.out; omega)).mono ?_
      rintro e w9 ⟨rfl, n9, rfl⟩
      rw [show decide (zs = zs) = true from decide_eq_true rfl]
      go_wp2
      go_ret
      exact ⟨rfl, below_quiet BEL8.out ⟨_, rfl⟩⟩
  · exact unframes_big a _ c w (by omega) hK
end Go.Proofs.YtmaobmeaanafcaaDoor
