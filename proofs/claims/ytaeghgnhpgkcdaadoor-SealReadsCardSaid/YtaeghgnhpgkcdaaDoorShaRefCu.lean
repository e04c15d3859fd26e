/- The reference's cube and constants. -/
import Derived.Test.YtaeghgnhpgkcdaaDoorShaRefBe
namespace Go.Proofs.YtaeghgnhpgkcdaaDoor
open Go.RowKit
set_option maxRecDepth 100000

def cuX (y : Int) (m : Nat) : Int := IntKind.u64.wrap (y + IntKind.u64.wrap (2 ^ m))
def cuStep (p y : Int) (m : Nat) : Int := if beF (cuX y m) p = true then cuX y m else y
def cuRun (p : Int) : Nat → Int → Int
  | 0, y => y
  | m + 1, y => cuRun p m (cuStep p y m)
def cuW (p : Int) : Int := IntKind.u32.wrap (cuRun p 35 0)

set_option maxHeartbeats 400000 in
theorem cube_walk (p : Int) (w : World) :
    Calls Tryd.prog 50 #[.int .u64 p] w fun e w' => e = .returned (.int .u32 (cuW p)) ∧ Below w.heap.size w w' := by
  go_enter Tryd.func50, Tryd.ntmps50
  go_wp2
  go_loopw [3, 4] (fun x i wr => ∃ (m : Nat) (z y : Int), m ≤ 35 ∧ i = .int .i64 z ∧ z = (m : Int) - 1 ∧ x = .int .u64 y ∧ cuRun p m y = cuRun p 35 0 ∧ Below w.heap.size w wr) (fun _ i _ => (intOf i + 1).toNat)
  case atStart => exact ⟨35, 34, 0, by omega, rfl, rfl, rfl, rfl, Below.refl _ _⟩
  case round =>
    obtain ⟨m, z, y, hm, rfl, hz, rfl, hr, hbel⟩ := hrel
    have HR := Lib.hid hr
    have HB := Lib.hid hbel
    clear hr hbel
    cases m with
    | zero =>
      have : z = -1 := by omega
      subst this; clear hz
      go_wp2
      go_ret
      exact ⟨by rw [cuW, ← HR.out]; rfl, HB.out⟩
    | succ m =>
      have : z = (m : Int) := by omega
      subst this; clear hz
      have q1 : 0 ≤ (m : Int) := by omega
      have q2 : (m : Int) < 64 := by omega
      go_wp2_with fail
      refine (below_walk (cuX y m) p _).mono ?_
      rintro e w1 ⟨rfl, hb1⟩
      have HB1 := Lib.hid (HB.out.trans (hb1.mono HB.out.size))
      clear hb1 HB
      by_cases hbf : beF (cuX y m) p = true
      · have HR2 : Hid (cuRun p m (cuX y m) = cuRun p 35 0) := by
          have := HR.out
          rw [cuRun, cuStep, if_pos hbf] at this
          exact this
        rw [hbf]
        clear hbf HR
        go_wp2
        exact ⟨⟨m, (m : Int) - 1, cuX y m, by omega, rfl, rfl, rfl, HR2.out, HB1.out⟩, by simp [intOf]⟩
      · have HR2 : Hid (cuRun p m y = cuRun p 35 0) := by
          have := HR.out
          rw [cuRun, cuStep, if_neg hbf] at this
          exact this
        rw [show beF (cuX y m) p = false by simpa using hbf]
        clear hbf HR
        go_wp2
        exact ⟨⟨m, (m : Int) - 1, y, by omega, rfl, rfl, rfl, HR2.out, HB1.out⟩, by simp [intOf]⟩

theorem infoU32 : (Tryd.prog.info? 65).map (fun i => (i.zero, i.size, i.bytes)) = some (some (.int .u32 0), 1, 4) := by kernel_rfl
def coTo (ps : List Int) : Nat → List Int
  | 0 => []
  | k + 1 => coTo ps k ++ [cuW (ps[k]?.getD 0)]
theorem coTo_length (ps : List Int) (k : Nat) : (coTo ps k).length = k := by
  induction k with
  | zero => rfl
  | succ k ih => simp [coTo, ih]
set_option maxHeartbeats 1000000 in
theorem constants_any (ps : List Int) (hps : Hid (prAll 64 320 2 [] = ps)) (hpl : ps.length = 64) (w : World) :
    Calls Tryd.prog 42 #[] w fun e w' => ∃ v, e = .returned v ∧ Own w' w.heap.size 65 .u32 v (coTo ps 64) ∧ Below w.heap.size w w' := by
  have HPL := Lib.hid hpl
  clear hpl
  go_enter Tryd.func42, Tryd.ntmps42
  go_wp2_with fail
  refine (primes_walk 64 (by omega) prAll_64 _).mono ?_
  rintro e w1 ⟨v, rfl, ⟨g, cap, rfl, hown⟩, hbel⟩
  rw [hps.out] at hown ⊢
  rw [HPL.out] at hown ⊢
  have HG := Lib.hid (hown.lt g rfl).2
  have HO := Lib.hid hown
  have HB := Lib.hid hbel
  clear hown hbel
  go_wp2
  go_loopw [2, 3] (fun v i wr => ∃ k : Nat, k ≤ 64 ∧ i = .int .i64 k ∧ Own wr w1.heap.size 65 .u32 v (coTo ps k) ∧ Below w1.heap.size w1 wr) (fun _ i _ => 64 - (intOf i).toNat)
  case atStart => exact ⟨0, by omega, rfl, Own.empty _ _ _ _ (Nat.le_refl _), (Below.refl _ _).alloc (Nat.le_refl _) _⟩
  case round =>
    obtain ⟨k, hk, rfl, hv, hbel⟩ := hrel
    by_cases hlt : k < 64
    · have q1 : (k : Int) < 64 := by omega
      have c1 : wr.cell? ⟨g, k, none⟩ = some (.int .u64 (ps.getD k 0)) := by
        rw [hbel.cell (p := ⟨g, k, none⟩) HG.out]; exact Own.cell HO.out (by rw [HPL.out]; omega)
      have HV := Lib.hid hv
      have HBE := Lib.hid hbel
      clear hv hbel
      go_wp2_with fail
      refine (cube_walk _ _).mono ?_
      rintro e w2 ⟨rfl, hb2⟩
      obtain ⟨xs, hxs⟩ : ∃ xs, Hid (xs = coTo ps k) := ⟨_, rfl⟩
      have HL : Hid (xs.length = k) := by unfold Hid; rw [hxs.out, coTo_length]
      rw [← hxs.out] at HV
      have HV2 := Lib.hid ((HV.out.below hb2).below ((Below.refl w2.heap.size w2).alloc (Nat.le_refl _) (.cells #[.int .u32 (cuW (ps[k]?.getD 0))] 65)))
      have HB2 := Lib.hid ((HBE.out.trans (hb2.mono HBE.out.size)).alloc (Nat.le_trans HBE.out.size hb2.size) (.cells #[.int .u32 (cuW (ps[k]?.getD 0))] 65))
      have HSZ := Lib.hid (Nat.le_trans HBE.out.size hb2.size)
      obtain ⟨nxt, hnx⟩ : ∃ z, Hid (z = cuW (ps[k]?.getD 0)) := ⟨_, rfl⟩
      have HNX : Hid (coTo ps (k + 1) = xs ++ [nxt]) := by
        unfold Hid; rw [coTo, hxs.out, hnx.out]
      rw [← hnx.out] at HV2 HB2 ⊢
      obtain ⟨g2, c2, rfl, -⟩ := id HV.out
      rw [HL.out] at HV2 ⊢
      clear hb2 HV HBE c1
      go_wp2_with (with_reducible refine wpList_append_one (o := ⟨some 17, _, _, _, _, _⟩) ?a1 (.tmp 10) (.tmp 16) 63 65 ?a2 .u32 4 Tryd.underlying63 infoU32 (by decide) w1.heap.size (.slice (some ⟨g2, 0, none⟩) k c2) xs ?a3 HV2.out ⟨w2.heap.size, 0, none⟩ 1 nxt ?a4 ?a5 ?a6 ?a7 ?_)
      case a1 => rfl
      case a2 => rfl
      all_goals try (case a3 => rfl)
      all_goals try (case a4 => rfl)
      all_goals try (case a5 => simp [Addr.add])
      case a6 => rw [HL.out]; omega
      case a7 => have := HSZ.out; simp; omega
      intro v' w3 ho3 hb3
      have HO3 : Hid (Own w3 w1.heap.size 65 .u32 v' (coTo ps (k + 1))) := by unfold Hid; rw [HNX.out]; exact ho3
      have HB3 := Lib.hid (hb3 _ _ HB2.out (Nat.le_refl _))
      clear ho3 hb3 HV2 HB2
      go_wp2
      exact ⟨⟨k + 1, by omega, by simp, HO3.out, HB3.out⟩, by simp [intOf]; omega⟩
    · have q1 : ¬ (k : Int) < 64 := by omega
      obtain ⟨g2, c2, rfl, hle, h⟩ := hv
      have HV : Hid (Own wr w.heap.size 65 .u32 (.slice (some ⟨g2, 0, none⟩) (coTo ps k).length c2) (coTo ps 64)) := by
        have e : k = 64 := by omega
        subst e
        refine ⟨g2, c2, rfl, hle, ?_⟩
        rcases h with h | ⟨g', cap', cur, h1, h2, h3⟩
        · exact .inl h
        · exact .inr ⟨g', cap', cur, h1, Nat.le_trans HB.out.size h2, h3⟩
      have HBE := Lib.hid (HB.out.trans (hbel.mono HB.out.size))
      clear hle h hbel
      go_wp2
      go_ret
      exact ⟨_, rfl, HV.out, HBE.out⟩
end Go.Proofs.YtaeghgnhpgkcdaaDoor
