/- ShaPads -/
import Derived.Test.YtldnpipbondjnaaDoorShaAlive
import Derived.Test.YtldnpipbondjnaaDoorShaMath2
namespace Go.Proofs.YtldnpipbondjnaaDoor
open Go.RowKit

theorem pads_none (n : Int) (h : n < 0 ∨ 1125899906842624 < n) (w : World) (hK : KW w) :
    Calls Tryd.prog 6 #[.int .i64 n] w fun e w' => e = .returned (.bool true) ∧ Below w.heap.size w w' := by
  have HK := Lib.hid hK
  clear hK
  have HH := Lib.hid h
  rcases h with h | h
  · go_enter Tryd.func6, Tryd.ntmps6
    go_wp2_with fail
    refine (alive_walk _ HK.out).mono ?_
    rintro e w1 ⟨rfl, hb1⟩
    have HB := Lib.hid hb1
    clear hb1
    go_wp2_with fail
    refine (pad_none n HH.out _).mono ?_
    rintro e w2 ⟨rfl, rfl⟩
    go_wp2
    go_ret
    exact ⟨rfl, HB.out⟩
  · have h' : ¬ n < 0 := by omega
    go_enter Tryd.func6, Tryd.ntmps6
    go_wp2_with fail
    refine (alive_walk _ HK.out).mono ?_
    rintro e w1 ⟨rfl, hb1⟩
    have HB := Lib.hid hb1
    clear hb1
    go_wp2_with fail
    refine (pad_none n HH.out _).mono ?_
    rintro e w2 ⟨rfl, rfl⟩
    go_wp2
    go_ret
    exact ⟨rfl, HB.out⟩

set_option maxHeartbeats 1000000 in
theorem pads_some (n : Nat) (h : n ≤ 1125899906842624) (w : World) (hK : KW w) :
    Calls Tryd.prog 6 #[.int .i64 (n : Int)] w fun e w' => e = .returned (.bool true) ∧ Below w.heap.size w w' := by
  have HK := Lib.hid hK
  clear hK
  have h1 : ¬ ((n : Int) < 0) := by omega
  have h2 : ¬ (1125899906842624 < (n : Int)) := by omega
  go_enter Tryd.func6, Tryd.ntmps6
  go_wp2_with fail
  refine (alive_walk _ HK.out).mono ?_
  rintro e w1 ⟨rfl, hb1⟩
  have HB := Lib.hid hb1
  clear hb1
  go_wp2_with fail
  refine (pad_some n h _).mono ?_
  rintro e w2 ⟨b, hb, rfl, hbl, hbel⟩
  have HB2 := Lib.hid (HB.out.trans (hbel.mono HB.out.size))
  have HBL := Lib.hid hbl
  have hz := Sha.padSize_bounds n
  have hmod : (n + Sha.padSize n) % 64 = 0 := Sha.padSize_mod n
  have c0 : w2.cell? ⟨b, 0, none⟩ = some (.int .u8 128) := hbl.cell (ints_get (Sha.pad_zero n))
  obtain ⟨z, ez⟩ : ∃ z, Hid (z = Sha.padSize n) := ⟨_, rfl⟩
  rw [← ez.out] at hz hmod ⊢
  obtain ⟨hz9, hz72⟩ := hz
  have t1 : ((n : Int) + (z : Int)) % 64 = 0 := by omega
  clear hbl hbel hb hmod
  go_wp2
  go_loop [4, 5] (fun bt i => ∃ k : Nat, k ≤ z ∧ i = .int .i64 k ∧ bt = .int .i64 (Sha.gathered n z k)) (fun _ i => z - (intOf i).toNat)
  case atStart => exact ⟨0, by omega, rfl, by rw [Sha.gathered_early n z 0 h hz9 (by omega)]⟩
  case round =>
    obtain ⟨k, hk, rfl, rfl⟩ := hrel
    have hg := Sha.gathered_bound n z k h
    by_cases hlt : k < z
    · have ck := HBL.out.cell (ints_get (Sha.pad_get n k (by rw [← ez.out]; exact hlt)))
      rw [← ez.out] at ck
      have q0 : (k : Int) < (z : Int) := by omega
      by_cases hA : z - 8 ≤ k
      · rw [if_neg (by omega), if_pos hA] at ck
        have q1 : (z : Int) - 8 ≤ (k : Int) := by omega
        have hstep := Lib.hid (Sha.gathered_step n z k hA hlt)
        have hx0 : 0 ≤ (n : Int) * 8 / 2 ^ (8 * (z - 1 - k)) % 256 := Int.emod_nonneg _ (by decide)
        have hx1 : (n : Int) * 8 / 2 ^ (8 * (z - 1 - k)) % 256 < 256 := Int.emod_lt_of_pos _ (by decide)
        generalize (n : Int) * 8 / 2 ^ (8 * (z - 1 - k)) % 256 = x at *
        generalize Sha.gathered n z k = g at *
        have hor := Lib.hid (Sha.i64_or_join g x hg.1 hg.2 hx0 hx1)
        go_wp2
        go_round
        case rel => exact ⟨k + 1, by omega, by go_num, by rw [hor.out, hstep.out]⟩
        case measure => simp [intOf]; omega
      · rw [if_neg hA] at ck
        have q1 : ¬ ((z : Int) - 8 ≤ (k : Int)) := by omega
        have hg0 := Lib.hid (Sha.gathered_early n z k h hz9 (by omega))
        have hg1 := Lib.hid (Sha.gathered_early n z (k + 1) h hz9 (by omega))
        by_cases h0 : k = 0
        · have q2 : ¬ ((0 : Int) < (k : Int)) := by omega
          clear h0 ck
          go_wp2
          go_round
          case rel => exact ⟨k + 1, by omega, by go_num, by rw [hg0.out, hg1.out]⟩
          case measure => simp [intOf]; omega
        · rw [if_neg h0] at ck
          have q2 : (0 : Int) < (k : Int) := by omega
          go_wp2
          go_round
          case rel => exact ⟨k + 1, by omega, by go_num, by rw [hg0.out, hg1.out]⟩
          case measure => simp [intOf]; omega
    · have q0 : ¬ ((k : Int) < (z : Int)) := by omega
      have t9 : (Sha.gathered n z k == 8 * (n : Int)) = true := by
        have e : k = z := by omega
        rw [e, Sha.gathered_last, beq_iff_eq]; omega
      clear hg
      go_wp2
      go_ret
      exact ⟨by simp, HB2.out⟩
end Go.Proofs.YtldnpipbondjnaaDoor
