/- The statements' own helper same: the same rows of bytes in the same order. -/
import Derived.Test.YtmaobmeaanafcaaDoorTagSmb
import Derived.Deep.QuietTactic
import Derived.BigQuiet
namespace Go.Proofs.YtmaobmeaanafcaaDoor
open Go.RowKit
set_option maxRecDepth 100000

theorem ret_bool {a b : Bool} (h : a = b) : Ending.returned (.bool a) = .returned (.bool b) := by rw [h]
theorem same_short (a1 a2 : Option Addr) (m1 m2 c1 c2 : Nat) (w : World) (hne : m1 ≠ m2) : Calls Tryd.prog 25 #[.slice a1 m1 c1, .slice a2 m2 c2] w fun e w' => e = .returned (.bool false) ∧ ∃ n, w' = w.drewN n := by
  have h1 : ((m1 : Int) != (m2 : Int)) = true := by simp; omega
  clear hne
  go_enter Tryd.func25, Tryd.ntmps25
  go_wp2
  go_ret
  exact ⟨rfl, 0, rfl⟩
theorem BytesIn.drewN {w : World} {v : Value} {zs : List Int} (h : BytesIn w v zs) (n : Nat) : BytesIn (w.drewN n) v zs := h
theorem quiet_sameb (v1 v2 : Value) (xs ys : List Int) (b : Bool) (hb : decide (xs = ys) = b) (w : World) (h1 : BytesIn w v1 xs) (h2 : BytesIn w v2 ys) (hm : xs.length ≤ 4611686018427387904) :
    Calls Tryd.prog 26 #[v1, v2] w fun e w' => e = .returned (.bool b) ∧ ∃ n, w' = w.drewN n := by
  subst hb; exact sameb_walk v1 v2 xs ys w h1 h2 hm
theorem same_long (a1 a2 : Option Addr) (c1 c2 : Nat) (xs ys : List (List Int)) (m : Nat) (w : World) (h1 : PartsIn w (.slice a1 m c1) xs) (h2 : PartsIn w (.slice a2 m c2) ys) (hx : xs.length = m) (hy : ys.length = m) (B : Bool) (hB : decide (xs = ys) = B) :
    Calls Tryd.prog 25 #[.slice a1 m c1, .slice a2 m c2] w fun e w' => e = .returned (.bool B) ∧ ∃ n, w' = w.drewN n := by
  obtain ⟨a1', cap1, ps1, e1, hp1, hm1, hq1, hall1⟩ := h1
  obtain ⟨a2', cap2, ps2, e2, hp2, hm2, hq2, hall2⟩ := h2
  obtain ⟨rfl, -, rfl⟩ := Value.slice.inj e1
  obtain ⟨rfl, -, rfl⟩ := Value.slice.inj e2
  have HQ1 := Lib.hid hq1
  have HQ2 := Lib.hid hq2
  have HA1 := Lib.hid hall1
  have HA2 := Lib.hid hall2
  rw [hx] at hp1 hm1
  rw [hy] at hp2
  have HP1 := Lib.hid hp1
  have HP2 := Lib.hid hp2
  have HX := Lib.hid hx
  have HY := Lib.hid hy
  have HB := Lib.hid hB
  have hne : ((m : Int) != (m : Int)) = false := by simp
  clear e1 e2 hq1 hq2 hall1 hall2 hp1 hp2 hx hy hB hm2
  go_enter Tryd.func25, Tryd.ntmps25
  go_wp2
  go_loopw [5] (fun i wr => ∃ k : Nat, k ≤ m ∧ i = .int .i64 k ∧ Hid (xs.take k = ys.take k) ∧ Hid (∃ n, wr = w.drewN n)) (fun i _ => m - (intOf i).toNat)
  case atStart => exact ⟨0, by omega, rfl, rfl, ⟨0, rfl⟩⟩
  case round =>
    obtain ⟨k, hk, rfl, HT, HW⟩ := hrel
    by_cases hlt : k < m
    · obtain ⟨q1, o1, rfl, _, r1⟩ := HQ1.out (by rw [HX.out]; omega)
      obtain ⟨q2, o2, rfl, _, r2⟩ := HQ2.out (by rw [HY.out]; omega)
      obtain ⟨v1, hv1⟩ : ∃ v, ps1[k]? = some v := ⟨_, List.getElem?_eq_getElem (by rw [HP1.out]; exact hlt)⟩
      obtain ⟨v2, hv2⟩ : ∃ v, ps2[k]? = some v := ⟨_, List.getElem?_eq_getElem (by rw [HP2.out]; exact hlt)⟩
      obtain ⟨z1, hz1⟩ : ∃ z, xs[k]? = some z := ⟨_, List.getElem?_eq_getElem (by rw [HX.out]; exact hlt)⟩
      obtain ⟨z2, hz2⟩ : ∃ z, ys[k]? = some z := ⟨_, List.getElem?_eq_getElem (by rw [HY.out]; exact hlt)⟩
      obtain ⟨b1, -, l1⟩ := HA1.out k v1 z1 hv1 hz1
      obtain ⟨b2, -, -⟩ := HA2.out k v2 z2 hv2 hz2
      have d1 : wr.cell? ⟨q1, o1 + k, none⟩ = some v1 := by obtain ⟨n, e⟩ := HW.out; rw [e]; exact r1 k _ hv1
      have d2 : wr.cell? ⟨q2, o2 + k, none⟩ = some v2 := by obtain ⟨n, e⟩ := HW.out; rw [e]; exact r2 k _ hv2
      have o1' : ∃ a n c, v1 = .slice a n c := by obtain ⟨a, c, h, _⟩ := b1; exact ⟨a, _, c, h⟩
      have o2' : ∃ a n c, v2 = .slice a n c := by obtain ⟨a, c, h, _⟩ := b2; exact ⟨a, _, c, h⟩
      have B1 : Hid (∀ m, BytesIn (wr.drewN m) v1 z1) := by obtain ⟨n, e⟩ := HW.out; rw [e]; exact fun _ => b1
      have B2 : Hid (∀ m, BytesIn (wr.drewN m) v2 z2) := by obtain ⟨n, e⟩ := HW.out; rw [e]; exact fun _ => b2
      have Z1 := Lib.hid hz1
      have Z2 := Lib.hid hz2
      have q0 : (k : Int) < (m : Int) := by omega
      clear r1 r2 hv1 hv2 hz1 hz2 b1 b2
      obtain ⟨x1, y1, t1, rfl⟩ := o1'
      obtain ⟨x2, y2, t2, rfl⟩ := o2'
      obtain ⟨b, hb⟩ : ∃ b, Hid (decide (z1 = z2) = b) := ⟨_, rfl⟩
      go_wp2
      go_quiet ((go_at_call 26; exact Calls.quiet_of (quiet_sameb _ _ z1 z2 b hb.out _ (B1.out _) (B2.out _) (by omega))))
      cases b with
      | true =>
        go_wp2
        go_roundw
        case rel =>
          refine ⟨k + 1, by omega, by go_num, ?_, by obtain ⟨n, e⟩ := HW.out; exact ⟨n + nq, by rw [e, World.drewN_drewN]⟩⟩
          unfold Hid
          rw [List.take_add_one, List.take_add_one, HT.out, Z1.out, Z2.out, of_decide_eq_true hb.out]
        case measure => simp [intOf]; omega
      | false =>
        have HF : Hid (B = false) := by
          rw [← HB.out, decide_eq_false_iff_not]
          intro e
          have := Z1.out
          rw [e, Z2.out] at this
          exact of_decide_eq_false hb.out (Option.some.inj this).symm
        go_wp2
        go_ret
        exact ⟨ret_bool HF.out.symm, by obtain ⟨n, e⟩ := HW.out; exact ⟨n + nq, by rw [e, World.drewN_drewN]⟩⟩
    · have q0 : ¬ ((k : Int) < (m : Int)) := by omega
      have HF : Hid (B = true) := by
        rw [← HB.out, decide_eq_true_iff]
        have h1 := HT.out
        rwa [List.take_of_length_le (by rw [HX.out]; omega), List.take_of_length_le (by rw [HY.out]; omega)] at h1
      go_wp2
      go_ret
      exact ⟨ret_bool HF.out.symm, HW.out⟩
theorem same_walk (v1 v2 : Value) (xs ys : List (List Int)) (w : World) (h1 : PartsIn w v1 xs) (h2 : PartsIn w v2 ys) :
    Calls Tryd.prog 25 #[v1, v2] w fun e w' => e = .returned (.bool (decide (xs = ys))) ∧ ∃ n, w' = w.drewN n := by
  have h1' := h1
  have h2' := h2
  obtain ⟨a1, c1, ps1, rfl, -, -, -, -⟩ := h1'
  obtain ⟨a2, c2, ps2, rfl, -, -, -, -⟩ := h2'
  by_cases h : xs.length = ys.length
  · rw [← h] at h2 ⊢
    exact same_long a1 a2 c1 c2 xs ys _ w h1 h2 rfl h.symm _ rfl
  · rw [show decide (xs = ys) = false from decide_eq_false fun e => h (by rw [e])]
    exact same_short a1 a2 _ _ c1 c2 w h
end Go.Proofs.YtmaobmeaanafcaaDoor
