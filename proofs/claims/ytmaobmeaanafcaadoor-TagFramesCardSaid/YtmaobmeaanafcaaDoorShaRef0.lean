/- The statements' own helpers: SameBytes of equal bytes is true, CopyBytes gives the same bytes in new memory. -/
import Derived.Test.YtmaobmeaanafcaaDoorShaSum
namespace Go.Proofs.YtmaobmeaanafcaaDoor
open Go.RowKit
set_option maxRecDepth 100000

theorem sameb_true (v1 v2 : Value) (zs : List Int) (w : World) (h1 : BytesIn w v1 zs) (h2 : BytesIn w v2 zs) (hm : zs.length ≤ 4611686018427387904) :
    Calls Tryd.prog 26 #[v1, v2] w fun e w' => e = .returned (.bool true) ∧ ∃ n, w' = w.drewN n := by
  obtain ⟨a1, c1, rfl, hc1, hp1⟩ := h1
  obtain ⟨a2, c2, rfl, hc2, hp2⟩ := h2
  have HP1 := Lib.hid hp1
  have HP2 := Lib.hid hp2
  obtain ⟨m, em⟩ : ∃ m, Hid (m = zs.length) := ⟨_, rfl⟩
  rw [← em.out] at hm ⊢
  have hne : ((m : Int) != (m : Int)) = false := by simp
  clear hp1 hp2 hc1 hc2
  go_enter Tryd.func26, Tryd.ntmps26
  go_wp2
  go_loopw [5] (fun i wr => ∃ k : Nat, k ≤ m ∧ i = .int .i64 k ∧ ∃ n, wr = w.drewN n) (fun i _ => m - (intOf i).toNat)
  case atStart => exact ⟨0, by omega, rfl, 0, rfl⟩
  case round =>
    obtain ⟨k, hk, rfl, n, rfl⟩ := hrel
    by_cases hlt : k < m
    · obtain ⟨p1, o1, rfl, _, r1⟩ := HP1.out (by rw [← em.out]; omega)
      obtain ⟨p2, o2, rfl, _, r2⟩ := HP2.out (by rw [← em.out]; omega)
      have d1 : w.cell? ⟨p1, o1 + k, none⟩ = some (.int .u8 (zs.getD k 0)) := r1 k _ (ints_getD (by rw [← em.out]; exact hlt))
      have d2 : w.cell? ⟨p2, o2 + k, none⟩ = some (.int .u8 (zs.getD k 0)) := r2 k _ (ints_getD (by rw [← em.out]; exact hlt))
      have q0 : (k : Int) < (m : Int) := by omega
      generalize zs.getD k 0 = x at *
      have hx : (x != x) = false := by simp
      clear r1 r2
      go_wp2
      go_quiet (fail)
      go_wp2
      go_roundw
      case rel => exact ⟨k + 1, by omega, by go_num, n + nq, by simp [World.drewN]⟩
      case measure => simp [intOf]; omega
    · have q0 : ¬ ((k : Int) < (m : Int)) := by omega
      go_wp2
      go_ret
      exact ⟨rfl, n, rfl⟩
end Go.Proofs.YtmaobmeaanafcaaDoor
