/- The statements' own helpers: SameBytes tells whether bytes are the same, same whether rows of bytes are. -/
import Derived.Test.YtmaobmeaanafcaaDoorTagRows
import Derived.Test.YtmaobmeaanafcaaDoorShaRef0
namespace Go.Proofs.YtmaobmeaanafcaaDoor
open Go.RowKit
set_option maxRecDepth 100000

theorem first_diff {α : Type} [DecidableEq α] (z : α) : ∀ (xs ys : List α), xs.length = ys.length → xs ≠ ys → ∃ k, k < xs.length ∧ xs.getD k z ≠ ys.getD k z ∧ ∀ j, j < k → xs.getD j z = ys.getD j z
  | [], [], _, h => absurd rfl h
  | [], _ :: _, h, _ => by simp at h
  | _ :: _, [], h, _ => by simp at h
  | x :: xs, y :: ys, hl, hne => by
    by_cases h : x = y
    · subst h
      obtain ⟨k, h1, h2, h3⟩ := first_diff z xs ys (by simpa using hl) (fun e => hne (by rw [e]))
      refine ⟨k + 1, by simpa using h1, by simpa using h2, fun j hj => ?_⟩
      cases j with
      | zero => rfl
      | succ j => simpa using h3 j (by omega)
    · exact ⟨0, by simp, by simpa using h, fun j hj => absurd hj (by omega)⟩

theorem sameb_short (a1 a2 : Option Addr) (m1 m2 c1 c2 : Nat) (w : World) (hne : m1 ≠ m2) : Calls Tryd.prog 26 #[.slice a1 m1 c1, .slice a2 m2 c2] w fun e w' => e = .returned (.bool false) ∧ ∃ n, w' = w.drewN n := by
  have h1 : ((m1 : Int) != (m2 : Int)) = true := by simp; omega
  clear hne
  go_enter Tryd.func26, Tryd.ntmps26
  go_wp2
  go_ret
  exact ⟨rfl, 0, rfl⟩

theorem sameb_false (v1 v2 : Value) (xs ys : List Int) (w : World) (h1 : BytesIn w v1 xs) (h2 : BytesIn w v2 ys) (hm : xs.length ≤ 4611686018427387904) (hne : xs ≠ ys) :
    Calls Tryd.prog 26 #[v1, v2] w fun e w' => e = .returned (.bool false) ∧ ∃ n, w' = w.drewN n := by
  obtain ⟨a1, c1, rfl, hc1, hp1⟩ := h1
  obtain ⟨a2, c2, rfl, hc2, hp2⟩ := h2
  by_cases hl : xs.length = ys.length
  · obtain ⟨d, hd1, hd2, hd3⟩ := first_diff 0 xs ys hl hne
    have HP1 := Lib.hid hp1
    have HP2 := Lib.hid hp2
    have HD3 := Lib.hid hd3
    have HD2 := Lib.hid hd2
    obtain ⟨m, em⟩ : ∃ m, Hid (m = xs.length) := ⟨_, rfl⟩
    rw [← hl]
    rw [← em.out] at hm hd1 ⊢
    have EL : Hid (m = ys.length) := em.out.trans hl
    have hne : ((m : Int) != (m : Int)) = false := by simp
    clear hp1 hp2 hc1 hc2 hl hd3 hd2 hne
    have hne : ((m : Int) != (m : Int)) = false := by simp
    go_enter Tryd.func26, Tryd.ntmps26
    go_wp2
    go_loopw [5] (fun i wr => ∃ k : Nat, k ≤ d ∧ i = .int .i64 k ∧ ∃ n, wr = w.drewN n) (fun i _ => m - (intOf i).toNat)
    case atStart => exact ⟨0, by omega, rfl, 0, rfl⟩
    case round =>
      obtain ⟨k, hk, rfl, n, rfl⟩ := hrel
      have hlt : k < m := by omega
      obtain ⟨p1, o1, rfl, _, r1⟩ := HP1.out (by rw [← em.out]; omega)
      obtain ⟨p2, o2, rfl, _, r2⟩ := HP2.out (by rw [← EL.out]; omega)
      have d1 : w.cell? ⟨p1, o1 + k, none⟩ = some (.int .u8 (xs.getD k 0)) := r1 k _ (ints_getD (by rw [← em.out]; exact hlt))
      have d2 : w.cell? ⟨p2, o2 + k, none⟩ = some (.int .u8 (ys.getD k 0)) := r2 k _ (ints_getD (by rw [← EL.out]; exact hlt))
      have q0 : (k : Int) < (m : Int) := by omega
      clear r1 r2
      by_cases hkd : k = d
      · have hx : (xs.getD k 0 != ys.getD k 0) = true := by rw [hkd, bne_iff_ne]; exact HD2.out
        generalize xs.getD k 0 = x at *
        generalize ys.getD k 0 = y at *
        clear hkd
        go_wp2
        go_quiet (fail)
        go_wp2
        go_ret
        exact ⟨rfl, n + nq, by simp [World.drewN]; omega⟩
      · have hx : (xs.getD k 0 != ys.getD k 0) = false := by rw [HD3.out k (by omega)]; simp
        generalize xs.getD k 0 = x at *
        generalize ys.getD k 0 = y at *
        go_wp2
        go_quiet (fail)
        go_wp2
        go_roundw
        case rel => exact ⟨k + 1, by omega, by go_num, n + nq, by simp [World.drewN]⟩
        case measure => simp [intOf]; omega
  · exact sameb_short a1 a2 _ _ c1 c2 w hl
theorem sameb_walk (v1 v2 : Value) (xs ys : List Int) (w : World) (h1 : BytesIn w v1 xs) (h2 : BytesIn w v2 ys) (hm : xs.length ≤ 4611686018427387904) :
    Calls Tryd.prog 26 #[v1, v2] w fun e w' => e = .returned (.bool (decide (xs = ys))) ∧ ∃ n, w' = w.drewN n := by
  by_cases h : xs = ys
  · subst h
    rw [decide_eq_true rfl]
    exact sameb_true v1 v2 xs w h1 h2 hm
  · rw [decide_eq_false h]
    exact sameb_false v1 v2 xs ys w h1 h2 hm h
end Go.Proofs.YtmaobmeaanafcaaDoor
