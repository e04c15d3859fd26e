/- Both disks answer Read and Write alike. -/
import Derived.Test.YtpbilngjjlabiaaDskCc
namespace Go.Proofs.Ytpbilngjjlabiaa
open Go Go.RowKit
set_option maxRecDepth 100000

def lim (l : Int) : Int := if l < -1 then -1 else l
def ReadPost (b : List Int) (e : Int) (w : World) (x : Ending) (w' : World) : Prop := x = .returned (.tuple #[.agg (ints .u8 b).toArray, .int .i64 e]) ∧ Below w.heap.size w w'
theorem read_both (d r sz : Nat) (S : List Int) (P : List Wr) (at' l l' : Int) (hS : S.length = 64 * sz) (hP : okW sz P) (hm : P.length ≤ 1000000) : ∃ (b : List Int) (e : Int), b.length = 64 ∧
    (∀ F w, Dk w F d sz (applyK S P P.length) S P l → Calls Try.prog 18 #[.pointer (some ⟨d, 0, none⟩), .int .i64 at'] w (ReadPost b e w)) ∧
    (∀ G w, Rk w G r sz S P l' → Calls Try.prog 19 #[.pointer (some ⟨r, 0, none⟩), .int .i64 at'] w (ReadPost b e w)) := by
  by_cases h : 0 ≤ at' ∧ at' < (sz : Int)
  · obtain ⟨n, rfl⟩ := Int.eq_ofNat_of_zero_le h.1
    have hn : n < sz := by omega
    exact ⟨getB (applyK S P P.length) n, 0, getB_length (applyK_length hS hP _ (Nat.le_refl _)) hn, fun F w hd => read_yes d sz n F _ S P l w hd hn, fun G w hr => rread_yes r sz n G S P l' w hr hm hn⟩
  · have hn : at' < 0 ∨ (sz : Int) ≤ at' := by omega
    exact ⟨zB, 11, zB_length, fun F w hd => read_no d sz at' F _ S P l w hd hn, fun G w hr => rread_no r sz at' G S P l' w hr hn⟩
theorem write_both (d r sz : Nat) (S : List Int) (P : List Wr) (l n : Int) (b : List Int) (hb : b.length = 64) (hl : l ≤ 9223372036854775807) (hm : P.length ≤ 1000000) : ∃ (e : Int) (P' : List Wr) (l' : Int), P'.length ≤ P.length + 1 ∧ l' ≤ 9223372036854775807 ∧
    (∀ F w, Dk w F d sz (applyK S P P.length) S P l → Calls Try.prog 8 #[.pointer (some ⟨d, 0, none⟩), .int .i64 n, .agg (ints .u8 b).toArray] w (DkPost F d sz (applyK S P' P'.length) S P' l' (.int .i64 e) w)) ∧
    (∀ G w, Rk w G r sz S P (lim l) → Calls Try.prog 9 #[.pointer (some ⟨r, 0, none⟩), .int .i64 n, .agg (ints .u8 b).toArray] w (RkPost G r sz S P' (lim l') (.int .i64 e) w)) := by
  by_cases h : 0 ≤ n ∧ n < (sz : Int)
  · obtain ⟨k, rfl⟩ := Int.eq_ofNat_of_zero_le h.1
    have hk : k < sz := by omega
    by_cases h0 : l = 0
    · subst h0
      exact ⟨15, P, 0, by omega, by decide, fun F w hd => write_full d sz k F _ S P b w hd hk, fun G w hr => rwrite_full r sz k G S P b w hr hk⟩
    · refine ⟨0, P ++ [(k, b)], if 0 < l then l - 1 else l, by simp, by split <;> omega, fun F w hd => ?_, fun G w hr => ?_⟩
      · have h1 := write_ok d sz k F _ S P l b w hd hk hb h0 hl hm
        rw [List.length_append, List.length_singleton, applyK_last]
        exact h1
      · have h1 := rwrite_ok r sz k G S P (lim l) b w hr hk hb (by unfold lim; split <;> omega) (by unfold lim; split <;> omega) hm
        have e : (if 0 < lim l then lim l - 1 else lim l) = lim (if 0 < l then l - 1 else l) := (left_same l).symm
        rw [e] at h1
        exact h1
  · have hn : n < 0 ∨ (sz : Int) ≤ n := by omega
    exact ⟨11, P, l, by omega, hl, fun F w hd => write_range d sz F _ S P l n b w hd hn, fun G w hr => rwrite_range r sz G S P (lim l) n b w hr hn⟩
end Go.Proofs.Ytpbilngjjlabiaa
