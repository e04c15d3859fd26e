/- Pad -/
import Derived.Test.YtpafgoaeokgfcaaGreatDoorGenB
import Derived.Test.YtpafgoaeokgfcaaGreatDoorShaSpec
import Derived.Test.YtpafgoaeokgfcaaGreatDoorShaBlk
import Derived.Test.YtpafgoaeokgfcaaGreatDoorShaPure
namespace Go.Proofs.YtpafgoaeokgfcaaGreatDoor
open Go.RowKit

/-- What Pad leaves: a slice whose block is known whole. -/
def PadPost (n : Nat) (w : World) (e : Ending) (w' : World) : Prop := ∃ b, w.heap.size ≤ b ∧ e = .returned (.slice (some ⟨b, 0, none⟩) (Sha.padSize n) (Sha.padSize n)) ∧ Blk w' b 5 (ints .u8 (Sha.pad n)) ∧ Below w.heap.size w w'

theorem pad_none (n : Int) (h : n < 0 ∨ 1125899906842624 < n) (w : World) :
    Calls Tryz.prog 96 #[.int .i64 n] w fun e w' => e = .returned (.slice none 0 0) ∧ w = w' := by
  rcases h with h | h
  · go_enter Tryz.func96, Tryz.ntmps96
    go_wp2
    go_ret
    exact ⟨rfl, rfl⟩
  · have h' : ¬ n < 0 := by omega
    go_enter Tryz.func96, Tryz.ntmps96
    go_wp2
    go_ret
    exact ⟨rfl, rfl⟩
/-- What lies in memory while the padding's length is filled in. -/
def Filled (n k : Nat) (w wr : World) : Prop := Blk wr w.heap.size 5 (ints .u8 (Sha.padTo n k)) ∧ Below w.heap.size w wr
set_option maxHeartbeats 1000000 in
theorem pad_some (n : Nat) (h : n ≤ 1125899906842624) (w : World) : Calls Tryz.prog 96 #[.int .i64 (n : Int)] w (PadPost n w) := by
  have h1 : ¬ ((n : Int) < 0) := by omega
  have h2 : ¬ (1125899906842624 < (n : Int)) := by omega
  obtain ⟨z, ez⟩ : ∃ z, Hid (z = Sha.padSize n) := ⟨_, rfl⟩
  have hz9 : 9 ≤ z ∧ z ≤ 72 := by rw [ez.out]; exact Sha.padSize_bounds n
  obtain ⟨hz9, hz72⟩ := hz9
  by_cases hs : 64 - n % 64 < 9
  · have h3 : (64 : Int) - (n : Int) % 64 < 9 := by omega
    have hz : (64 : Int) - (n : Int) % 64 + 64 = (z : Int) := by rw [ez.out, Sha.padSize, if_pos hs]; omega
    go_enter Tryz.func96, Tryz.ntmps96
    go_wp2_with (refine wpList_make_blk _ rfl _ _ 36 rfl 5 (.int .u8 0) 1 Tryz.underlying36 infoByte rfl _ _ _ _ z rfl rfl rfl rfl (by omega) (by omega) ?_)
    intro w1 hb hbel hsz
    have f0 := hb.free 0
    have c0 : w1.cell? ⟨w.heap.size, 0, none⟩ = some (.int .u8 0) := hb.cell (by rw [List.getElem?_replicate, if_pos (by omega)])
    have hfill : Filled n 0 w (w1.setCell ⟨w.heap.size, 0, none⟩ (.int .u8 128)) := by
      refine ⟨?_, hbel.setCell (Nat.le_refl _) _⟩
      have := hb.set 0 (.int .u8 128)
      rw [ez.out] at this
      simpa [Sha.padTo, ints] using this
    have HF := Lib.hid hfill
    clear hb hbel hsz hfill
    go_wp2
    go_loopw [27, 6] (fun i _ wr => ∃ k : Nat, k ≤ 8 ∧ i = .int .i64 k ∧ Filled n k w wr) (fun i _ _ => 8 - (intOf i).toNat)
    case atStart => exact ⟨0, by omega, rfl, HF.out⟩
    case round =>
      obtain ⟨k, hk, rfl, hf⟩ := hrel
      clear HF f0 c0
      by_cases hlt : k < 8
      · have hl : (Sha.padTo n k).length = z := by rw [Sha.padTo_length, ez.out]
        have fk := hf.1.free (z - 1 - k)
        have ck := hf.1.cell (ints_getD (k := .u8) (j := z - 1 - k) (by omega))
        have p0 : (k : Int) < 8 := by omega
        have i1 : ((z : Int) - 1 - (k : Int)).toNat = z - 1 - k := by omega
        have i2 : 0 ≤ (z : Int) - 1 - (k : Int) := by omega
        have i3 : (z : Int) - 1 - (k : Int) < (z : Int) := by omega
        have i4 : (8 * (k : Int)).toNat = 8 * k := by omega
        have HF := Lib.hid hf
        clear hl hf
        go_wp2
        go_roundw
        case rel =>
          refine ⟨k + 1, by omega, by go_num, ?_, HF.out.2.setCell (Nat.le_refl _) _⟩
          have := HF.out.1.set (z - 1 - k) (.int .u8 ((n : Int) * 8 / 2 ^ (8 * k) % 256))
          rw [ints_set] at this
          rw [Sha.padTo, ← ez.out]
          exact this
        case measure => simp [intOf]; omega
      · have HF : Hid (Filled n 8 w wr) := by
          have e : k = 8 := by omega
          subst e; exact hf
        have q3 : ¬ ((k : Int) < 8) := by omega
        have q5 : decide ((k : Int) < 8) = false := by simp; omega
        clear hf
        go_wp2
        go_ret
        refine ⟨w.heap.size, Nat.le_refl _, ?_, HF.out.1, HF.out.2⟩
        rw [← ez.out]
        rfl
  · have hz : (64 : Int) - (n : Int) % 64 = (z : Int) := by rw [ez.out, Sha.padSize, if_neg hs]; omega
    go_enter Tryz.func96, Tryz.ntmps96
    go_wp2_with (refine wpList_make_blk _ rfl _ _ 36 rfl 5 (.int .u8 0) 1 Tryz.underlying36 infoByte rfl _ _ _ _ z rfl rfl rfl rfl (by omega) (by omega) ?_)
    intro w1 hb hbel hsz
    have f0 := hb.free 0
    have c0 : w1.cell? ⟨w.heap.size, 0, none⟩ = some (.int .u8 0) := hb.cell (by rw [List.getElem?_replicate, if_pos (by omega)])
    have hfill : Filled n 0 w (w1.setCell ⟨w.heap.size, 0, none⟩ (.int .u8 128)) := by
      refine ⟨?_, hbel.setCell (Nat.le_refl _) _⟩
      have := hb.set 0 (.int .u8 128)
      rw [ez.out] at this
      simpa [Sha.padTo, ints] using this
    have HF := Lib.hid hfill
    clear hb hbel hsz hfill
    go_wp2
    go_loopw [27, 6] (fun i _ wr => ∃ k : Nat, k ≤ 8 ∧ i = .int .i64 k ∧ Filled n k w wr) (fun i _ _ => 8 - (intOf i).toNat)
    case atStart => exact ⟨0, by omega, rfl, HF.out⟩
    case round =>
      obtain ⟨k, hk, rfl, hf⟩ := hrel
      clear HF f0 c0
      by_cases hlt : k < 8
      · have hl : (Sha.padTo n k).length = z := by rw [Sha.padTo_length, ez.out]
        have fk := hf.1.free (z - 1 - k)
        have ck := hf.1.cell (ints_getD (k := .u8) (j := z - 1 - k) (by omega))
        have p0 : (k : Int) < 8 := by omega
        have i1 : ((z : Int) - 1 - (k : Int)).toNat = z - 1 - k := by omega
        have i2 : 0 ≤ (z : Int) - 1 - (k : Int) := by omega
        have i3 : (z : Int) - 1 - (k : Int) < (z : Int) := by omega
        have i4 : (8 * (k : Int)).toNat = 8 * k := by omega
        have HF := Lib.hid hf
        clear hl hf
        go_wp2
        go_roundw
        case rel =>
          refine ⟨k + 1, by omega, by go_num, ?_, HF.out.2.setCell (Nat.le_refl _) _⟩
          have := HF.out.1.set (z - 1 - k) (.int .u8 ((n : Int) * 8 / 2 ^ (8 * k) % 256))
          rw [ints_set] at this
          rw [Sha.padTo, ← ez.out]
          exact this
        case measure => simp [intOf]; omega
      · have HF : Hid (Filled n 8 w wr) := by
          have e : k = 8 := by omega
          subst e; exact hf
        have q3 : ¬ ((k : Int) < 8) := by omega
        have q5 : decide ((k : Int) < 8) = false := by simp; omega
        clear hf
        go_wp2
        go_ret
        refine ⟨w.heap.size, Nat.le_refl _, ?_, HF.out.1, HF.out.2⟩
        rw [← ez.out]
        rfl
end Go.Proofs.YtpafgoaeokgfcaaGreatDoor
