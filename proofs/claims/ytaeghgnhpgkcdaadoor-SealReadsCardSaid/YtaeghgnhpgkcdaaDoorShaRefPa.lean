/- The reference's Pad is the program's. -/
import Derived.Test.YtaeghgnhpgkcdaaDoorShaRefBe
import Derived.Test.YtaeghgnhpgkcdaaDoorShaSpec
namespace Go.Proofs.YtaeghgnhpgkcdaaDoor
open Go.RowKit
set_option maxRecDepth 100000

theorem rpad_none (n : Int) (h : n < 0 ∨ 1125899906842624 < n) (w : World) :
    Calls Tryd.prog 41 #[.int .i64 n] w fun e w' => e = .returned (.slice none 0 0) ∧ w = w' := by
  rcases h with h | h
  · go_enter Tryd.func41, Tryd.ntmps41
    go_wp2
    go_ret
    exact ⟨rfl, rfl⟩
  · have h' : ¬ n < 0 := by omega
    go_enter Tryd.func41, Tryd.ntmps41
    go_wp2
    go_ret
    exact ⟨rfl, rfl⟩
theorem pad_first (n : Nat) : (Sha.pad n).take (Sha.padSize n - 8) = 128 :: List.replicate (Sha.padSize n - 9) 0 := by
  have hb := Sha.padSize_bounds n
  apply List.ext_getElem?
  intro i
  rw [List.getElem?_take]
  by_cases hi : i < Sha.padSize n - 8
  · rw [if_pos hi, Sha.pad_get n i (by omega)]
    cases i with
    | zero => simp
    | succ i => rw [if_neg (by omega), if_neg (by omega), List.getElem?_cons_succ, List.getElem?_replicate, if_pos (by omega)]
  · rw [if_neg hi, List.getElem?_eq_none (by simp; omega)]
theorem pad_next (n m : Nat) (hm : m < 8) : (Sha.pad n).take (Sha.padSize n - (m + 1)) ++ [(n : Int) * 8 / 2 ^ (8 * m) % 256] = (Sha.pad n).take (Sha.padSize n - m) := by
  have hb := Sha.padSize_bounds n
  rw [show Sha.padSize n - m = Sha.padSize n - (m + 1) + 1 by omega, List.take_add_one, Sha.pad_get n _ (by omega), if_neg (by omega), if_pos (by omega), show Sha.padSize n - 1 - (Sha.padSize n - (m + 1)) = m by omega]
  rfl
def OwnPost (e : TypeId) (k : IntKind) (xs : List Int) (w : World) (r : Ending) (w' : World) : Prop := ∃ v, r = .returned v ∧ Own w' w.heap.size e k v xs ∧ Below w.heap.size w w'
theorem own_one (w : World) (e : TypeId) (k : IntKind) (z : Int) : Own (w.alloc (.cells #[.int k z] e)) w.heap.size e k (.slice (some ⟨w.heap.size, 0, none⟩) 1 1) [z] :=
  ⟨w.heap.size, 1, rfl, Own.of_blk (xs := [z]) (Blk.new2 _ _ _ _ _ rfl rfl) (Nat.le_refl _) (by simp)⟩
set_option maxHeartbeats 1000000 in
theorem rpad_some (n : Nat) (h : n ≤ 1125899906842624) (w : World) : Calls Tryd.prog 41 #[.int .i64 (n : Int)] w (OwnPost 5 .u8 (Sha.pad n) w) := by
  have h1 : ¬ ((n : Int) < 0) := by omega
  have h2 : ¬ (1125899906842624 < (n : Int)) := by omega
  have h3 : (n : Int) * 8 ≤ 9007199254740992 := by omega
  obtain ⟨z, ez⟩ : ∃ z, Hid (z = Sha.padSize n) := ⟨_, rfl⟩
  obtain ⟨hz9, hz72⟩ : 9 ≤ z ∧ z ≤ 72 := by rw [ez.out]; exact Sha.padSize_bounds n
  have hzm : (n + z) % 64 = 0 := by rw [ez.out]; exact Sha.padSize_mod n
  have HZM := Lib.hid hzm
  clear hzm
  go_enter Tryd.func41, Tryd.ntmps41
  go_wp2
  go_loopw [3] (fun v wr => ∃ k : Nat, k + 9 ≤ z ∧ Own wr w.heap.size 5 .u8 v (128 :: List.replicate k 0) ∧ Below w.heap.size w wr) (fun v _ => 100 - lenOf' v)
  case atStart => exact ⟨0, by omega, own_one w 5 .u8 128, (Below.refl _ _).alloc (Nat.le_refl _) _⟩
  case round =>
    obtain ⟨k, hk, ⟨g, cap, rfl, hown⟩, hbel⟩ := hrel
    obtain ⟨len, el⟩ : ∃ len, Hid (len = k + 1) := ⟨_, rfl⟩
    have elen : (128 :: List.replicate k (0 : Int)).length = len := by rw [el.out]; simp
    rw [elen] at hown ⊢
    have EL := Lib.hid elen
    clear elen
    by_cases hlt : k + 9 < z
    · have q1 : (((n : Int) + (len : Int)) % 64 != 56) = true := by
        have := HZM.out
        have := el.out
        simp; omega
      have HO : Hid (Own (wr.alloc (.cells #[.int .u8 0] 5)) w.heap.size 5 .u8 (.slice (some ⟨g, 0, none⟩) len cap) (128 :: List.replicate k 0)) := ⟨g, cap, by rw [EL.out], by rw [EL.out]; exact hown.alloc _⟩
      have HB : Hid (Below w.heap.size w (wr.alloc (.cells #[.int .u8 0] 5))) := hbel.alloc hbel.size _
      have HSZ := Lib.hid hbel.size
      have hl : (len : Int) ≤ 72 := by have := el.out; omega
      clear hown hbel
      go_wp2_with (with_reducible refine wpList_append_one (o := ⟨some 21, _, _, _, _, _⟩) ?a1 (.tmp 19) (.tmp 20) 22 5 ?a2 .u8 1 Tryd.underlying22 infoByte (by decide) w.heap.size (.slice (some ⟨g, 0, none⟩) len cap) (128 :: List.replicate k 0) ?a3 HO.out ⟨wr.heap.size, 0, none⟩ 1 0 ?a4 ?a5 ?a6 ?a7 ?_)
      case a1 => rfl
      case a2 => rfl
      all_goals try (case a3 => rfl)
      all_goals try (case a4 => rfl)
      all_goals try (case a5 => simp [Addr.add])
      case a6 => rw [EL.out]; omega
      case a7 => have := HSZ.out; simp; omega
      intro v' w3 ho3 hb3
      have HO3 : Hid (Own w3 w.heap.size 5 .u8 v' (128 :: List.replicate (k + 1) 0)) := by
        unfold Hid; rw [List.replicate_succ', ← List.cons_append]; exact ho3
      have HB3 := Lib.hid (hb3 _ _ HB.out (Nat.le_refl _))
      have EL2 := el.out
      clear ho3 hb3 HO HB
      obtain ⟨g3, c3, rfl, -⟩ := id HO3.out
      have ELL : Hid ((128 :: List.replicate (k + 1) (0 : Int)).length = k + 2) := by unfold Hid; simp
      rw [ELL.out] at HO3 ⊢
      go_wp2
      refine ⟨⟨k + 1, by omega, HO3.out, HB3.out⟩, ?_⟩
      simp [lenOf']; omega
    · have ek : k = z - 9 := by omega
      have q1 : (((n : Int) + (len : Int)) % 64 != 56) = false := by
        have := HZM.out
        have := el.out
        simp; omega
      have hl : (len : Int) ≤ 72 := by have := el.out; omega
      have HO : Hid (Own wr w.heap.size 5 .u8 (.slice (some ⟨g, 0, none⟩) len cap) ((Sha.pad n).take (z - 8))) := by
        rw [ez.out, pad_first, ← ez.out, ← ek]
        exact ⟨g, cap, by rw [EL.out], by rw [EL.out]; exact hown⟩
      have HB := Lib.hid hbel
      clear hown hbel ek EL el hlt
      go_wp2
      clear q1
      go_loopw [3, 5] (fun v i wr => ∃ (m : Nat) (y : Int), m ≤ 8 ∧ i = .int .i64 y ∧ y = (m : Int) - 1 ∧ Own wr w.heap.size 5 .u8 v ((Sha.pad n).take (z - m)) ∧ Below w.heap.size w wr) (fun _ i _ => (intOf i + 1).toNat)
      case atStart => exact ⟨8, 7, by omega, rfl, rfl, HO.out, HB.out⟩
      case round =>
        obtain ⟨m, y, hm, rfl, hy, hv, hbel⟩ := hrel
        clear HO HB
        have hvl : ((Sha.pad n).take (z - m)).length = z - m := by rw [List.length_take, Sha.pad_length, ← ez.out]; omega
        obtain ⟨g2, c2, rfl, hown⟩ := hv
        cases m with
        | zero =>
          have : y = -1 := by omega
          subst this; clear hy
          have HV : Hid (Own wr w.heap.size 5 .u8 (.slice (some ⟨g2, 0, none⟩) ((Sha.pad n).take (z - 0)).length c2) (Sha.pad n)) := by
            have e : (Sha.pad n).take (z - 0) = Sha.pad n := List.take_of_length_le (by rw [Sha.pad_length, ← ez.out]; omega)
            rw [e] at hown ⊢
            exact ⟨g2, c2, rfl, hown⟩
          have HBE := Lib.hid hbel
          clear hown hbel hvl
          go_wp2
          go_ret
          exact ⟨_, rfl, HV.out, HBE.out⟩
        | succ m =>
          have : y = (m : Int) := by omega
          subst this; clear hy
          have HN := Lib.hid (pad_next n m (by omega))
          rw [← ez.out] at HN
          generalize (Sha.pad n).take (z - (m + 1)) = xs at *
          have HV : Hid (Own (wr.alloc (.cells #[.int .u8 ((n : Int) * 8 / 2 ^ (8 * m) % 256)] 5)) w.heap.size 5 .u8 (.slice (some ⟨g2, 0, none⟩) xs.length c2) xs) := ⟨g2, c2, rfl, hown.alloc _⟩
          have HBE : Hid (Below w.heap.size w (wr.alloc (.cells #[.int .u8 ((n : Int) * 8 / 2 ^ (8 * m) % 256)] 5))) := hbel.alloc hbel.size _
          have HSZ := Lib.hid hbel.size
          have HL : Hid (xs.length ≤ 72) := by unfold Hid; omega
          have q0 : 0 ≤ (m : Int) := by omega
          have q2 : (m : Int) ≤ 7 := by omega
          have q3 : 0 ≤ 8 * (m : Int) := by omega
          have q4 : (8 * (m : Int)).toNat = 8 * m := by omega
          have q5 : 0 ≤ (n : Int) * 8 := by omega
          clear hown hbel hvl
          go_wp2_with (with_reducible refine wpList_append_one (o := ⟨some 36, _, _, _, _, _⟩) ?b1 (.tmp 28) (.tmp 35) 22 5 ?b2 .u8 1 Tryd.underlying22 infoByte (by decide) w.heap.size (.slice (some ⟨g2, 0, none⟩) xs.length c2) xs ?b3 HV.out ⟨wr.heap.size, 0, none⟩ 1 ((n : Int) * 8 / 2 ^ (8 * m) % 256) ?b4 ?b5 ?b6 ?b7 ?_)
          case b1 => rfl
          case b2 => rfl
          all_goals try (case b3 => rfl)
          all_goals try (case b4 => rfl)
          all_goals try (case b5 => simp [Addr.add])
          case b6 => have := HL.out; omega
          case b7 => have := HSZ.out; simp; omega
          intro v' w3 ho3 hb3
          rw [HN.out] at ho3
          have HO3 := Lib.hid ho3
          have HB3 := Lib.hid (hb3 _ _ HBE.out (Nat.le_refl _))
          clear ho3 hb3 HV HBE
          go_wp2
          exact ⟨⟨m, (m : Int) - 1, by omega, rfl, rfl, HO3.out, HB3.out⟩, by simp [intOf]⟩
end Go.Proofs.YtaeghgnhpgkcdaaDoor
