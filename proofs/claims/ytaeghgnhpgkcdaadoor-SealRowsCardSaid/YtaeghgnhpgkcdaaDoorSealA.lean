/- Package seal: put, number. -/
import Derived.Test.YtaeghgnhpgkcdaaDoorSealM
import Derived.Test.YtaeghgnhpgkcdaaDoorShaPure
import Derived.IntWalk
namespace Go.Proofs.YtaeghgnhpgkcdaaDoor
open Go Go.RowKit
set_option maxRecDepth 100000

/-- Where put stands: j bytes are still to be written. -/
def PutAt (w : World) (g o k N : Nat) (t : TypeId) (cur : List Value) (j : Nat) (z : Int) (wr : World) : Prop :=
  j ≤ k ∧ z = (j : Int) - 1 ∧ Blk wr g t (splice cur (o + j) (ints .u8 (beB (k - j) N))) ∧ Upd g w wr
theorem splice_nil (cur : List Value) (o : Nat) : splice cur o [] = cur := by unfold splice; simp
theorem put_next {w wr : World} {g o k N m : Nat} {t : TypeId} {cur : List Value} (h : PutAt w g o k N t cur (m + 1) (m : Int) wr) (hk : o + k ≤ cur.length) (v : Int) (hv : v = ((N / 256 ^ (k - (m + 1)) % 256 : Nat) : Int)) : PutAt w g o k N t cur m ((m : Int) - 1) (wr.setCell ⟨g, o + m, none⟩ (.int .u8 v)) := by
  obtain ⟨h1, h2, h3, h4⟩ := h
  refine ⟨by omega, rfl, ?_, h4.setCell _ _⟩
  have h5 := h3.set (o + m) (.int .u8 v)
  rw [show o + m = o + (m + 1) - 1 by omega, set_splice _ _ _ _ (by omega) (by rw [ints_length, beB_length]; omega)] at h5
  rw [show o + (m + 1) - 1 = o + m by omega] at h5
  have e : beB (k - m) N = v :: beB (k - (m + 1)) N := by
    rw [show k - m = (k - (m + 1)) + 1 by omega, beB_head, hv]
  rw [e]
  exact h5
theorem div_next (N j : Nat) : N / 256 ^ j / 256 = N / 256 ^ (j + 1) := by rw [Nat.div_div_eq_div_mul, Nat.pow_succ]
set_option maxHeartbeats 1000000 in
theorem put_walk (g o k cap N : Nat) (t : TypeId) (cur : List Value) (w : World) (hb : Blk w g t cur) (hk : o + k ≤ cur.length) (hk4 : k ≤ 8) (hN : N ≤ 9223372036854775807) :
    Calls Tryd.prog 39 #[.slice (some ⟨g, o, none⟩) k cap, .int .i64 (N : Int)] w fun e w' => e = .returned (.tuple #[]) ∧ Blk w' g t (splice cur o (ints .u8 (beB k N))) ∧ Upd g w w' := by
  have HK := Lib.hid hk
  have P0 : Hid (PutAt w g o k N t cur k ((k : Int) - 1) w) := ⟨Nat.le_refl _, rfl, by rw [Nat.sub_self, beB]; exact (splice_nil cur _).symm ▸ hb, Upd.refl _ _⟩
  clear hb hk
  go_enter Tryd.func39, Tryd.ntmps39
  go_wp2
  go_loopw [1, 4] (fun n i wr => ∃ (j M : Nat) (z : Int), n = .int .i64 (M : Int) ∧ i = .int .i64 z ∧ Hid (M = N / 256 ^ (k - j)) ∧ Hid (PutAt w g o k N t cur j z wr)) (fun _ i _ => (intOf i + 1).toNat)
  case atStart => exact ⟨k, N, _, rfl, rfl, by unfold Hid; simp, P0⟩
  case round =>
    obtain ⟨j, M, z, rfl, rfl, hM, hP⟩ := hrel
    have hMle : M ≤ 9223372036854775807 := by have := Nat.div_le_self N (256 ^ (k - j)); rw [hM.out]; omega
    cases j with
    | zero =>
      obtain rfl : z = -1 := by have := hP.out.2.1; omega
      go_wp2
      go_end0
      refine ⟨rfl, ?_, hP.out.2.2.2⟩
      have h := hP.out.2.2.1
      exact h
    | succ m =>
      obtain rfl : z = (m : Int) := by have := hP.out.2.1; omega
      have q1 : (m : Int) < (k : Int) := by have := hP.out.1; omega
      have q2 : m < k := by omega
      have q3 : (0 : Int) ≤ (m : Int) := by omega
      have f0 := hP.out.2.2.1.free (o + m)
      obtain ⟨x, hx⟩ : ∃ x, (splice cur (o + (m + 1)) (ints .u8 (beB (k - (m + 1)) N)))[o + m]? = some x := ⟨_, List.getElem?_eq_getElem (by rw [splice_length (by rw [ints_length, beB_length]; have := HK.out; omega)]; have := HK.out; omega)⟩
      have c0 := hP.out.2.2.1.cell hx
      have HX := Lib.hid hx
      clear hx
      go_wp2
      refine ⟨⟨m, M / 256, (m : Int) - 1, by go_num, by go_num, ?_, put_next hP.out HK.out _ ?_⟩, by simp [intOf]⟩
      · unfold Hid
        rw [hM.out, div_next, show k - (m + 1) + 1 = k - m by omega]
      · rw [← hM.out]
        omega
theorem shl8_or (n b : Int) (h0 : 0 ≤ n) (h1 : n < 4294967296) (hb : 0 ≤ b ∧ b ≤ 255) : bits BinOp.or IntKind.i64 (n * 256) b = n * 256 + b := by
  obtain ⟨n, rfl⟩ := Int.eq_ofNat_of_zero_le h0
  obtain ⟨b, rfl⟩ := Int.eq_ofNat_of_zero_le hb.1
  have e1 : (BitVec.ofInt 64 ((n : Int) * 256)).toNat = 256 * n := by rw [BitVec.toNat_ofInt]; omega
  have e2 : (BitVec.ofInt 64 (b : Int)).toNat = b := by rw [BitVec.toNat_ofInt]; omega
  have e3 : (BitVec.ofInt 64 ((n : Int) * 256) ||| BitVec.ofInt 64 (b : Int)).toNat = 256 * n + b := by
    rw [BitVec.toNat_or, e1, e2]
    exact (Nat.two_pow_add_eq_or_of_lt (i := 8) (show b < 2 ^ 8 by omega) n).symm
  have h2 : bits BinOp.or IntKind.i64 ((n : Int) * 256) (b : Int) = IntKind.i64.wrap ((BitVec.ofInt 64 ((n : Int) * 256) ||| BitVec.ofInt 64 (b : Int)).toNat : Int) := rfl
  rw [h2, e3, IntWalk.i64_in _ (by omega)]
  omega
set_option maxHeartbeats 1000000 in
theorem number_walk (g o k cap : Nat) (zs : List Int) (w : World) (hr : w.rangeAt g o (ints .u8 zs)) (hl : zs.length = k) (hb : isBytes zs) (hk : k ≤ 4) :
    Calls Tryd.prog 37 #[.slice (some ⟨g, o, none⟩) k cap] w fun e w' => e = .returned (.int .i64 (numB zs)) ∧ w = w' := by
  have HR := Lib.hid hr
  have HL := Lib.hid hl
  have HB := Lib.hid hb
  clear hr hl hb
  go_enter Tryd.func37, Tryd.ntmps37
  go_wp2
  go_loop [3, 8] (fun n i => ∃ (j : Nat) (z : Int), j ≤ k ∧ i = .int .i64 (j : Int) ∧ n = .int .i64 z ∧ Hid (z = numB (zs.take j))) (fun _ i => k - (intOf i).toNat)
  case atStart => exact ⟨0, 0, Nat.zero_le _, rfl, rfl, rfl⟩
  case round =>
    obtain ⟨j, z, hj, rfl, rfl, hz⟩ := hrel
    have hz0 := numB_range (bytes_take HB.out j)
    have hpow : (256 : Int) ^ (zs.take j).length ≤ 256 ^ 4 := by
      have := HL.out
      exact_mod_cast Nat.pow_le_pow_right (show 0 < 256 by decide) (show (zs.take j).length ≤ 4 by rw [List.length_take]; omega)
    rw [← hz.out] at hz0
    by_cases hlt : j < k
    · have q1 : (j : Int) < (k : Int) := by omega
      have z0 : 0 ≤ z := hz0.1
      have z1 : z < 4294967296 := by omega
      have hx : zs[j]? = some (zs.getD j 0) := by
        rw [List.getD_eq_getElem?_getD, List.getElem?_eq_getElem (by rw [HL.out]; exact hlt)]; rfl
      have c0 := HR.out j _ (ints_get hx)
      have bx := HB.out (zs.getD j 0) (List.mem_of_getElem? hx)
      have HN : Hid (z * 256 + zs.getD j 0 = numB (zs.take (j + 1))) := by
        unfold Hid
        rw [List.take_add_one, hx, Option.toList_some, numB_snoc, hz.out]
      generalize zs.getD j 0 = x at *
      have b0 := bx.1
      have b1 := bx.2
      clear hx bx hpow hz0
      go_wp2
      refine ⟨⟨j + 1, z * 256 + x, by omega, by go_num, ?_, HN⟩, by simp [intOf]; omega⟩
      rw [shl8_or z x z0 z1 ⟨b0, b1⟩]
    · have q1 : ¬ (j : Int) < (k : Int) := by omega
      clear hpow hz0
      go_wp2
      go_ret
      refine ⟨ret_int ?_, rfl⟩
      rw [hz.out, List.take_of_length_le (by have := HL.out; omega)]
end Go.Proofs.YtaeghgnhpgkcdaaDoor
