/- Package seal: put, number. -/
import Derived.Test.YtngpmilojfbpmaaDoorSealM
import Derived.Test.YtngpmilojfbpmaaDoorShaPure
import Derived.IntWalk
import Derived.Test.YtngpmilojfbpmaaDoorGenS
namespace Go.Proofs.YtngpmilojfbpmaaDoor
open Go Go.RowKit
set_option maxRecDepth 100000

/-- Where put stands: j bytes are still to be written. -/
def PutAt (w : World) (g o k N : Nat) (t : TypeId) (cur : List Value) (j : Nat) (z : Int) (wr : World) : Prop :=
  j ≤ k ∧ z = (j : Int) - 1 ∧ Blk wr g t (splice cur (o + j) (ints .u8 (beB (k - j) N))) ∧ Upd g w wr
theorem splice_nil (cur : List Value) (o : Nat) : splice cur o [] = cur := by unfold splice; simp
theorem put_next {w wr : World} {g o k N m : Nat} {t : TypeId} {cur : List Value} (h : PutAt w g o k N t cur (m + 1) (m : Int) wr) (hk : o + k ≤ cur.length) (v : Int) (hv : v = ((N / 256 ^ (k - (m + 1)) % 256 : Nat) : Int)) : PutAt w g o k N t cur m ((m : Int) - 1) (wr.setCell ⟨g, o + m, none⟩ (.int .u8 v)) := by
  obtain ⟨h1, h2, h3, h4⟩ := h
  refine ⟨by omega, rfl, ?_, h4.setCell _ _⟩
  have h5 := h3.set (o + m) (.int .u8 v)
  rw [show o + m = o + (m + 1) - 1 by omega, set_splice _ _ _ _ (by omega) (by rw [ints_length, beB_length]; omega)] at h5
  rw [show o + (m + 1) - 1 = o + m by omega] at h5
  have e : beB (k - m) N = v :: beB (k - (m + 1)) N := by
    rw [show k - m = (k - (m + 1)) + 1 by omega, beB_head, hv]
  rw [e]
  exact h5
theorem div_next (N j : Nat) : N / 256 ^ j / 256 = N / 256 ^ (j + 1) := by rw [Nat.div_div_eq_div_mul, Nat.pow_succ]
set_option maxHeartbeats 1000000 in
theorem put_walk (g o k cap N : Nat) (t : TypeId) (cur : List Value) (w : World) (hb : Blk w g t cur) (hk : o + k ≤ cur.length) (hk4 : k ≤ 8) (hN : N ≤ 9223372036854775807) :
    Calls Tryd.prog 101 #[.slice (some ⟨g, o, none⟩) k cap, .int .i64 (N : Int)] w fun e w' => e = .returned (.tuple #[]) ∧ Blk w' g t (splice cur o (ints .u8 (beB k N))) ∧ Upd g w w' := by
  have HK := Lib.hid hk
  have P0 : Hid (PutAt w g o k N t cur k ((k : Int) - 1) w) := ⟨Nat.le_refl _, rfl, by rw [Nat.sub_self, beB]; exact (splice_nil cur _).symm ▸ hb, Upd.refl _ _⟩
  clear hb hk
  go_enter Tryd.func101, Tryd.ntmps101
  go_wp2
  go_loopw [1, 4] (fun n i wr => ∃ (j M : Nat) (z : Int), n = .int .i64 (M : Int) ∧ i = .int .i64 z ∧ Hid (M = N / 256 ^ (k - j)) ∧ Hid (PutAt w g o k N t cur j z wr)) (fun _ i _ => (intOf i + 1).toNat)
  case atStart => exact ⟨k, N, _, rfl, rfl, by unfold Hid; simp, P0⟩
  case round =>
    obtain ⟨j, M, z, rfl, rfl, hM, hP⟩ := hrel
    have hMle : M ≤ 9223372036854775807 := by have := Nat.div_le_self N (256 ^ (k - j)); rw [hM.out]; omega
    cases j with
    | zero =>
      obtain rfl : z = -1 := by have := hP.out.2.1; omega
      go_wp2
      go_end0
      refine ⟨rfl, ?_, hP.out.2.2.2⟩
      have h := hP.out.2.2.1
      exact h
    | succ m =>
      obtain rfl : z = (m : Int) := by have := hP.out.2.1; omega
      have q1 : (m : Int) < (k : Int) := by have := hP.out.1; omega
      have q2 : m < k := by omega
      have q3 : (0 : Int) ≤ (m : Int) := by omega
      have f0 := hP.out.2.2.1.free (o + m)
      obtain ⟨x, hx⟩ : ∃ x, (splice cur (o + (m + 1)) (ints .u8 (beB (k - (m + 1)) N)))[o + m]? = some x := ⟨_, List.getElem?_eq_getElem (by rw [splice_length (by rw [ints_length, beB_length]; have := HK.out; omega)]; have := HK.out; omega)⟩
      have c0 := hP.out.2.2.1.cell hx
      have HX := Lib.hid hx
      clear hx
      go_wp2
      refine ⟨⟨m, M / 256, (m : Int) - 1, by go_num, by go_num, ?_, put_next hP.out HK.out _ ?_⟩, by simp [intOf]⟩
      · unfold Hid
        rw [hM.out, div_next, show k - (m + 1) + 1 = k - m by omega]
      · rw [← hM.out]
        omega
theorem shl8_or (n b : Int) (h0 : 0 ≤ n) (h1 : n < 4294967296) (hb : 0 ≤ b ∧ b ≤ 255) : bits BinOp.or IntKind.i64 (n * 256) b = n * 256 + b := by
  obtain ⟨n, rfl⟩ := Int.eq_ofNat_of_zero_le h0
  obtain ⟨b, rfl⟩ := Int.eq_ofNat_of_zero_le hb.1
  have e1 : (BitVec.ofInt 64 ((n : Int) * 256)).toNat = 256 * n := by rw [BitVec.toNat_ofInt]; omega
  have e2 : (BitVec.ofInt 64 (b : Int)).toNat = b := by rw [BitVec.toNat_ofInt]; omega
  have e3 : (BitVec.ofInt 64 ((n : Int) * 256) ||| BitVec.ofInt 64 (b : Int)).toNat = 256 * n + b := by
    rw [BitVec.toNat_or, e1, e2]
    exact (Nat.two_pow_add_eq_or_of_lt (i := 8) (show b < 2 ^ 8 by omega) n).symm
  have h2 : bits BinOp.or IntKind.i64 ((n : Int) * 256) (b : Int) = IntKind.i64.wrap ((BitVec.ofInt 64 ((n : Int) * 256) ||| BitVec.ofInt 64 (b : Int)).toNat : Int) := rfl
  rw [h2, e3, IntWalk.i64_in _ (by omega)]
  omega
set_option maxHeartbeats 1000000 in
theorem number_walk (g o k cap : Nat) (zs : List Int) (w : World) (hr : w.rangeAt g o (ints .u8 zs)) (hl : zs.length = k) (hb : isBytes zs) (hk : k ≤ 4) :
    Calls Tryd.prog 127 #[.slice (some ⟨g, o, none⟩) k cap] w fun e w' => e = .returned (.int .i64 (numB zs)) ∧ w = w' := by
  have HR := Lib.hid hr
  have HL := Lib.hid hl
  have HB := Lib.hid hb
  clear hr hl hb
  go_enter Tryd.func127, Tryd.ntmps127
  go_wp2
  go_loop [3, 8] (fun n i => ∃ (j : Nat) (z : Int), j ≤ k ∧ i = .int .i64 (j : Int) ∧ n = .int .i64 z ∧ Hid (z = numB (zs.take j))) (fun _ i => k - (intOf i).toNat)
  case atStart => exact ⟨0, 0, Nat.zero_le _, rfl, rfl, rfl⟩
  case round =>
    obtain ⟨j, z, hj, rfl, rfl, hz⟩ := hrel
    have hz0 := numB_range (bytes_take HB.out j)
    have hpow : (256 : Int) ^ (zs.take j).length ≤ 256 ^ 4 := by
      have := HL.out
      exact_mod_cast Nat.pow_le_pow_right (show 0 < 256 by decide) (show (zs.take j).length ≤ 4 by rw [List.length_take]; omega)
    rw [← hz.out] at hz0
    by_cases hlt : j < k
    · have q1 : (j : Int) < (k : Int) := by omega
      have z0 : 0 ≤ z := hz0.1
      have z1 : z < 4294967296 := by omega
      have hx : zs[j]? = some (zs.getD j 0) := by
        rw [List.getD_eq_getElem?_getD, List.getElem?_eq_getElem (by rw [HL.out]; exact hlt)]; rfl
      have c0 := HR.out j _ (ints_get hx)
      have bx := HB.out (zs.getD j 0) (List.mem_of_getElem? hx)
      have HN : Hid (z * 256 + zs.getD j 0 = numB (zs.take (j + 1))) := by
        unfold Hid
        rw [List.take_add_one, hx, Option.toList_some, numB_snoc, hz.out]
      generalize zs.getD j 0 = x at *
      have b0 := bx.1
      have b1 := bx.2
      clear hx bx hpow hz0
      go_wp2
      refine ⟨⟨j + 1, z * 256 + x, by omega, by go_num, ?_, HN⟩, by simp [intOf]; omega⟩
      rw [shl8_or z x z0 z1 ⟨b0, b1⟩]
    · have q1 : ¬ (j : Int) < (k : Int) := by omega
      clear hpow hz0
      go_wp2
      go_ret
      refine ⟨ret_int ?_, rfl⟩
      rw [hz.out, List.take_of_length_le (by have := HL.out; omega)]
end Go.Proofs.YtngpmilojfbpmaaDoor
/- Package seal: markOf, firstMark, lastMark, gen, num, sector. -/
namespace Go.Proofs.YtngpmilojfbpmaaDoor
open Go Go.RowKit
set_option maxRecDepth 100000

def z8 : List Int := List.replicate 8 0
theorem z8_length : z8.length = 8 := rfl
theorem zeroMark : (Tryd.prog.info? 143).map (·.zero) = some (some (.agg (ints .u8 z8).toArray)) := by kernel_rfl
theorem sizeMark : (Tryd.prog.info? 143).map (·.size) = some 8 := by kernel_rfl
theorem infoMark (l : List Int) (h : l.length = 8) : (Tryd.prog.info? 143).map (·.size) = some (ints .u8 l).length := by rw [ints_length, h]; exact sizeMark
theorem size1Byte : (Tryd.prog.info? 5).map (·.size) = some 1 := by kernel_rfl
theorem splice_ints (cur vs : List Int) (o : Nat) : splice (ints .u8 cur) o (ints .u8 vs) = ints .u8 (cur.take o ++ (vs ++ cur.drop (o + vs.length))) := by
  unfold splice
  rw [ints_length]
  simp [ints]
theorem mark_cells (g n : Nat) : splice (splice (ints .u8 z8) 0 (ints .u8 (beB 4 g))) 4 (ints .u8 (beB 4 n)) = ints .u8 (markP g n) := by
  rw [splice_ints, splice_ints]
  congr 1
theorem range_part {w : World} {g : Nat} {t : TypeId} {l : List Int} (h : Blk w g t (ints .u8 l)) (o n : Nat) : w.rangeAt g o (ints .u8 ((l.drop o).take n)) := by
  have := h.range o n
  rwa [ints_drop, ints_take] at this
set_option maxHeartbeats 1000000 in
theorem markof_walk (gen num : Nat) (hg : gen ≤ 9223372036854775807) (hn : num ≤ 9223372036854775807) (w : World) :
    Calls Tryd.prog 90 #[.int .i64 (gen : Int), .int .i64 (num : Int)] w fun e w' => e = .returned (.agg (ints .u8 (markP gen num)).toArray) ∧ Below w.heap.size w w' := by
  obtain ⟨B, hB⟩ : ∃ B, Hid (w.heap.size = B) := ⟨_, rfl⟩
  rw [hB.out]
  go_enter Tryd.func90, Tryd.ntmps90
  go_upto_region 0 with (fail)
  refine lin_begin (opsOf Tryd.f90 0) (by kernel_rfl) ?_
  refine lin_alloc 0 143 (ints .u8 z8) (B) (some 4) (by kernel_rfl) (by kernel_rfl) (by kernel_rfl) zeroMark hB ?_
  intro w1 b1 be1 hs1
  refine lin_done 1 (by kernel_rfl) ?_
  have A1 := Lib.hid b1
  have BE1 := Lib.hid be1
  clear b1 be1
  generalize hact : Act.put _ (some 4) _ = act
  simp only [Act.put, List.setIfInBounds_toArray, List.set_cons_succ, List.set_cons_zero] at hact
  subst hact
  go_upto_region 1 with (fail)
  refine lin_begin (opsOf Tryd.f90 1) (by kernel_rfl) ?_
  refine lin_alloc 0 143 (ints .u8 z8) (B + 1) (some 5) (by kernel_rfl) (by kernel_rfl) (by kernel_rfl) zeroMark hs1 ?_
  intro w2 b2 be2 hs2
  refine lin_done 1 (by kernel_rfl) ?_
  have A2 := Lib.hid (A1.out.below be2 (Nat.lt_succ_self _))
  have M2 := Lib.hid b2
  have BE2 := Lib.hid (BE1.out.trans (be2.mono (Nat.le_succ _)))
  clear b2 be2 A1 BE1 hs1
  generalize hact : Act.put _ (some 5) _ = act
  simp only [Act.put, List.setIfInBounds_toArray, List.set_cons_succ, List.set_cons_zero] at hact
  subst hact
  go_upto_region 2 with (fail)
  refine lin_begin (opsOf Tryd.f90 2) (by kernel_rfl) ?_
  refine lin_now 0 (.slice (some ⟨B + 1, 0, none⟩) 4 8) (some 6) (by kernel_rfl) (by kernel_rfl) (by kernel_rfl) ?_
  refine lin_now 1 (.int .i64 (gen : Int)) (some 7) (by kernel_rfl) (by kernel_rfl) (by kernel_rfl) ?_
  refine lin_call 2 101 #[.slice (some ⟨B + 1, 0, none⟩) 4 8, .int .i64 (gen : Int)] (some 8) _ (by kernel_rfl) (by kernel_rfl) (by kernel_rfl) (put_walk (B + 1) 0 4 8 gen _ _ _ M2.out (by rw [ints_length, z8_length]; omega) (by omega) hg) ?_
  rintro e w3 ⟨rfl, b3, u3⟩
  refine ⟨_, rfl, ?_⟩
  refine lin_done 3 (by kernel_rfl) ?_
  have A3 := Lib.hid (u3.blk A2.out (by omega))
  have M3 := Lib.hid b3
  have BE3 := Lib.hid (u3.below BE2.out (Nat.le_succ _) (by rw [hs2.out]; omega))
  have hs3 : Hid (B + 1 ≤ w3.heap.size) := by unfold Hid; have := u3.size; have := hs2.out; omega
  clear b3 u3 A2 M2 BE2 hs2
  generalize hact : Act.put _ (some 8) _ = act
  simp only [Act.put, List.setIfInBounds_toArray, List.set_cons_succ, List.set_cons_zero] at hact
  subst hact
  go_upto_region 3 with (fail)
  refine lin_begin (opsOf Tryd.f90 3) (by kernel_rfl) ?_
  refine lin_now 0 (.slice (some ⟨B + 1, 4, none⟩) 4 4) (some 9) (by kernel_rfl) (by kernel_rfl) (by kernel_rfl) ?_
  refine lin_now 1 (.int .i64 (num : Int)) (some 10) (by kernel_rfl) (by kernel_rfl) (by kernel_rfl) ?_
  refine lin_call 2 101 #[.slice (some ⟨B + 1, 4, none⟩) 4 4, .int .i64 (num : Int)] (some 11) _ (by kernel_rfl) (by kernel_rfl) (by kernel_rfl) (put_walk (B + 1) 4 4 4 num _ _ _ M3.out (by rw [splice_length (by rw [ints_length, ints_length, beB_length, z8_length]; omega), ints_length, z8_length]; omega) (by omega) hn) ?_
  rintro e w4 ⟨rfl, b4, u4⟩
  rw [mark_cells] at b4
  refine ⟨_, rfl, ?_⟩
  refine lin_done 3 (by kernel_rfl) ?_
  have A4 := Lib.hid (u4.blk A3.out (by omega))
  have M4 := Lib.hid b4
  have BE4 := Lib.hid (u4.below BE3.out (Nat.le_succ _) (by have := hs3.out; omega))
  have hs4 : Hid (B + 1 ≤ w4.heap.size) := by unfold Hid; have := u4.size; have := hs3.out; omega
  clear b4 u4 A3 M3 BE3 hs3
  generalize hact : Act.put _ (some 11) _ = act
  simp only [Act.put, List.setIfInBounds_toArray, List.set_cons_succ, List.set_cons_zero] at hact
  subst hact
  go_upto_region 4 with (fail)
  refine lin_begin (opsOf Tryd.f90 4) (by kernel_rfl) ?_
  refine lin_load 0 143 (.tmp 5) (B + 1) _ (ints .u8 (markP gen num)) (some 12) (by kernel_rfl) (by kernel_rfl) (by kernel_rfl) (by kernel_rfl) M4.out _ Tryd.underlying143 rfl (infoMark _ (markP_length _ _)) ?_
  refine lin_put 1 143 (.tmp 4) (.tmp 12) (B) _ (ints .u8 z8) (ints .u8 (markP gen num)) (by kernel_rfl) (by kernel_rfl) (by kernel_rfl) (by kernel_rfl) (by kernel_rfl) A4.out (by rw [ints_length, ints_length, markP_length, z8_length]) (infoMark _ (markP_length _ _)) (ints_oneCell _ _) ?_
  intro w5 b5 u5
  refine lin_done 2 (by kernel_rfl) ?_
  have A5 := Lib.hid b5
  have BE5 := Lib.hid (u5.below BE4.out (Nat.le_refl _) (by have := hs4.out; omega))
  clear b5 u5 A4 M4 BE4 hs4
  generalize hact : Act.put _ none _ = act
  simp only [Act.put, List.setIfInBounds_toArray, List.set_cons_succ, List.set_cons_zero] at hact
  subst hact
  go_wp2
  refine bodyPost_ret (v := .agg (ints .u8 (markP gen num)).toArray) ?_ rfl ⟨rfl, BE5.out⟩
  exact results_cell_row (g := B) (t := 143) (cs := (ints .u8 (markP gen num)).toArray) (fr := (0, 0)) Tryd.results90 _ _ _ rfl A5.out Tryd.underlying143 rfl (by rw [List.size_toArray]; exact (infoMark _ (markP_length _ _)))
set_option maxHeartbeats 1000000 in
theorem firstmark_walk (b : List Int) (hb : b.length = 64) (w : World) :
    Calls Tryd.prog 114 #[.agg (ints .u8 b).toArray] w fun e w' => e = .returned (.agg (ints .u8 (b.take 8)).toArray) ∧ Below w.heap.size w w' := by
  obtain ⟨m, hm⟩ : ∃ m, Hid (b.take 8 = m) := ⟨_, rfl⟩
  have HM : Hid (m.length = 8) := by unfold Hid; rw [← hm.out]; simp [hb]
  rw [hm.out]
  obtain ⟨B, hB⟩ : ∃ B, Hid (w.heap.size = B) := ⟨_, rfl⟩
  rw [hB.out]
  clear hb
  go_enter Tryd.func114, Tryd.ntmps114
  go_upto_region 0 with (fail)
  refine lin_begin (opsOf Tryd.f114 0) (by kernel_rfl) ?_
  refine lin_box 0 91 (.tmp 0) (ints .u8 b) (B) (some 1) (by kernel_rfl) (by kernel_rfl) (by kernel_rfl) (by kernel_rfl) hB ?_
  intro w1 b1 be1 hs1
  refine lin_alloc 1 143 (ints .u8 z8) (B + 1) (some 2) (by kernel_rfl) (by kernel_rfl) (by kernel_rfl) zeroMark hs1 ?_
  intro w2 b2 be2 hs2
  refine lin_done 2 (by kernel_rfl) ?_
  have X2 := Lib.hid (b1.below be2 (Nat.lt_succ_self _))
  have A2 := Lib.hid b2
  have BE2 := Lib.hid (be1.trans (be2.mono (Nat.le_succ _)))
  clear b1 be1 b2 be2 hs1
  generalize hact : Act.put _ (some 2) _ = act
  simp only [Act.put, List.setIfInBounds_toArray, List.set_cons_succ, List.set_cons_zero] at hact
  subst hact
  go_upto_region 1 with (fail)
  refine lin_begin (opsOf Tryd.f114 1) (by kernel_rfl) ?_
  refine lin_alloc 0 143 (ints .u8 z8) (B + 1 + 1) (some 3) (by kernel_rfl) (by kernel_rfl) (by kernel_rfl) zeroMark hs2 ?_
  intro w3 b3 be3 hs3
  refine lin_done 1 (by kernel_rfl) ?_
  have X3 := Lib.hid (X2.out.below be3 (by omega))
  have A3 := Lib.hid (A2.out.below be3 (by omega))
  have M3 := Lib.hid b3
  have BE3 := Lib.hid (BE2.out.trans (be3.mono (by omega)))
  clear b3 be3 X2 A2 BE2 hs2
  generalize hact : Act.put _ (some 3) _ = act
  simp only [Act.put, List.setIfInBounds_toArray, List.set_cons_succ, List.set_cons_zero] at hact
  subst hact
  go_upto_region 2 with (fail)
  refine region_begin (opsOf Tryd.f114 2) (fun _ => True) (by kernel_rfl) (by kernel_rfl) 3 (by kernel_rfl) ?_
  intro Q' hQN hN
  refine reg_now 0 (.slice (some ⟨B + 1 + 1, 0, none⟩) 8 8) (some 4) hQN trivial (by kernel_rfl) (by kernel_rfl) (fun w => by kernel_rfl) ?_
  refine reg_now 1 (.slice (some ⟨B, 0, none⟩) 64 64) (some 5) hQN trivial (by kernel_rfl) (by kernel_rfl) (fun w => by kernel_rfl) ?_
  have hsrc : w3.drew.rangeAt B 0 (ints .u8 m) := by
    have h := range_part X3.out 0 8
    have e : (b.drop 0).take 8 = m := by rw [← hm.out]; rfl
    rw [e] at h
    exact h
  refine reg_copy 2 (some 6) (by kernel_rfl) (by kernel_rfl) 22 22 3 5 (B + 1 + 1) 0 8 8 B 0 64 64 (by kernel_rfl) Tryd.underlying22 size1Byte (ints .u8 z8) 143 M3.out (ints .u8 m) (by rw [ints_length, HM.out]; rfl) hsrc (by rw [ints_length, ints_length, HM.out, z8_length]; omega) (ints_one _ _) ?_
  intro w4 b4 u4
  refine ⟨trivial, ?_⟩
  refine reg_done (by kernel_rfl) (hN _ _ ?_)
  have e4 : splice (ints .u8 z8) 0 (ints .u8 m) = ints .u8 m := by
    rw [splice_ints, List.take_zero, List.nil_append, Nat.zero_add, HM.out, List.drop_eq_nil_of_le (by rw [z8_length]; omega), List.append_nil]
  rw [e4] at b4
  have hd3 : Below w3.heap.size w3 w3.drew := (Below.refl _ _).drew
  have A4 := Lib.hid (u4.blk (A3.out.below hd3 A3.out.lt) (by omega))
  have M4 := Lib.hid b4
  have BE4 := Lib.hid (u4.below (BE3.out.trans (hd3.mono (by rw [hs3.out]; omega))) (by omega) (by have : w3.drew.heap.size = B + 1 + 1 + 1 := hs3.out; omega))
  have hs4 : Hid (B + 1 ≤ w4.heap.size) := by unfold Hid; have h4 : w3.heap.size ≤ w4.heap.size := u4.size; have := hs3.out; omega
  clear b4 u4 A3 M3 BE3 hs3 X3 hQN hN hsrc e4 hd3
  generalize hact : Act.put _ (some 6) _ = act
  simp only [Act.put, List.setIfInBounds_toArray, List.set_cons_succ, List.set_cons_zero] at hact
  subst hact
  go_upto_region 3 with (fail)
  refine lin_begin (opsOf Tryd.f114 3) (by kernel_rfl) ?_
  refine lin_load 0 143 (.tmp 3) (B + 1 + 1) _ (ints .u8 m) (some 7) (by kernel_rfl) (by kernel_rfl) (by kernel_rfl) (by kernel_rfl) M4.out _ Tryd.underlying143 rfl (infoMark _ HM.out) ?_
  refine lin_put 1 143 (.tmp 2) (.tmp 7) (B + 1) _ (ints .u8 z8) (ints .u8 m) (by kernel_rfl) (by kernel_rfl) (by kernel_rfl) (by kernel_rfl) (by kernel_rfl) A4.out (by rw [ints_length, ints_length, HM.out, z8_length]) (infoMark _ HM.out) (ints_oneCell _ _) ?_
  intro w5 b5 u5
  refine lin_done 2 (by kernel_rfl) ?_
  have A5 := Lib.hid b5
  have BE5 := Lib.hid (u5.below BE4.out (by omega) (by have := hs4.out; omega))
  clear b5 u5 A4 M4 BE4 hs4
  generalize hact : Act.put _ none _ = act
  simp only [Act.put, List.setIfInBounds_toArray, List.set_cons_succ, List.set_cons_zero] at hact
  subst hact
  go_wp2
  refine bodyPost_ret (v := .agg (ints .u8 (m)).toArray) ?_ rfl ⟨rfl, BE5.out⟩
  exact results_cell_row (g := B + 1) (t := 143) (cs := (ints .u8 (m)).toArray) (fr := (0, 0)) Tryd.results114 _ _ _ rfl A5.out Tryd.underlying143 rfl (by rw [List.size_toArray]; exact (infoMark _ HM.out))
set_option maxHeartbeats 1000000 in
theorem lastmark_walk (b : List Int) (hb : b.length = 64) (w : World) :
    Calls Tryd.prog 116 #[.agg (ints .u8 b).toArray] w fun e w' => e = .returned (.agg (ints .u8 (b.drop 56)).toArray) ∧ Below w.heap.size w w' := by
  have HB := Lib.hid hb
  obtain ⟨m, hm⟩ : ∃ m, Hid (b.drop 56 = m) := ⟨_, rfl⟩
  have HM : Hid (m.length = 8) := by unfold Hid; rw [← hm.out]; simp [hb]
  rw [hm.out]
  obtain ⟨B, hB⟩ : ∃ B, Hid (w.heap.size = B) := ⟨_, rfl⟩
  rw [hB.out]
  clear hb
  go_enter Tryd.func116, Tryd.ntmps116
  go_upto_region 0 with (fail)
  refine lin_begin (opsOf Tryd.f116 0) (by kernel_rfl) ?_
  refine lin_box 0 91 (.tmp 0) (ints .u8 b) (B) (some 1) (by kernel_rfl) (by kernel_rfl) (by kernel_rfl) (by kernel_rfl) hB ?_
  intro w1 b1 be1 hs1
  refine lin_alloc 1 143 (ints .u8 z8) (B + 1) (some 2) (by kernel_rfl) (by kernel_rfl) (by kernel_rfl) zeroMark hs1 ?_
  intro w2 b2 be2 hs2
  refine lin_done 2 (by kernel_rfl) ?_
  have X2 := Lib.hid (b1.below be2 (Nat.lt_succ_self _))
  have A2 := Lib.hid b2
  have BE2 := Lib.hid (be1.trans (be2.mono (Nat.le_succ _)))
  clear b1 be1 b2 be2 hs1
  generalize hact : Act.put _ (some 2) _ = act
  simp only [Act.put, List.setIfInBounds_toArray, List.set_cons_succ, List.set_cons_zero] at hact
  subst hact
  go_upto_region 1 with (fail)
  refine lin_begin (opsOf Tryd.f116 1) (by kernel_rfl) ?_
  refine lin_alloc 0 143 (ints .u8 z8) (B + 1 + 1) (some 3) (by kernel_rfl) (by kernel_rfl) (by kernel_rfl) zeroMark hs2 ?_
  intro w3 b3 be3 hs3
  refine lin_done 1 (by kernel_rfl) ?_
  have X3 := Lib.hid (X2.out.below be3 (by omega))
  have A3 := Lib.hid (A2.out.below be3 (by omega))
  have M3 := Lib.hid b3
  have BE3 := Lib.hid (BE2.out.trans (be3.mono (by omega)))
  clear b3 be3 X2 A2 BE2 hs2
  generalize hact : Act.put _ (some 3) _ = act
  simp only [Act.put, List.setIfInBounds_toArray, List.set_cons_succ, List.set_cons_zero] at hact
  subst hact
  go_upto_region 2 with (fail)
  refine region_begin (opsOf Tryd.f116 2) (fun _ => True) (by kernel_rfl) (by kernel_rfl) 3 (by kernel_rfl) ?_
  intro Q' hQN hN
  refine reg_now 0 (.slice (some ⟨B + 1 + 1, 0, none⟩) 8 8) (some 4) hQN trivial (by kernel_rfl) (by kernel_rfl) (fun w => by kernel_rfl) ?_
  refine reg_now 1 (.slice (some ⟨B, 56, none⟩) 8 8) (some 5) hQN trivial (by kernel_rfl) (by kernel_rfl) (fun w => by kernel_rfl) ?_
  have hsrc : w3.drew.rangeAt B 56 (ints .u8 m) := by
    have h := range_part X3.out 56 8
    have e : (b.drop 56).take 8 = m := by rw [← hm.out]; exact List.take_of_length_le (by rw [List.length_drop, HB.out]; omega)
    rw [e] at h
    exact h
  refine reg_copy 2 (some 6) (by kernel_rfl) (by kernel_rfl) 22 22 3 5 (B + 1 + 1) 0 8 8 B 56 8 8 (by kernel_rfl) Tryd.underlying22 size1Byte (ints .u8 z8) 143 M3.out (ints .u8 m) (by rw [ints_length, HM.out]; rfl) hsrc (by rw [ints_length, ints_length, HM.out, z8_length]; omega) (ints_one _ _) ?_
  intro w4 b4 u4
  refine ⟨trivial, ?_⟩
  refine reg_done (by kernel_rfl) (hN _ _ ?_)
  have e4 : splice (ints .u8 z8) 0 (ints .u8 m) = ints .u8 m := by
    rw [splice_ints, List.take_zero, List.nil_append, Nat.zero_add, HM.out, List.drop_eq_nil_of_le (by rw [z8_length]; omega), List.append_nil]
  rw [e4] at b4
  have hd3 : Below w3.heap.size w3 w3.drew := (Below.refl _ _).drew
  have A4 := Lib.hid (u4.blk (A3.out.below hd3 A3.out.lt) (by omega))
  have M4 := Lib.hid b4
  have BE4 := Lib.hid (u4.below (BE3.out.trans (hd3.mono (by rw [hs3.out]; omega))) (by omega) (by have : w3.drew.heap.size = B + 1 + 1 + 1 := hs3.out; omega))
  have hs4 : Hid (B + 1 ≤ w4.heap.size) := by unfold Hid; have h4 : w3.heap.size ≤ w4.heap.size := u4.size; have := hs3.out; omega
  clear b4 u4 A3 M3 BE3 hs3 X3 hQN hN hsrc e4 hd3
  generalize hact : Act.put _ (some 6) _ = act
  simp only [Act.put, List.setIfInBounds_toArray, List.set_cons_succ, List.set_cons_zero] at hact
  subst hact
  go_upto_region 3 with (fail)
  refine lin_begin (opsOf Tryd.f116 3) (by kernel_rfl) ?_
  refine lin_load 0 143 (.tmp 3) (B + 1 + 1) _ (ints .u8 m) (some 7) (by kernel_rfl) (by kernel_rfl) (by kernel_rfl) (by kernel_rfl) M4.out _ Tryd.underlying143 rfl (infoMark _ HM.out) ?_
  refine lin_put 1 143 (.tmp 2) (.tmp 7) (B + 1) _ (ints .u8 z8) (ints .u8 m) (by kernel_rfl) (by kernel_rfl) (by kernel_rfl) (by kernel_rfl) (by kernel_rfl) A4.out (by rw [ints_length, ints_length, HM.out, z8_length]) (infoMark _ HM.out) (ints_oneCell _ _) ?_
  intro w5 b5 u5
  refine lin_done 2 (by kernel_rfl) ?_
  have A5 := Lib.hid b5
  have BE5 := Lib.hid (u5.below BE4.out (by omega) (by have := hs4.out; omega))
  clear b5 u5 A4 M4 BE4 hs4
  generalize hact : Act.put _ none _ = act
  simp only [Act.put, List.setIfInBounds_toArray, List.set_cons_succ, List.set_cons_zero] at hact
  subst hact
  go_wp2
  refine bodyPost_ret (v := .agg (ints .u8 (m)).toArray) ?_ rfl ⟨rfl, BE5.out⟩
  exact results_cell_row (g := B + 1) (t := 143) (cs := (ints .u8 (m)).toArray) (fr := (0, 0)) Tryd.results116 _ _ _ rfl A5.out Tryd.underlying143 rfl (by rw [List.size_toArray]; exact (infoMark _ HM.out))
set_option maxHeartbeats 1000000 in
theorem mgen_walk (m : List Int) (hl : m.length = 8) (hb : isBytes m) (w : World) :
    Calls Tryd.prog 115 #[.agg (ints .u8 m).toArray] w fun e w' => e = .returned (.int .i64 (numB (m.take 4))) ∧ Below w.heap.size w w' := by
  have HL := Lib.hid hl
  have HB := Lib.hid hb
  obtain ⟨B, hB⟩ : ∃ B, Hid (w.heap.size = B) := ⟨_, rfl⟩
  rw [hB.out]
  clear hl hb
  go_enter Tryd.func115, Tryd.ntmps115
  go_upto_region 0 with (fail)
  refine lin_begin (opsOf Tryd.f115 0) (by kernel_rfl) ?_
  refine lin_box 0 143 (.tmp 0) (ints .u8 m) (B) (some 1) (by kernel_rfl) (by kernel_rfl) (by kernel_rfl) (by kernel_rfl) hB ?_
  intro w1 b1 be1 hs1
  refine lin_now 1 (.int .i64 0) (some 2) (by kernel_rfl) (by kernel_rfl) (by kernel_rfl) ?_
  refine lin_done 2 (by kernel_rfl) ?_
  have X1 := Lib.hid b1
  have BE1 := Lib.hid be1
  clear b1 be1
  generalize hact : Act.put _ (some 2) _ = act
  simp only [Act.put, List.setIfInBounds_toArray, List.set_cons_succ, List.set_cons_zero] at hact
  subst hact
  have hr : Hid (w1.rangeAt B 0 (ints .u8 (m.take 4))) := by
    have h := range_part X1.out 0 4
    have e : (m.drop 0).take 4 = m.take 4 := rfl
    rw [e] at h
    exact h
  go_upto_region 1 with (fail)
  refine lin_begin (opsOf Tryd.f115 1) (by kernel_rfl) ?_
  refine lin_now 0 (.slice (some ⟨B, 0, none⟩) 4 8) (some 3) (by kernel_rfl) (by kernel_rfl) (by kernel_rfl) ?_
  refine lin_call 1 127 #[.slice (some ⟨B, 0, none⟩) 4 8] (some 4) _ (by kernel_rfl) (by kernel_rfl) (by kernel_rfl) (number_walk B 0 4 8 (m.take 4) _ hr.out (by simp [HL.out]) (bytes_take HB.out 4) (by omega)) ?_
  rintro e w2 ⟨rfl, rfl⟩
  refine ⟨_, rfl, ?_⟩
  refine lin_now 2 (.int .i64 (numB (m.take 4))) (some 2) (by kernel_rfl) (by kernel_rfl) (by kernel_rfl) ?_
  refine lin_done 3 (by kernel_rfl) ?_
  generalize hact : Act.put _ (some 2) _ = act
  simp only [Act.put, List.setIfInBounds_toArray, List.set_cons_succ, List.set_cons_zero] at hact
  subst hact
  go_wp2
  go_ret
  exact ⟨rfl, BE1.out⟩
set_option maxHeartbeats 1000000 in
theorem mnum_walk (m : List Int) (hl : m.length = 8) (hb : isBytes m) (w : World) :
    Calls Tryd.prog 126 #[.agg (ints .u8 m).toArray] w fun e w' => e = .returned (.int .i64 (numB (m.drop 4))) ∧ Below w.heap.size w w' := by
  have HL := Lib.hid hl
  have HB := Lib.hid hb
  obtain ⟨B, hB⟩ : ∃ B, Hid (w.heap.size = B) := ⟨_, rfl⟩
  rw [hB.out]
  clear hl hb
  go_enter Tryd.func126, Tryd.ntmps126
  go_upto_region 0 with (fail)
  refine lin_begin (opsOf Tryd.f126 0) (by kernel_rfl) ?_
  refine lin_box 0 143 (.tmp 0) (ints .u8 m) (B) (some 1) (by kernel_rfl) (by kernel_rfl) (by kernel_rfl) (by kernel_rfl) hB ?_
  intro w1 b1 be1 hs1
  refine lin_now 1 (.int .i64 0) (some 2) (by kernel_rfl) (by kernel_rfl) (by kernel_rfl) ?_
  refine lin_done 2 (by kernel_rfl) ?_
  have X1 := Lib.hid b1
  have BE1 := Lib.hid be1
  clear b1 be1
  generalize hact : Act.put _ (some 2) _ = act
  simp only [Act.put, List.setIfInBounds_toArray, List.set_cons_succ, List.set_cons_zero] at hact
  subst hact
  have hr : Hid (w1.rangeAt B 4 (ints .u8 (m.drop 4))) := by
    have h := range_part X1.out 4 4
    have e : (m.drop 4).take 4 = m.drop 4 := List.take_of_length_le (by rw [List.length_drop, HL.out]; omega)
    rw [e] at h
    exact h
  go_upto_region 1 with (fail)
  refine lin_begin (opsOf Tryd.f126 1) (by kernel_rfl) ?_
  refine lin_now 0 (.slice (some ⟨B, 4, none⟩) 4 4) (some 3) (by kernel_rfl) (by kernel_rfl) (by kernel_rfl) ?_
  refine lin_call 1 127 #[.slice (some ⟨B, 4, none⟩) 4 4] (some 4) _ (by kernel_rfl) (by kernel_rfl) (by kernel_rfl) (number_walk B 4 4 4 (m.drop 4) _ hr.out (by simp [HL.out]) (bytes_drop HB.out 4) (by omega)) ?_
  rintro e w2 ⟨rfl, rfl⟩
  refine ⟨_, rfl, ?_⟩
  refine lin_now 2 (.int .i64 (numB (m.drop 4))) (some 2) (by kernel_rfl) (by kernel_rfl) (by kernel_rfl) ?_
  refine lin_done 3 (by kernel_rfl) ?_
  generalize hact : Act.put _ (some 2) _ = act
  simp only [Act.put, List.setIfInBounds_toArray, List.set_cons_succ, List.set_cons_zero] at hact
  subst hact
  go_wp2
  go_ret
  exact ⟨rfl, BE1.out⟩
end Go.Proofs.YtngpmilojfbpmaaDoor
/- Package seal: sector, Whole, Mark, Data. -/
namespace Go.Proofs.YtngpmilojfbpmaaDoor
open Go Go.RowKit
set_option maxRecDepth 100000

theorem splice_at (A C V : List Int) (o : Nat) (ho : A.length = o) : splice (ints .u8 (A ++ C)) o (ints .u8 V) = ints .u8 (A ++ (V ++ C.drop V.length)) := by
  subst ho
  rw [splice_ints, List.take_left, ← List.drop_drop, List.drop_left]
theorem zeros_drop (a b : Nat) : (zeros a).drop b = zeros (a - b) := by simp [zeros]
theorem zeros_add (a b : Nat) : zeros (a + b) = zeros a ++ zeros b := by unfold zeros; rw [List.replicate_append_replicate]
theorem zB_zeros : zB = zeros 64 := rfl
def sec1 (m : List Int) : List Int := m ++ zeros 56
def sec2 (m : List Int) (n : Nat) : List Int := m ++ (beB 2 n ++ zeros 54)
def sec3 (m data : List Int) : List Int := m ++ (beB 2 data.length ++ (data ++ zeros (54 - data.length)))
theorem cells1 {m : List Int} (hm : m.length = 8) : splice (ints .u8 zB) 0 (ints .u8 m) = ints .u8 (sec1 m) := by
  have h := splice_at [] zB m 0 rfl
  rw [List.nil_append, List.nil_append, zB_zeros, zeros_drop, hm] at h
  exact h
theorem cells2 {m : List Int} (hm : m.length = 8) (n : Nat) : splice (ints .u8 (sec1 m)) 8 (ints .u8 (beB 2 n)) = ints .u8 (sec2 m n) := by
  have h := splice_at m (zeros 56) (beB 2 n) 8 hm
  rw [zeros_drop, beB_length] at h
  exact h
theorem cells3 {m data : List Int} (hm : m.length = 8) : splice (ints .u8 (sec2 m data.length)) 10 (ints .u8 data) = ints .u8 (sec3 m data) := by
  have h := splice_at (m ++ beB 2 data.length) (zeros 54) data 10 (by rw [List.length_append, hm, beB_length])
  rw [zeros_drop, List.append_assoc, List.append_assoc] at h
  exact h
theorem cells4 {m data : List Int} (hm : m.length = 8) (hd : data.length ≤ 46) : splice (ints .u8 (sec3 m data)) 56 (ints .u8 m) = ints .u8 (sectorP m data) := by
  have h := splice_at (m ++ (beB 2 data.length ++ (data ++ zeros (46 - data.length)))) (zeros 8) m 56 (by simp only [List.length_append, hm, beB_length, zeros_length]; omega)
  rw [zeros_drop, hm, show zeros (8 - 8) = [] from rfl, List.append_nil] at h
  have e : (m ++ (beB 2 data.length ++ (data ++ zeros (46 - data.length)))) ++ zeros 8 = sec3 m data := by
    unfold sec3
    rw [show 54 - data.length = (46 - data.length) + 8 by omega, zeros_add]
    simp only [List.append_assoc]
  rw [e] at h
  rw [h]
  unfold sectorP
  simp only [List.append_assoc]
theorem sec1_length {m : List Int} (hm : m.length = 8) : (sec1 m).length = 64 := by simp only [sec1, List.length_append, hm, zeros_length]
theorem sec2_length {m : List Int} (hm : m.length = 8) (n : Nat) : (sec2 m n).length = 64 := by simp only [sec2, List.length_append, hm, zeros_length, beB_length]
theorem sec3_length {m data : List Int} (hm : m.length = 8) (hd : data.length ≤ 46) : (sec3 m data).length = 64 := by simp only [sec3, List.length_append, hm, zeros_length, beB_length]; omega
set_option maxHeartbeats 2000000 in
theorem sector_walk (m data : List Int) (pb po n c : Nat) (hm : m.length = 8) (hd : data.length = n) (hn : n ≤ 46) (w : World) (hr : w.rangeAt pb po (ints .u8 data)) (hp : pb < w.heap.size) :
    Calls Tryd.prog 89 #[.agg (ints .u8 m).toArray, .slice (some ⟨pb, po, none⟩) n c] w fun e w' => e = .returned (.agg (ints .u8 (sectorP m data)).toArray) ∧ Below w.heap.size w w' := by
  have HM := Lib.hid hm
  have HD := Lib.hid hd
  have HR := Lib.hid hr
  have HP := Lib.hid hp
  obtain ⟨s, hs⟩ : ∃ s, Hid (sectorP m data = s) := ⟨_, rfl⟩
  have HS : Hid (s.length = 64) := by unfold Hid; rw [← hs.out]; exact sectorP_length hm (by omega)
  have IS : Hid ((Tryd.prog.info? 91).map (·.size) = some (ints .u8 s).length) := infoBlk s HS.out
  rw [hs.out]
  obtain ⟨B, hB⟩ : ∃ B, Hid (w.heap.size = B) := ⟨_, rfl⟩
  rw [hB.out]
  clear hm hd hr hp
  go_enter Tryd.func89, Tryd.ntmps89
  go_upto_region 0 with (fail)
  refine lin_begin (opsOf Tryd.f89 0) (by kernel_rfl) ?_
  refine lin_box 0 143 (.tmp 0) (ints .u8 m) (B) (some 2) (by kernel_rfl) (by kernel_rfl) (by kernel_rfl) (by kernel_rfl) hB ?_
  intro w1 b1 be1 hs1
  refine lin_alloc 1 91 (ints .u8 zB) (B + 1) (some 4) (by kernel_rfl) (by kernel_rfl) (by kernel_rfl) zeroBlk hs1 ?_
  intro w2 b2 be2 hs2
  refine lin_done 2 (by kernel_rfl) ?_
  have X2 := Lib.hid (b1.below be2 (Nat.lt_succ_self _))
  have A2 := Lib.hid b2
  have BE2 := Lib.hid (be1.trans (be2.mono (Nat.le_succ _)))
  clear b1 be1 b2 be2 hs1
  generalize hact : Act.put _ (some 4) _ = act
  simp only [Act.put, List.setIfInBounds_toArray, List.set_cons_succ, List.set_cons_zero] at hact
  subst hact
  go_upto_region 1 with (fail)
  refine lin_begin (opsOf Tryd.f89 1) (by kernel_rfl) ?_
  refine lin_alloc 0 91 (ints .u8 zB) (B + 1 + 1) (some 5) (by kernel_rfl) (by kernel_rfl) (by kernel_rfl) zeroBlk hs2 ?_
  intro w3 b3 be3 hs3
  refine lin_done 1 (by kernel_rfl) ?_
  have X3 := Lib.hid (X2.out.below be3 (by omega))
  have A3 := Lib.hid (A2.out.below be3 (by omega))
  have M3 := Lib.hid b3
  have BE3 := Lib.hid (BE2.out.trans (be3.mono (by omega)))
  have S3 : Hid (B + 3 = w3.heap.size) := hs3.out.symm
  have R3 : Hid (w3.rangeAt pb po (ints .u8 data)) := fun j v hv => by rw [BE3.out.cell (p := ⟨pb, po + j, none⟩) (by have := HP.out; have := hB.out; simp; omega)]; exact HR.out j v hv
  have HPB : Hid (pb < B) := by unfold Hid; have := HP.out; have := hB.out; omega
  clear b3 be3 X2 A2 BE2 hs2 hs3 HR HP
  generalize hact : Act.put _ (some 5) _ = act
  simp only [Act.put, List.setIfInBounds_toArray, List.set_cons_succ, List.set_cons_zero] at hact
  subst hact
  have LE3 : Hid (B + 3 ≤ w3.heap.size) := Nat.le_of_eq S3.out
  clear S3
  go_upto_region 2 with (fail)
  refine region_begin (opsOf Tryd.f89 2) (fun _ => True) (by kernel_rfl) (by kernel_rfl) 3 (by kernel_rfl) ?_
  intro Q' hQN hN
  refine reg_now 0 (.slice (some ⟨B + 1 + 1, 0, none⟩) 64 64) (some 6) hQN trivial (by kernel_rfl) (by kernel_rfl) (fun w => by kernel_rfl) ?_
  refine reg_now 1 (.slice (some ⟨B, 0, none⟩) 8 8) (some 7) hQN trivial (by kernel_rfl) (by kernel_rfl) (fun w => by kernel_rfl) ?_
  refine reg_copy 2 (some 8) (by kernel_rfl) (by kernel_rfl) 22 22 3 5 (B + 1 + 1) 0 64 64 B 0 8 8 (by kernel_rfl) Tryd.underlying22 size1Byte (ints .u8 zB) 91 M3.out (ints .u8 m) (by rw [ints_length, HM.out]; rfl) X3.out.whole (by rw [ints_length, ints_length, HM.out, zB_length]; omega) (ints_one _ _) ?_
  intro w4 b4 u4
  refine ⟨trivial, ?_⟩
  refine reg_done (by kernel_rfl) (hN _ _ ?_)
  rw [cells1 HM.out] at b4
  have M4 := Lib.hid b4
  have Yx : Blk w3.drew B 143 (ints .u8 m) := X3.out
  have Za : Blk w3.drew (B + 1) 91 (ints .u8 zB) := A3.out
  have Br : Below B w w3.drew := BE3.out.drew
  have Rr : w3.drew.rangeAt pb po (ints .u8 data) := R3.out
  have Ss : B + 3 ≤ w3.drew.heap.size := LE3.out
  have X4 := Lib.hid (u4.blk Yx (by omega))
  have A4 := Lib.hid (u4.blk Za (by omega))
  have BE4 := Lib.hid (u4.below Br (by omega) (by omega))
  have R4 : Hid (w4.rangeAt pb po (ints .u8 data)) := fun j v hv => by rw [u4.cell (p := ⟨pb, po + j, none⟩) (by have := HPB.out; simp only; omega) (by have := HPB.out; simp only; omega)]; exact Rr j v hv
  have LE4 : Hid (B + 3 ≤ w4.heap.size) := Nat.le_trans Ss u4.size
  clear Yx Za Br Rr Ss u4 X3 A3 BE3 R3 LE3
  clear b4 M3 hQN hN
  generalize hact : Act.put _ (some 8) _ = act
  simp only [Act.put, List.setIfInBounds_toArray, List.set_cons_succ, List.set_cons_zero] at hact
  subst hact
  go_upto_region 3 with (fail)
  refine lin_begin (opsOf Tryd.f89 3) (by kernel_rfl) ?_
  refine lin_now 0 (.slice (some ⟨B + 1 + 1, 8, none⟩) 2 56) (some 9) (by kernel_rfl) (by kernel_rfl) (by kernel_rfl) ?_
  refine lin_now 1 (.slice (some ⟨pb, po, none⟩) n c) (some 10) (by kernel_rfl) (by kernel_rfl) (by kernel_rfl) ?_
  refine lin_now 2 (.int .i64 (n : Int)) (some 11) (by kernel_rfl) (by kernel_rfl) (by kernel_rfl) ?_
  refine lin_call 3 101 #[.slice (some ⟨B + 1 + 1, 8, none⟩) 2 56, .int .i64 (n : Int)] (some 12) _ (by kernel_rfl) (by kernel_rfl) (by kernel_rfl) (put_walk (B + 1 + 1) 8 2 56 n _ _ _ M4.out (by rw [ints_length, sec1_length HM.out]; omega) (by omega) (by omega)) ?_
  rintro e w5 ⟨rfl, b5, u5⟩
  rw [cells2 HM.out] at b5
  refine ⟨_, rfl, ?_⟩
  refine lin_done 4 (by kernel_rfl) ?_
  have M5 := Lib.hid b5
  have Yx : Blk w4 B 143 (ints .u8 m) := X4.out
  have Za : Blk w4 (B + 1) 91 (ints .u8 zB) := A4.out
  have Br : Below B w w4 := BE4.out
  have Rr : w4.rangeAt pb po (ints .u8 data) := R4.out
  have Ss : B + 3 ≤ w4.heap.size := LE4.out
  have X5 := Lib.hid (u5.blk Yx (by omega))
  have A5 := Lib.hid (u5.blk Za (by omega))
  have BE5 := Lib.hid (u5.below Br (by omega) (by omega))
  have R5 : Hid (w5.rangeAt pb po (ints .u8 data)) := fun j v hv => by rw [u5.cell (p := ⟨pb, po + j, none⟩) (by have := HPB.out; simp only; omega) (by have := HPB.out; simp only; omega)]; exact Rr j v hv
  have LE5 : Hid (B + 3 ≤ w5.heap.size) := Nat.le_trans Ss u5.size
  clear Yx Za Br Rr Ss u5 X4 A4 BE4 R4 LE4
  clear b5 M4
  generalize hact : Act.put _ (some 12) _ = act
  simp only [Act.put, List.setIfInBounds_toArray, List.set_cons_succ, List.set_cons_zero] at hact
  subst hact
  have HDL : Hid (data.length = n) := HD
  go_upto_region 4 with (fail)
  refine lin_begin (opsOf Tryd.f89 4) (by kernel_rfl) ?_
  refine lin_now 0 (.slice (some ⟨B + 1 + 1, 10, none⟩) 46 54) (some 13) (by kernel_rfl) (by kernel_rfl) (by kernel_rfl) ?_
  refine lin_now 1 (.slice (some ⟨pb, po, none⟩) n c) (some 14) (by kernel_rfl) (by kernel_rfl) (by kernel_rfl) ?_
  refine lin_copy 2 (some 15) (by kernel_rfl) (by kernel_rfl) 22 22 3 5 (B + 1 + 1) 10 46 54 pb po n c (by kernel_rfl) Tryd.underlying22 size1Byte _ 91 M5.out (ints .u8 data) (by rw [ints_length, HD.out]; exact (Nat.min_eq_left hn).symm) R5.out (by rw [ints_length, ints_length, sec2_length HM.out, HD.out]; omega) (ints_one _ _) ?_
  intro w6 b6 u6
  refine lin_done 3 (by kernel_rfl) ?_
  rw [← HD.out, cells3 HM.out] at b6
  have M6 := Lib.hid b6
  have Yx : Blk w5 B 143 (ints .u8 m) := X5.out
  have Za : Blk w5 (B + 1) 91 (ints .u8 zB) := A5.out
  have Br : Below B w w5 := BE5.out
  have Rr : w5.rangeAt pb po (ints .u8 data) := R5.out
  have Ss : B + 3 ≤ w5.heap.size := LE5.out
  have X6 := Lib.hid (u6.blk Yx (by omega))
  have A6 := Lib.hid (u6.blk Za (by omega))
  have BE6 := Lib.hid (u6.below Br (by omega) (by omega))
  have R6 : Hid (w6.rangeAt pb po (ints .u8 data)) := fun j v hv => by rw [u6.cell (p := ⟨pb, po + j, none⟩) (by have := HPB.out; simp only; omega) (by have := HPB.out; simp only; omega)]; exact Rr j v hv
  have LE6 : Hid (B + 3 ≤ w6.heap.size) := Nat.le_trans Ss u6.size
  clear Yx Za Br Rr Ss u6 X5 A5 BE5 R5 LE5
  clear b6 M5
  generalize hact : Act.put _ (some 15) _ = act
  simp only [Act.put, List.setIfInBounds_toArray, List.set_cons_succ, List.set_cons_zero] at hact
  subst hact
  go_upto_region 5 with (fail)
  refine region_begin (opsOf Tryd.f89 5) (fun _ => True) (by kernel_rfl) (by kernel_rfl) 3 (by kernel_rfl) ?_
  intro Q' hQN hN
  refine reg_now 0 (.slice (some ⟨B + 1 + 1, 56, none⟩) 8 8) (some 16) hQN trivial (by kernel_rfl) (by kernel_rfl) (fun w => by kernel_rfl) ?_
  refine reg_now 1 (.slice (some ⟨B, 0, none⟩) 8 8) (some 17) hQN trivial (by kernel_rfl) (by kernel_rfl) (fun w => by kernel_rfl) ?_
  refine reg_copy 2 (some 18) (by kernel_rfl) (by kernel_rfl) 22 22 3 5 (B + 1 + 1) 56 8 8 B 0 8 8 (by kernel_rfl) Tryd.underlying22 size1Byte _ 91 M6.out (ints .u8 m) (by rw [ints_length, HM.out]; rfl) X6.out.whole (by rw [ints_length, ints_length, HM.out, sec3_length HM.out (by rw [HD.out]; omega)]; omega) (ints_one _ _) ?_
  intro w7 b7 u7
  refine ⟨trivial, ?_⟩
  refine reg_done (by kernel_rfl) (hN _ _ ?_)
  rw [cells4 HM.out (by rw [HD.out]; omega), hs.out] at b7
  have M7 := Lib.hid b7
  have Yx : Blk w6.drew B 143 (ints .u8 m) := X6.out
  have Za : Blk w6.drew (B + 1) 91 (ints .u8 zB) := A6.out
  have Br : Below B w w6.drew := BE6.out.drew
  have Rr : w6.drew.rangeAt pb po (ints .u8 data) := R6.out
  have Ss : B + 3 ≤ w6.drew.heap.size := LE6.out
  have X7 := Lib.hid (u7.blk Yx (by omega))
  have A7 := Lib.hid (u7.blk Za (by omega))
  have BE7 := Lib.hid (u7.below Br (by omega) (by omega))
  have R7 : Hid (w7.rangeAt pb po (ints .u8 data)) := fun j v hv => by rw [u7.cell (p := ⟨pb, po + j, none⟩) (by have := HPB.out; simp only; omega) (by have := HPB.out; simp only; omega)]; exact Rr j v hv
  have LE7 : Hid (B + 3 ≤ w7.heap.size) := Nat.le_trans Ss u7.size
  clear Yx Za Br Rr Ss u7 X6 A6 BE6 R6 LE6
  clear b7 M6 hQN hN
  generalize hact : Act.put _ (some 18) _ = act
  simp only [Act.put, List.setIfInBounds_toArray, List.set_cons_succ, List.set_cons_zero] at hact
  subst hact
  go_upto_region 6 with (fail)
  refine lin_begin (opsOf Tryd.f89 6) (by kernel_rfl) ?_
  refine lin_load 0 91 (.tmp 5) (B + 1 + 1) _ (ints .u8 s) (some 19) (by kernel_rfl) (by kernel_rfl) (by kernel_rfl) (by kernel_rfl) M7.out _ Tryd.underlying91 rfl IS.out ?_
  refine lin_put 1 91 (.tmp 4) (.tmp 19) (B + 1) _ (ints .u8 zB) (ints .u8 s) (by kernel_rfl) (by kernel_rfl) (by kernel_rfl) (by kernel_rfl) (by kernel_rfl) A7.out (by rw [ints_length, ints_length, HS.out, zB_length]) IS.out (ints_oneCell _ _) ?_
  intro w8 b8 u8
  refine lin_done 2 (by kernel_rfl) ?_
  have A8 := Lib.hid b8
  have BE8 := Lib.hid (u8.below BE7.out (by omega) (by have := LE7.out; omega))
  clear b8 u8 X7 A7 M7 BE7 R7 LE7
  generalize hact : Act.put _ none _ = act
  simp only [Act.put, List.setIfInBounds_toArray, List.set_cons_succ, List.set_cons_zero] at hact
  subst hact
  go_wp2
  refine bodyPost_ret (v := .agg (ints .u8 (s)).toArray) ?_ rfl ⟨rfl, BE8.out⟩
  exact results_cell_row (g := B + 1) (t := 91) (cs := (ints .u8 (s)).toArray) (fr := (0, 0)) Tryd.results89 _ _ _ rfl A8.out Tryd.underlying91 rfl (by rw [List.size_toArray]; exact IS.out)
end Go.Proofs.YtngpmilojfbpmaaDoor
/- Package seal: Whole, Mark, Data, Need. -/
namespace Go.Proofs.YtngpmilojfbpmaaDoor
open Go Go.RowKit
set_option maxRecDepth 100000

theorem eqGuardBlk : Tryd.prog.eqGuardType Tryd.prog.depth 91 = false := by kernel_rfl
theorem run_arr_mid (q l h : Nat) (h64 : l < 64) (hl : l ≤ h) (hh : h ≤ 64) (w : World) : (Instr.sliceAt 91 (.pointer (some ⟨q, 0, none⟩)) (some (.int .i64 (l : Int))) (some (.int .i64 (h : Int))) none).run Tryd.prog w = .ok (.slice (some ⟨q, l, none⟩) (h - l) (64 - l)) w := by
  have hz : (sizeOf (Tryd.prog.elem 91)).run Tryd.prog w = .ok 1 w := by kernel_rfl
  have hA : Tryd.prog.arrayLen 91 = 64 := by kernel_rfl
  have ht : Tryd.prog.underlying 91 = some (.array (Tryd.prog.arrayLen 91) (Tryd.prog.elem 91)) := by kernel_rfl
  rw [run_sliceAt_array_lh w 91 _ ht .i64 .i64 (l : Int) (h : Int) (by omega) (by omega) (by rw [hA]; omega), hz, hA]
  simp only [Result.andThen_ok, slicedAt]
  rw [if_neg (by omega), Addr.add_mid]
  simp
theorem need_walk (n : Int) (w : World) : Calls Tryd.prog 87 #[.int .i64 n] w fun e w' => e = .returned (.int .i64 (needI n)) ∧ w = w' := by
  by_cases h : n < 0 ∨ 2000 < n
  · rw [needI_no n h]
    go_enter Tryd.func87, Tryd.ntmps87
    rcases h with h | h
    · go_wp2
      go_ret
      exact ⟨rfl, rfl⟩
    · have h' : ¬ n < 0 := by omega
      go_wp2
      go_ret
      exact ⟨rfl, rfl⟩
  · have e : needI n = (n + 79) / 46 := if_neg h
    rw [e]
    have h1 : ¬ n < 0 := by omega
    have h2 : ¬ 2000 < n := by omega
    have h3 : 0 ≤ n := by omega
    have h4 : n ≤ 2000 := by omega
    clear e h
    go_enter Tryd.func87, Tryd.ntmps87
    go_wp2
    go_ret
    exact ⟨ret_int (by omega), rfl⟩
set_option maxHeartbeats 2000000 in
theorem whole_small (b : List Int) (hl : b.length = 64) (hb : isBytes b) (hc : cntP b ≤ 46) (w : World) :
    Calls Tryd.prog 125 #[.agg (ints .u8 b).toArray] w fun e w' => e = .returned (.bool (decide (wholeP b))) ∧ Below w.heap.size w w' := by
  have HL := Lib.hid hl
  have HB := Lib.hid hb
  have IB : Hid ((Tryd.prog.info? 91).map (·.size) = some (ints .u8 b).length) := infoBlk b hl
  obtain ⟨n, hn⟩ : ∃ n : Nat, cntP b = (n : Int) := Int.eq_ofNat_of_zero_le (cntP_range hb hl).1
  have HN := Lib.hid hn
  obtain ⟨B, hB⟩ : ∃ B, Hid (w.heap.size = B) := ⟨_, rfl⟩
  have n46 : n ≤ 46 := by omega
  obtain ⟨s, hs⟩ : ∃ s, Hid (sectorP (b.take 8) ((b.drop 10).take n) = s) := ⟨_, rfl⟩
  have HDL : Hid (((b.drop 10).take n).length = n) := by unfold Hid; rw [List.length_take, List.length_drop, hl]; omega
  have HSL : Hid (s.length = 64) := by unfold Hid; rw [← hs.out]; exact sectorP_length (by rw [List.length_take, hl]; rfl) (by rw [HDL.out]; omega)
  have e0 : decide (wholeP b) = decide (b = s) := by
    have h1 : wholeP b ↔ b = s := by
      unfold wholeP
      rw [hn, Int.toNat_natCast, hs.out]
      exact ⟨fun h => h.2, fun h => ⟨by omega, h⟩⟩
    rw [Bool.eq_iff_iff]
    simp only [decide_eq_true_eq]
    exact h1
  rw [e0]
  rw [hB.out]
  clear hl hb hn e0 hc
  go_enter Tryd.func125, Tryd.ntmps125
  go_upto_region 0 with (fail)
  refine lin_begin (opsOf Tryd.f125 0) (by kernel_rfl) ?_
  refine lin_box 0 91 (.tmp 0) (ints .u8 b) (B) (some 1) (by kernel_rfl) (by kernel_rfl) (by kernel_rfl) (by kernel_rfl) hB ?_
  intro w1 b1 be1 hs1
  refine lin_now 1 (.bool false) (some 2) (by kernel_rfl) (by kernel_rfl) (by kernel_rfl) ?_
  refine lin_done 2 (by kernel_rfl) ?_
  have X1 := Lib.hid b1
  have BE1 := Lib.hid be1
  clear b1 be1
  generalize hact : Act.put _ (some 2) _ = act
  simp only [Act.put, List.setIfInBounds_toArray, List.set_cons_succ, List.set_cons_zero] at hact
  subst hact
  go_upto_region 1 with (fail)
  refine lin_begin (opsOf Tryd.f125 1) (by kernel_rfl) ?_
  refine lin_now 0 (.slice (some ⟨B, 8, none⟩) 2 56) (some 4) (by kernel_rfl) (by kernel_rfl) (by kernel_rfl) ?_
  refine lin_call 1 127 #[.slice (some ⟨B, 8, none⟩) 2 56] (some 5) _ (by kernel_rfl) (by kernel_rfl) (by kernel_rfl) (number_walk B 8 2 56 ((b.drop 8).take 2) _ (range_part X1.out 8 2) (by rw [List.length_take, List.length_drop, HL.out]; rfl) (bytes_take (bytes_drop HB.out 8) 2) (by omega)) ?_
  rintro e w2 ⟨rfl, rfl⟩
  refine ⟨_, rfl, ?_⟩
  rw [show numB ((b.drop 8).take 2) = (n : Int) from HN.out]
  refine lin_now 2 (.int .i64 (n : Int)) (some 3) (by kernel_rfl) (by kernel_rfl) (by kernel_rfl) ?_
  refine lin_done 3 (by kernel_rfl) ?_
  generalize hact : Act.put _ (some 3) _ = act
  simp only [Act.put, List.setIfInBounds_toArray, List.set_cons_succ, List.set_cons_zero] at hact
  subst hact
  go_upto_region 2 with (fail)
  refine region_begin (opsOf Tryd.f125 2) (fun w' => Blk w' B 91 (ints .u8 b)) (by kernel_rfl) (by kernel_rfl) 13 (by kernel_rfl) ?_
  intro Q' hQN hN
  have hS : Blk w1.drew B 91 (ints .u8 b) := X1.out
  refine reg_now 0 (.int .i64 (n : Int)) (some 6) hQN hS (by kernel_rfl) (by kernel_rfl) (fun w => by kernel_rfl) ?_
  refine reg_now 1 (.bool (decide ((n : Int) ≤ 46))) (some 7) hQN hS (by kernel_rfl) (by kernel_rfl) (fun w => by kernel_rfl) ?_
  rw [show decide ((n : Int) ≤ 46) = true from decide_eq_true (by omega)]
  refine reg_now 2 (.bool true) (some 8) hQN hS (by kernel_rfl) (by kernel_rfl) (fun w => by kernel_rfl) ?_
  refine reg_nowIf 3 (.agg (ints .u8 b).toArray) (some 9) hQN hS (by kernel_rfl) (by kernel_rfl) (fun w' hw => exec_load_mid 91 (.tmp 1) (by kernel_rfl) B 0 (by kernel_rfl) (ints .u8 b) _ hw.whole Tryd.underlying91 rfl IB.out) ?_
  refine reg_nowIf 4 (.agg (ints .u8 b).toArray) (some 10) hQN hS (by kernel_rfl) (by kernel_rfl) (fun w' hw => exec_load_mid 91 (.tmp 1) (by kernel_rfl) B 0 (by kernel_rfl) (ints .u8 b) _ hw.whole Tryd.underlying91 rfl IB.out) ?_
  refine reg_now 6 (.int .i64 (n : Int)) (some 12) hQN hS (by kernel_rfl) (by kernel_rfl) (fun w => by kernel_rfl) ?_
  refine reg_now 7 (.int .i64 (IntKind.i64.wrap (10 + (n : Int)))) (some 13) hQN hS (by kernel_rfl) (by kernel_rfl) (fun w => by kernel_rfl) ?_
  rw [show IntKind.i64.wrap (10 + (n : Int)) = ((10 + n : Nat) : Int) from (IntWalk.i64_in _ (by omega)).trans (by omega)]
  refine reg_now 8 (.slice (some ⟨B, 10, none⟩) (10 + n - 10) 54) (some 14) hQN hS (by kernel_rfl) (by kernel_rfl) (fun w' => exec_of (Instr.sliceAt 91 (.pointer (some ⟨B, 0, none⟩)) (some (.int .i64 ((10 : Nat) : Int))) (some (.int .i64 ((10 + n : Nat) : Int))) none) _ (by kernel_rfl) (run_arr_mid B 10 (10 + n) (by omega) (by omega) (by omega) w')) ?_
  rw [show 10 + n - 10 = n by omega]
  refine reg_call 5 114 #[.agg (ints .u8 b).toArray] (some 11) _ (by kernel_rfl) (by kernel_rfl) (by kernel_rfl) (firstmark_walk b HL.out _) ?_
  rintro e w3 ⟨rfl, hb3⟩
  have hS3 : Blk w3 B 91 (ints .u8 b) := hS.below hb3 hS.lt
  refine ⟨_, rfl, hS3, ?_⟩
  refine reg_call 9 89 #[.agg (ints .u8 (b.take 8)).toArray, .slice (some ⟨B, 10, none⟩) n 54] (some 15) _ (by kernel_rfl) (by kernel_rfl) (by kernel_rfl) (sector_walk (b.take 8) ((b.drop 10).take n) B 10 n 54 (by rw [List.length_take, HL.out]; rfl) HDL.out n46 _ (range_part hS3 10 n) hS3.lt) ?_
  rintro e w4 ⟨rfl, hb4⟩
  have hS4 : Blk w4 B 91 (ints .u8 b) := hS3.below hb4 hS3.lt
  refine ⟨_, rfl, hS4, ?_⟩
  rw [hs.out]
  refine reg_now 10 (.bool (decide (b = s))) (some 16) hQN hS4 (by kernel_rfl) (by kernel_rfl) (fun w' => exec_eql w' (.tmp 9) (.tmp 15) 91 (by kernel_rfl) Tryd.underlying91 Tryd.underlying5 size1Byte eqGuardBlk b s HL.out HSL.out (by kernel_rfl) (by kernel_rfl)) ?_
  obtain ⟨r, hr⟩ : ∃ r, Hid (decide (b = s) = r) := ⟨_, rfl⟩
  rw [hr.out]
  refine reg_now 11 (.bool r) (some 17) hQN hS4 (by kernel_rfl) (by kernel_rfl) (fun w => by kernel_rfl) ?_
  refine reg_now 12 (.bool r) (some 2) hQN hS4 (by kernel_rfl) (by kernel_rfl) (fun w => by kernel_rfl) ?_
  refine reg_done (by kernel_rfl) (hN _ _ ?_)
  have BE4 : Hid (Below B w w4) := ((BE1.out.drew).trans (hb3.mono (by have : w1.drew.heap.size = B + 1 := hs1.out; omega))).trans (hb4.mono (by have : w1.drew.heap.size = B + 1 := hs1.out; have := hb3.size; omega))
  clear hQN hN hS hS3 hS4 hb3 hb4 X1 BE1 hs1
  generalize hact : Act.put _ (some 2) _ = act
  simp only [Act.put, List.setIfInBounds_toArray, List.set_cons_succ, List.set_cons_zero] at hact
  subst hact
  go_wp2
  go_ret
  exact ⟨ret_bool hr.out.symm, BE4.out⟩
set_option maxHeartbeats 2000000 in
theorem whole_big (b : List Int) (hl : b.length = 64) (hb : isBytes b) (hc : 46 < cntP b) (w : World) :
    Calls Tryd.prog 125 #[.agg (ints .u8 b).toArray] w fun e w' => e = .returned (.bool (decide (wholeP b))) ∧ Below w.heap.size w w' := by
  have HL := Lib.hid hl
  have HB := Lib.hid hb
  have IB : Hid ((Tryd.prog.info? 91).map (·.size) = some (ints .u8 b).length) := infoBlk b hl
  obtain ⟨n, hn⟩ : ∃ n : Nat, cntP b = (n : Int) := Int.eq_ofNat_of_zero_le (cntP_range hb hl).1
  have HN := Lib.hid hn
  obtain ⟨B, hB⟩ : ∃ B, Hid (w.heap.size = B) := ⟨_, rfl⟩
  have n46 : 46 < n := by omega
  have e0 : decide (wholeP b) = false := decide_eq_false (fun h => by have := h.1; omega)
  rw [e0]
  rw [hB.out]
  clear hl hb hn e0 hc
  go_enter Tryd.func125, Tryd.ntmps125
  go_upto_region 0 with (fail)
  refine lin_begin (opsOf Tryd.f125 0) (by kernel_rfl) ?_
  refine lin_box 0 91 (.tmp 0) (ints .u8 b) (B) (some 1) (by kernel_rfl) (by kernel_rfl) (by kernel_rfl) (by kernel_rfl) hB ?_
  intro w1 b1 be1 hs1
  refine lin_now 1 (.bool false) (some 2) (by kernel_rfl) (by kernel_rfl) (by kernel_rfl) ?_
  refine lin_done 2 (by kernel_rfl) ?_
  have X1 := Lib.hid b1
  have BE1 := Lib.hid be1
  clear b1 be1
  generalize hact : Act.put _ (some 2) _ = act
  simp only [Act.put, List.setIfInBounds_toArray, List.set_cons_succ, List.set_cons_zero] at hact
  subst hact
  go_upto_region 1 with (fail)
  refine lin_begin (opsOf Tryd.f125 1) (by kernel_rfl) ?_
  refine lin_now 0 (.slice (some ⟨B, 8, none⟩) 2 56) (some 4) (by kernel_rfl) (by kernel_rfl) (by kernel_rfl) ?_
  refine lin_call 1 127 #[.slice (some ⟨B, 8, none⟩) 2 56] (some 5) _ (by kernel_rfl) (by kernel_rfl) (by kernel_rfl) (number_walk B 8 2 56 ((b.drop 8).take 2) _ (range_part X1.out 8 2) (by rw [List.length_take, List.length_drop, HL.out]; rfl) (bytes_take (bytes_drop HB.out 8) 2) (by omega)) ?_
  rintro e w2 ⟨rfl, rfl⟩
  refine ⟨_, rfl, ?_⟩
  rw [show numB ((b.drop 8).take 2) = (n : Int) from HN.out]
  refine lin_now 2 (.int .i64 (n : Int)) (some 3) (by kernel_rfl) (by kernel_rfl) (by kernel_rfl) ?_
  refine lin_done 3 (by kernel_rfl) ?_
  generalize hact : Act.put _ (some 3) _ = act
  simp only [Act.put, List.setIfInBounds_toArray, List.set_cons_succ, List.set_cons_zero] at hact
  subst hact
  go_upto_region 2 with (fail)
  refine region_begin (opsOf Tryd.f125 2) (fun w' => Blk w' B 91 (ints .u8 b)) (by kernel_rfl) (by kernel_rfl) 13 (by kernel_rfl) ?_
  intro Q' hQN hN
  have hS : Blk w1.drew B 91 (ints .u8 b) := X1.out
  refine reg_now 0 (.int .i64 (n : Int)) (some 6) hQN hS (by kernel_rfl) (by kernel_rfl) (fun w => by kernel_rfl) ?_
  refine reg_now 1 (.bool (decide ((n : Int) ≤ 46))) (some 7) hQN hS (by kernel_rfl) (by kernel_rfl) (fun w => by kernel_rfl) ?_
  rw [show decide ((n : Int) ≤ 46) = false from decide_eq_false (by omega)]
  refine reg_now 2 (.bool false) (some 8) hQN hS (by kernel_rfl) (by kernel_rfl) (fun w => by kernel_rfl) ?_
  refine reg_pass 3 (some 9) hQN hS (by kernel_rfl) (by kernel_rfl) ?_
  refine reg_pass 4 (some 10) hQN hS (by kernel_rfl) (by kernel_rfl) ?_
  refine reg_pass 5 (some 11) hQN hS (by kernel_rfl) (by kernel_rfl) ?_
  refine reg_pass 6 (some 12) hQN hS (by kernel_rfl) (by kernel_rfl) ?_
  refine reg_pass 7 (some 13) hQN hS (by kernel_rfl) (by kernel_rfl) ?_
  refine reg_pass 8 (some 14) hQN hS (by kernel_rfl) (by kernel_rfl) ?_
  refine reg_pass 9 (some 15) hQN hS (by kernel_rfl) (by kernel_rfl) ?_
  refine reg_pass 10 (some 16) hQN hS (by kernel_rfl) (by kernel_rfl) ?_
  refine reg_now 11 (.bool false) (some 17) hQN hS (by kernel_rfl) (by kernel_rfl) (fun w => by kernel_rfl) ?_
  refine reg_now 12 (.bool false) (some 2) hQN hS (by kernel_rfl) (by kernel_rfl) (fun w => by kernel_rfl) ?_
  refine reg_done (by kernel_rfl) (hN _ _ ?_)
  have BE2 := Lib.hid BE1.out.drew
  clear hQN hN hS X1 BE1
  generalize w1.drew = W2 at *
  generalize hact : Act.put _ (some 2) _ = act
  simp only [Act.put, List.setIfInBounds_toArray, List.set_cons_succ, List.set_cons_zero] at hact
  subst hact
  go_wp2
  go_ret
  exact ⟨rfl, BE2.out⟩
theorem whole_walk (b : List Int) (hl : b.length = 64) (hb : isBytes b) (w : World) :
    Calls Tryd.prog 125 #[.agg (ints .u8 b).toArray] w fun e w' => e = .returned (.bool (decide (wholeP b))) ∧ Below w.heap.size w w' := by
  by_cases hc : cntP b ≤ 46
  · exact whole_small b hl hb hc w
  · exact whole_big b hl hb (by omega) w
def genP (b : List Int) : Int := numB ((b.take 8).take 4)
def numP (b : List Int) : Int := numB ((b.take 8).drop 4)
set_option maxHeartbeats 2000000 in
theorem mark_yes (b : List Int) (hl : b.length = 64) (hb : isBytes b) (hw : wholeP b) (w : World) :
    Calls Tryd.prog 111 #[.agg (ints .u8 b).toArray] w fun e w' => e = .returned (.tuple #[.int .i64 (genP b), .int .i64 (numP b), .bool true]) ∧ Below w.heap.size w w' := by
  have HL := Lib.hid hl
  have HB := Lib.hid hb
  have IB : Hid ((Tryd.prog.info? 91).map (·.size) = some (ints .u8 b).length) := infoBlk b hl
  have HW : Hid (decide (wholeP b) = true) := decide_eq_true hw
  obtain ⟨B, hB⟩ : ∃ B, Hid (w.heap.size = B) := ⟨_, rfl⟩
  rw [hB.out]
  clear hl hb hw
  go_enter Tryd.func111, Tryd.ntmps111
  go_upto_region 0 with (fail)
  refine lin_begin (opsOf Tryd.f111 0) (by kernel_rfl) ?_
  refine lin_box 0 91 (.tmp 0) (ints .u8 b) (B) (some 1) (by kernel_rfl) (by kernel_rfl) (by kernel_rfl) (by kernel_rfl) hB ?_
  intro w1 b1 be1 hs1
  refine lin_now 1 (.int .i64 0) (some 2) (by kernel_rfl) (by kernel_rfl) (by kernel_rfl) ?_
  refine lin_now 2 (.int .i64 0) (some 3) (by kernel_rfl) (by kernel_rfl) (by kernel_rfl) ?_
  refine lin_now 3 (.bool false) (some 4) (by kernel_rfl) (by kernel_rfl) (by kernel_rfl) ?_
  refine lin_done 4 (by kernel_rfl) ?_
  have X1 := Lib.hid b1
  have BE1 := Lib.hid be1
  clear b1 be1
  generalize hact : Act.put _ (some 4) _ = act
  simp only [Act.put, List.setIfInBounds_toArray, List.set_cons_succ, List.set_cons_zero] at hact
  subst hact
  go_upto_region 1 with (fail)
  refine lin_begin (opsOf Tryd.f111 1) (by kernel_rfl) ?_
  refine lin_load 0 91 (.tmp 1) (B) _ (ints .u8 b) (some 6) (by kernel_rfl) (by kernel_rfl) (by kernel_rfl) (by kernel_rfl) X1.out _ Tryd.underlying91 rfl IB.out ?_
  refine lin_call 1 125 #[.agg (ints .u8 b).toArray] (some 7) _ (by kernel_rfl) (by kernel_rfl) (by kernel_rfl) (whole_walk b HL.out HB.out _) ?_
  rintro e w2 ⟨rfl, hb2⟩
  refine ⟨_, rfl, ?_⟩
  rw [HW.out]
  refine lin_now 2 (.bool false) (some 8) (by kernel_rfl) (by kernel_rfl) (by kernel_rfl) ?_
  refine lin_done 3 (by kernel_rfl) ?_
  have X2 := Lib.hid (X1.out.below hb2 X1.out.lt)
  have BE2 := Lib.hid (BE1.out.trans (hb2.mono (by rw [hs1.out]; omega)))
  have hs2 : Hid (B + 1 ≤ w2.heap.size) := by unfold Hid; have := hb2.size; have := hs1.out; omega
  clear X1 BE1 hb2 hs1
  generalize hact : Act.put _ (some 8) _ = act
  simp only [Act.put, List.setIfInBounds_toArray, List.set_cons_succ, List.set_cons_zero] at hact
  subst hact
  obtain ⟨m, hm⟩ : ∃ m, Hid (b.take 8 = m) := ⟨_, rfl⟩
  have HM : Hid (m.length = 8) := by unfold Hid; rw [← hm.out, List.length_take, HL.out]; rfl
  have MB : Hid (isBytes m) := by unfold Hid; rw [← hm.out]; exact bytes_take HB.out 8
  have IM : Hid ((Tryd.prog.info? 143).map (·.size) = some (ints .u8 m).length) := infoMark m HM.out
  go_upto_region 3 with (fail)
  refine lin_begin (opsOf Tryd.f111 3) (by kernel_rfl) ?_
  refine lin_load 0 91 (.tmp 1) (B) _ (ints .u8 b) (some 9) (by kernel_rfl) (by kernel_rfl) (by kernel_rfl) (by kernel_rfl) X2.out _ Tryd.underlying91 rfl IB.out ?_
  refine lin_call 1 114 #[.agg (ints .u8 b).toArray] (some 10) _ (by kernel_rfl) (by kernel_rfl) (by kernel_rfl) (firstmark_walk b HL.out _) ?_
  rintro e w3 ⟨rfl, hb3⟩
  refine ⟨_, rfl, ?_⟩
  rw [hm.out]
  obtain ⟨q, hq⟩ : ∃ q, Hid (w3.heap.size = q) := ⟨_, rfl⟩
  refine lin_alloc 2 143 (ints .u8 z8) (q) (some 5) (by kernel_rfl) (by kernel_rfl) (by kernel_rfl) zeroMark hq ?_
  intro w4 b4 be4 hs4
  refine lin_put 3 143 (.tmp 5) (.tmp 10) (q) _ (ints .u8 z8) (ints .u8 m) (by kernel_rfl) (by kernel_rfl) (by kernel_rfl) (by kernel_rfl) (by kernel_rfl) b4 (by rw [ints_length, ints_length, HM.out, z8_length]) IM.out (ints_oneCell _ _) ?_
  intro w5 b5 u5
  refine lin_done 4 (by kernel_rfl) ?_
  have M5 := Lib.hid b5
  have BE5 : Hid (Below B w w5) := by
    have h3 := BE2.out.trans (hb3.mono (by have := hs2.out; omega))
    have h4 := h3.trans (be4.mono (by have := hb3.size; have := hq.out; have := hs2.out; omega))
    exact u5.below h4 (by have := hb3.size; have := hq.out; have := hs2.out; omega) (by have := hb3.size; have := hq.out; have := hs2.out; have := hs4.out; omega)
  have hs5 : Hid (B ≤ w5.heap.size) := by unfold Hid; have := u5.size; have := hs4.out; have := hb3.size; have := hq.out; have := hs2.out; omega
  clear b5 u5 b4 be4 hs4 hb3 hs2 BE2 X2 hq
  generalize hact : Act.put _ none _ = act
  simp only [Act.put, List.setIfInBounds_toArray, List.set_cons_succ, List.set_cons_zero] at hact
  subst hact
  go_upto_region 4 with (fail)
  refine region_begin (opsOf Tryd.f111 4) (fun w' => Blk w' q 143 (ints .u8 m)) (by kernel_rfl) (by kernel_rfl) 7 (by kernel_rfl) ?_
  intro Q' hQN hN
  have hS : Blk w5.drew q 143 (ints .u8 m) := M5.out
  refine reg_nowIf 0 (.agg (ints .u8 m).toArray) (some 11) hQN hS (by kernel_rfl) (by kernel_rfl) (fun w' hw => exec_load_mid 143 (.tmp 5) (by kernel_rfl) q 0 (by kernel_rfl) (ints .u8 m) _ hw.whole Tryd.underlying143 rfl IM.out) ?_
  refine reg_nowIf 2 (.agg (ints .u8 m).toArray) (some 13) hQN hS (by kernel_rfl) (by kernel_rfl) (fun w' hw => exec_load_mid 143 (.tmp 5) (by kernel_rfl) q 0 (by kernel_rfl) (ints .u8 m) _ hw.whole Tryd.underlying143 rfl IM.out) ?_
  refine reg_call 1 115 #[.agg (ints .u8 m).toArray] (some 12) _ (by kernel_rfl) (by kernel_rfl) (by kernel_rfl) (mgen_walk m HM.out MB.out _) ?_
  rintro e w6 ⟨rfl, hb6⟩
  have hS6 : Blk w6 q 143 (ints .u8 m) := hS.below hb6 hS.lt
  refine ⟨_, rfl, hS6, ?_⟩
  refine reg_call 3 126 #[.agg (ints .u8 m).toArray] (some 14) _ (by kernel_rfl) (by kernel_rfl) (by kernel_rfl) (mnum_walk m HM.out MB.out _) ?_
  rintro e w7 ⟨rfl, hb7⟩
  have hS7 : Blk w7 q 143 (ints .u8 m) := hS6.below hb7 hS6.lt
  refine ⟨_, rfl, hS7, ?_⟩
  rw [show numB (m.take 4) = genP b by unfold genP; rw [hm.out], show numB (m.drop 4) = numP b by unfold numP; rw [hm.out]]
  refine reg_now 4 (.int .i64 (genP b)) (some 2) hQN hS7 (by kernel_rfl) (by kernel_rfl) (fun w => by kernel_rfl) ?_
  refine reg_now 5 (.int .i64 (numP b)) (some 3) hQN hS7 (by kernel_rfl) (by kernel_rfl) (fun w => by kernel_rfl) ?_
  refine reg_now 6 (.bool true) (some 4) hQN hS7 (by kernel_rfl) (by kernel_rfl) (fun w => by kernel_rfl) ?_
  refine reg_done (by kernel_rfl) (hN _ _ ?_)
  have BE7 : Hid (Below B w w7) := ((BE5.out.drew).trans (hb6.mono hs5.out)).trans (hb7.mono (Nat.le_trans hs5.out hb6.size))
  clear hQN hN hS hS6 hS7 hb6 hb7 BE5 hs5 M5
  generalize hact : Act.put _ (some 4) _ = act
  simp only [Act.put, List.setIfInBounds_toArray, List.set_cons_succ, List.set_cons_zero] at hact
  subst hact
  go_wp2
  go_ret3
  exact ⟨rfl, BE7.out⟩
set_option maxHeartbeats 2000000 in
theorem mark_no (b : List Int) (hl : b.length = 64) (hb : isBytes b) (hw : ¬ wholeP b) (w : World) :
    Calls Tryd.prog 111 #[.agg (ints .u8 b).toArray] w fun e w' => e = .returned (.tuple #[.int .i64 0, .int .i64 0, .bool false]) ∧ Below w.heap.size w w' := by
  have HL := Lib.hid hl
  have HB := Lib.hid hb
  have IB : Hid ((Tryd.prog.info? 91).map (·.size) = some (ints .u8 b).length) := infoBlk b hl
  have HW : Hid (decide (wholeP b) = false) := decide_eq_false hw
  obtain ⟨B, hB⟩ : ∃ B, Hid (w.heap.size = B) := ⟨_, rfl⟩
  rw [hB.out]
  clear hl hb hw
  go_enter Tryd.func111, Tryd.ntmps111
  go_upto_region 0 with (fail)
  refine lin_begin (opsOf Tryd.f111 0) (by kernel_rfl) ?_
  refine lin_box 0 91 (.tmp 0) (ints .u8 b) (B) (some 1) (by kernel_rfl) (by kernel_rfl) (by kernel_rfl) (by kernel_rfl) hB ?_
  intro w1 b1 be1 hs1
  refine lin_now 1 (.int .i64 0) (some 2) (by kernel_rfl) (by kernel_rfl) (by kernel_rfl) ?_
  refine lin_now 2 (.int .i64 0) (some 3) (by kernel_rfl) (by kernel_rfl) (by kernel_rfl) ?_
  refine lin_now 3 (.bool false) (some 4) (by kernel_rfl) (by kernel_rfl) (by kernel_rfl) ?_
  refine lin_done 4 (by kernel_rfl) ?_
  have X1 := Lib.hid b1
  have BE1 := Lib.hid be1
  clear b1 be1
  generalize hact : Act.put _ (some 4) _ = act
  simp only [Act.put, List.setIfInBounds_toArray, List.set_cons_succ, List.set_cons_zero] at hact
  subst hact
  go_upto_region 1 with (fail)
  refine lin_begin (opsOf Tryd.f111 1) (by kernel_rfl) ?_
  refine lin_load 0 91 (.tmp 1) (B) _ (ints .u8 b) (some 6) (by kernel_rfl) (by kernel_rfl) (by kernel_rfl) (by kernel_rfl) X1.out _ Tryd.underlying91 rfl IB.out ?_
  refine lin_call 1 125 #[.agg (ints .u8 b).toArray] (some 7) _ (by kernel_rfl) (by kernel_rfl) (by kernel_rfl) (whole_walk b HL.out HB.out _) ?_
  rintro e w2 ⟨rfl, hb2⟩
  refine ⟨_, rfl, ?_⟩
  rw [HW.out]
  refine lin_now 2 (.bool true) (some 8) (by kernel_rfl) (by kernel_rfl) (by kernel_rfl) ?_
  refine lin_done 3 (by kernel_rfl) ?_
  have X2 := Lib.hid (X1.out.below hb2 X1.out.lt)
  have BE2 := Lib.hid (BE1.out.trans (hb2.mono (by rw [hs1.out]; omega)))
  have hs2 : Hid (B + 1 ≤ w2.heap.size) := by unfold Hid; have := hb2.size; have := hs1.out; omega
  clear X1 BE1 hb2 hs1
  generalize hact : Act.put _ (some 8) _ = act
  simp only [Act.put, List.setIfInBounds_toArray, List.set_cons_succ, List.set_cons_zero] at hact
  subst hact
  go_wp2
  go_ret3
  exact ⟨rfl, BE2.out⟩
end Go.Proofs.YtngpmilojfbpmaaDoor
