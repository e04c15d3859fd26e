/- DiskParts answers true. -/
import Derived.Test.YtmaobmeaanafcabDskCo
namespace Go.Proofs.Ytmaobmeaanafcab
open Go Go.RowKit
set_option maxRecDepth 100000

def wk (b : List Int) (i : Nat) : List Wr := (List.range i).map fun j => (j, b)
theorem wk_length (b : List Int) (i : Nat) : (wk b i).length = i := by simp [wk]
theorem wk_next (b : List Int) (i : Nat) : wk b (i + 1) = wk b i ++ [(i, b)] := by simp [wk, List.range_succ]
theorem wk_at (b : List Int) {i j : Nat} (h : j < i) : wrAt (wk b i) j = (j, b) := by
  unfold wrAt wk
  rw [List.getD_eq_getElem?_getD, List.getElem?_map, List.getElem?_range h]
  rfl
theorem getB_zeros {i : Nat} (h : i < 8) : getB (zeros 512) i = zB := by
  unfold getB zeros zB
  rw [List.drop_replicate, List.take_replicate]
  congr 1
  omega
theorem getB_same {l b : List Int} {n : Nat} (hl : l.length = 64 * 8) (hn : n < 8) (hb : b.length = 64) : getB (putB l n b) n = b := by
  unfold getB putB
  rw [List.drop_append_of_le_length (by rw [List.length_take]; omega), List.drop_eq_nil_of_le (by rw [List.length_take]; omega), List.nil_append, List.take_append_of_le_length (by omega), List.take_of_length_le (by omega)]
theorem getB_else {l b : List Int} {n i : Nat} (hl : l.length = 64 * 8) (hn : n < 8) (_hi : i < 8) (hb : b.length = 64) (hne : n ≠ i) : getB (putB l n b) i = getB l i := by
  unfold getB putB
  apply List.ext_getElem?
  intro j
  rw [List.getElem?_take, List.getElem?_take]
  by_cases hj : j < 64
  · rw [if_pos hj, if_pos hj, List.getElem?_drop, List.getElem?_drop]
    by_cases h : i < n
    · rw [List.getElem?_append_left (by rw [List.length_take]; omega), List.getElem?_take, if_pos (by omega)]
    · rw [List.getElem?_append_right (by rw [List.length_take]; omega), List.getElem?_append_right (by rw [List.length_take]; omega), List.getElem?_drop, List.length_take]
      congr 1
      omega
  · rw [if_neg hj, if_neg hj]
theorem wk_ok (b : List Int) (hb : b.length = 64) : okW 8 (wk b 8) := fun x hx => by
  obtain ⟨j, hj, rfl⟩ := List.mem_map.1 hx
  exact ⟨by simpa using hj, hb⟩
theorem zeros512 : (zeros 512).length = 64 * 8 := by rw [zeros_length]
theorem parts_dur (b picks : List Int) (hb : b.length = 64) (hp : isBytes picks) : ∀ k, k ≤ 8 → ∀ i, i < 8 → getB (crashK (zeros 512) (wk b 8) picks k) i = if i < k then crash1 zB b (pickL picks i) else zB
  | 0, _, i, hi => by rw [crashK, if_neg (by omega), getB_zeros hi]
  | k + 1, hk, i, hi => by
    have ih := parts_dur b picks hb hp k (by omega)
    have hl := crashK_length (picks := picks) zeros512 (wk_ok b hb) hp k (by rw [wk_length]; omega)
    have hc : (crash1 (getB (crashK (zeros 512) (wk b 8) picks k) k) b (pickL picks k)).length = 64 := crash1_length (getB_length hl (by omega)) hb _ (pickL_range hp k).1
    rw [crashK, wk_at b (show k < 8 by omega)]
    by_cases hik : i = k
    · subst hik
      rw [getB_same hl (by omega) hc, if_pos (by omega), ih i hi, if_neg (by omega)]
    · rw [getB_else hl (by omega) hi hc (fun e => hik e.symm), ih i hi]
      by_cases h : i < k
      · rw [if_pos h, if_pos (by omega)]
      · rw [if_neg h, if_neg (by omega)]
theorem parts_seen (b seen dur : List Int) (hs : seen.length = 64 * 8) (hd : dur.length = 64 * 8) (hb : b.length = 64) : ∀ k, k ≤ 8 → ∀ i, i < 8 → getB (seenK seen dur (wk b 8) k) i = if i < k then getB dur i else getB seen i
  | 0, _, i, hi => by rw [seenK, if_neg (by omega)]
  | k + 1, hk, i, hi => by
    have ih := parts_seen b seen dur hs hd hb k (by omega)
    have hl := seenK_length hs hd (wk_ok b hb) k (by rw [wk_length]; omega)
    have hc : (getB dur k).length = 64 := getB_length hd (by omega)
    rw [seenK, wk_at b (show k < 8 by omega)]
    by_cases hik : i = k
    · subst hik
      rw [getB_same hl (by omega) hc, if_pos (by omega)]
    · rw [getB_else hl (by omega) hi hc (fun e => hik e.symm), ih i hi]
      by_cases h : i < k
      · rw [if_pos h, if_pos (by omega)]
      · rw [if_neg h, if_neg (by omega)]
theorem zB_getD (k : Nat) : zB.getD k 0 = 0 := by
  unfold zB
  rw [List.getD_eq_getElem?_getD, List.getElem?_replicate]
  split <;> rfl
theorem part0 (b : List Int) (z : Int) (hq : z / 64 = 0) (k : Nat) : (crash1 zB b z).getD k 0 = 0 := by
  unfold crash1
  rw [if_neg (by rw [hq]; decide), if_neg (by rw [hq]; decide), if_neg (by rw [hq]; decide)]
  exact zB_getD k
theorem part1 (b : List Int) (z : Int) (hq : z / 64 = 1) (k : Nat) : (crash1 zB b z).getD k 0 = b.getD k 0 := by
  unfold crash1
  rw [if_pos hq]
theorem part2 (b : List Int) (z : Int) (hb : b.length = 64) (hq : z / 64 = 2) (k : Nat) (hk : k < 64) : (crash1 zB b z).getD k 0 = if (k : Int) < z % 64 then b.getD k 0 else 0 := by
  have := Int.emod_nonneg z (show (64 : Int) ≠ 0 by decide)
  have := Int.emod_lt_of_pos z (show (0 : Int) < 64 by decide)
  unfold crash1
  rw [if_neg (by rw [hq]; decide), if_pos hq, List.getD_eq_getElem?_getD, List.getElem?_append, List.length_take]
  by_cases h : (k : Int) < z % 64
  · rw [if_pos (by omega), List.getElem?_take, if_pos (by omega), if_pos h, List.getD_eq_getElem?_getD]
  · rw [if_neg (by omega), if_neg h, List.getElem?_drop, show (z % 64).toNat + (k - min (z % 64).toNat b.length) = k by omega, ← List.getD_eq_getElem?_getD]
    exact zB_getD k
theorem part3 (b : List Int) (z : Int) (_hb : b.length = 64) (hq : z / 64 = 3) (k : Nat) (hk : k < 64) : (crash1 zB b z).getD k 0 = if 64 - z % 64 ≤ (k : Int) then b.getD k 0 else 0 := by
  have := Int.emod_nonneg z (show (64 : Int) ≠ 0 by decide)
  have := Int.emod_lt_of_pos z (show (0 : Int) < 64 by decide)
  have hz := zB_length
  unfold crash1
  rw [if_neg (by rw [hq]; decide), if_neg (by rw [hq]; decide), if_pos hq, List.getD_eq_getElem?_getD, List.getElem?_append, List.length_take]
  by_cases h : 64 - z % 64 ≤ (k : Int)
  · rw [if_neg (by omega), if_pos h, List.getElem?_drop, show 64 - (z % 64).toNat + (k - min (64 - (z % 64).toNat) zB.length) = k by omega, List.getD_eq_getElem?_getD]
  · rw [if_pos (by omega), List.getElem?_take, if_pos (by omega), if_neg h, ← List.getD_eq_getElem?_getD]
    exact zB_getD k
theorem and63 (z : Int) (h : 0 ≤ z ∧ z ≤ 255) : bits BinOp.and IntKind.i64 z 63 = z % 64 := by
  have h1 : ∀ m : Fin 256, bits BinOp.and IntKind.i64 ((m.val : Nat) : Int) 63 = ((m.val : Nat) : Int) % 64 := by decide
  obtain ⟨m, rfl⟩ := Int.eq_ofNat_of_zero_le h.1
  exact h1 ⟨m, by omega⟩
theorem parts_big (b : List Int) (a : Option Addr) (pn c : Nat) (w : World) (h : 8 < pn ∨ pn = 0) : Calls Try.prog 7 #[.agg (ints .u8 b).toArray, .slice a pn c] w fun e w' => e = .returned (.bool true) ∧ Below w.heap.size w w' := by
  have BE0 : Hid (Below w.heap.size w (w.alloc (.cells (ints .u8 b).toArray 33))) := (Below.refl _ _).alloc (Nat.le_refl _) _
  by_cases h8 : 8 < pn
  · have q8 : (8 : Int) < (pn : Int) := by omega
    go_enter Try.func7, Try.ntmps7
    go_wp2_with fail
    refine (dalive_walk _).mono ?_
    rintro e w1 ⟨rfl, hb1⟩
    have BE1 := Lib.hid (BE0.out.trans (hb1.mono BE0.out.size))
    clear hb1 BE0
    go_wp2
    go_ret
    exact ⟨rfl, BE1.out⟩
  · obtain rfl : pn = 0 := by omega
    clear h h8
    go_enter Try.func7, Try.ntmps7
    go_wp2_with fail
    refine (dalive_walk _).mono ?_
    rintro e w1 ⟨rfl, hb1⟩
    have BE1 := Lib.hid (BE0.out.trans (hb1.mono BE0.out.size))
    clear hb1 BE0
    go_wp2
    go_ret
    exact ⟨rfl, BE1.out⟩
set_option maxHeartbeats 8000000 in
theorem parts_main (b picks : List Int) (pb po pn uc : Nat) (w : World) (hb : b.length = 64) (hu : BytesIn w (.slice (some ⟨pb, po, none⟩) pn uc) picks) (hpl : picks.length = pn) (hpb : isBytes picks) (h1 : 1 ≤ pn) (h8 : pn ≤ 8) :
    Calls Try.prog 7 #[.agg (ints .u8 b).toArray, .slice (some ⟨pb, po, none⟩) pn uc] w fun e w' => e = .returned (.bool true) ∧ Below w.heap.size w w' := by
  have HU := Lib.hid hu
  have HPB := Lib.hid hpb
  have HB := Lib.hid hb
  have HPL := Lib.hid hpl
  have IB' : Hid ((Try.prog.info? 33).map (·.size) = some (ints .u8 b).toArray.size) := infoBlk b hb
  have BE0 : Hid (Below w.heap.size w (w.alloc (.cells (ints .u8 b).toArray 33))) := (Below.refl _ _).alloc (Nat.le_refl _) _
  have Q0 : Hid (Blk (w.alloc (.cells (ints .u8 b).toArray 33)) w.heap.size 33 (ints .u8 b)) := Blk.new _ _ _
  have HRG : Hid (pb < w.heap.size ∧ w.rangeAt pb po (ints .u8 picks)) := by
    obtain ⟨a', c', e', -, hp'⟩ := hu
    rw [hpl] at e' hp'
    obtain ⟨e1, -, -⟩ := Value.slice.inj e'
    obtain ⟨pb', po', e2, e3, e4⟩ := hp' (by omega)
    rw [← e1] at e2
    simp at e2
    obtain ⟨rfl, rfl⟩ := e2
    exact ⟨e3, e4⟩
  clear hu hpb hb hpl
  have q8 : ¬ ((8 : Int) < (pn : Int)) := by omega
  have q0 : ((pn : Int) == 0) = false := by rw [beq_eq_false_iff_ne]; omega
  have p0 : (0 : Int) < (pn : Int) := by omega
  go_enter Try.func7, Try.ntmps7
  go_wp2_with fail
  refine (dalive_walk _).mono ?_
  rintro e w1 ⟨rfl, hb1⟩
  have BE1 := Lib.hid (BE0.out.trans (hb1.mono BE0.out.size))
  have Q1 := Lib.hid (Q0.out.below hb1 Q0.out.lt)
  clear hb1 BE0 Q0
  obtain ⟨q, hq⟩ : ∃ q, Hid (q = w.heap.size) := ⟨_, rfl⟩
  rw [← hq.out] at Q1 ⊢
  go_wp2_with fail
  refine (new_yes 8 (by decide) (by decide) _).mono ?_
  rintro e w3 ⟨d, F3, rfl, hd3, hs3⟩
  have L3 : Hid (Lv F3 d 8 (zeros 512) (zeros 512) (wk b 0) (-1) w w3) := ⟨hd3, (Step.of_below BE1.out (Nat.le_refl _)).trans hs3⟩
  have Q3 : Hid (Off F3 w3 q 33 (ints .u8 b)) := ⟨hs3.blk Q1.out (by simp), fun hc => by have := hs3.new q hc; have := Q1.out.lt; omega⟩
  clear hd3 hs3 BE1 Q1
  go_wp2
  go_loopw [7] (fun i wr => ∃ (k : Nat) (F : List Nat) (seen : List Int), k ≤ 8 ∧ i = .int .i64 (k : Int) ∧ Lv F d 8 seen (zeros 512) (wk b k) (-1) w wr ∧ Off F wr q 33 (ints .u8 b)) (fun i _ => 8 - (intOf i).toNat)
  case atStart => exact ⟨0, F3, _, by omega, rfl, L3.out, Q3.out⟩
  case round =>
  obtain ⟨k, F, seen, hk, rfl, hlv, hoq⟩ := hrel
  have LK := Lib.hid hlv
  have QK := Lib.hid hoq
  clear hlv hoq L3 Q3
  by_cases hlt : k < 8
  · have q1 : (k : Int) < 8 := by omega
    have HNX := Lib.hid (wk_next b k)
    go_wp2_with (refine wpList_load_row rfl 33 _ rfl q rfl 33 (ints .u8 b).toArray (0, 0) _ QK.out.blk Try.underlying33 rfl IB'.out ?_)
    refine (write_ok d 8 k F seen (zeros 512) (wk b k) (-1) b _ LK.out.dk hlt HB.out (by decide) (by decide) (by rw [wk_length]; omega)).mono ?_
    rintro e w4 ⟨rfl, F4, hd4, hs4⟩
    rw [if_neg (by decide)] at hd4
    have L4 : Hid (Lv F4 d 8 (putB seen k b) (zeros 512) (wk b (k + 1)) (-1) w w4) := by unfold Hid; rw [HNX.out]; exact LK.out.step hd4 hs4
    have Q4 := Lib.hid (QK.out.step hs4)
    clear hd4 hs4 LK QK
    go_wp2
    exact ⟨⟨k + 1, F4, _, by omega, by go_num, L4.out, Q4.out⟩, by simp [intOf]; omega⟩
  · have q1 : ¬ (k : Int) < 8 := by omega
    obtain rfl : k = 8 := by omega
    have HUF : Hid (BytesOff F wr (.slice (some ⟨pb, po, none⟩) pn uc) picks) := LK.out.bytes HU.out
    have HCR := Lib.hid (crash_walk d 8 F seen (zeros 512) (wk b 8) (-1) (.slice (some ⟨pb, po, none⟩) pn uc) picks _ LK.out.dk (by rw [wk_length]; omega) HUF.out HPB.out (by rw [HPL.out]; omega))
    rw [wk_length] at HCR
    have HSL : Hid (seen.length = 64 * 8) := by obtain ⟨_, _, _, _, _, _, _, _, hx⟩ := LK.out.dk; exact hx.ls
    have HKL := keptK_le picks 8
    go_wp2_with fail
    refine HCR.out.mono ?_
    rintro e w5 ⟨rfl, F5, hd5, hs5⟩
    have L5 := Lib.hid (LK.out.step hd5 hs5)
    have Q5 := Lib.hid (QK.out.step hs5)
    clear hd5 hs5 LK QK HCR HUF
    have HGE : Hid (∀ i, i < 8 → getB (seenK seen (crashK (zeros 512) (wk b 8) picks 8) (wk b 8) 8) i = crash1 zB b (pickL picks i)) := fun i hi => by
      rw [parts_seen b seen _ HSL.out (crashK_length zeros512 (wk_ok b HB.out) HPB.out 8 (by rw [wk_length]; omega)) HB.out 8 (by omega) i hi, if_pos hi, parts_dur b picks HB.out HPB.out 8 (by omega) i hi, if_pos hi]
    generalize seenK seen (crashK (zeros 512) (wk b 8) picks 8) (wk b 8) 8 = sF at *
    generalize crashK (zeros 512) (wk b 8) picks 8 = dF at *
    go_wp2
    go_loopw [10, 9] (fun i cn wr => ∃ (j : Nat) (F : List Nat), j ≤ 8 ∧ i = .int .i64 (j : Int) ∧ cn = .int .i64 (keptK picks j : Int) ∧ Lv F d 8 sF dF [] (-1) w wr ∧ Off F wr q 33 (ints .u8 b)) (fun i _ _ => 8 - (intOf i).toNat)
    case atStart => exact ⟨0, F5, by omega, rfl, rfl, L5.out, Q5.out⟩
    case round =>
    obtain ⟨j, F6, hj, rfl, rfl, hlv, hoq⟩ := hrel
    have L6 := Lib.hid hlv
    have Q6 := Lib.hid hoq
    clear hlv hoq L5 Q5
    have hkj := keptK_le picks j
    by_cases hlj : j < 8
    · have q2 : (j : Int) < 8 := by omega
      have hlt' : j % pn < pn := Nat.mod_lt _ (by omega)
      obtain ⟨z, hz⟩ : ∃ z, Hid (pickL picks j = z) := ⟨_, rfl⟩
      have HZR : Hid (0 ≤ z ∧ z ≤ 255) := by unfold Hid; rw [← hz.out]; exact pickL_range HPB.out j
      have z0 : 0 ≤ z := HZR.out.1
      have z1 : z ≤ 255 := HZR.out.2
      have cz : wr.cell? ⟨pb, po + j % pn, none⟩ = some (.int .u8 z) := by
        rw [L6.out.st.below.cell (p := ⟨pb, po + j % pn, none⟩) HRG.out.1, ← hz.out, pickL, if_neg (by rw [HPL.out]; omega), HPL.out]
        exact HRG.out.2 (j % pn) _ (ints_getD (by rw [HPL.out]; exact hlt'))
      have HKN := Lib.hid (show ∀ bb, decide (64 ≤ z) = bb → keptK picks (j + 1) = keptK picks j + if bb then 1 else 0 from fun bb h => by rw [← hz.out] at h; exact keptK_next picks j bb h)
      obtain ⟨X, hX⟩ : ∃ X, Hid (crash1 zB b z = X) := ⟨_, rfl⟩
      have HXL : Hid (X.length = 64) := by unfold Hid; rw [← hX.out]; exact crash1_length zB_length HB.out z z0
      have IX : Hid ((Try.prog.info? 33).map (·.size) = some (ints .u8 X).length) := infoBlk X HXL.out
      have HRD := Lib.hid (read_yes d 8 j F6 sF dF [] (-1) wr L6.out.dk hlj)
      rw [HGE.out j hlj, hz.out, hX.out] at HRD
      have m0 : 0 ≤ z % 64 := Int.emod_nonneg z (by decide)
      have m1 : z % 64 ≤ 63 := by have := Int.emod_lt_of_pos z (show (0 : Int) < 64 by decide); omega
      have h63 := and63 z ⟨z0, z1⟩
      have H63 := Lib.hid h63
      clear h63
      go_upto_region 18 with (fail)
      refine lin_begin (opsOf Try.f7 18) (by kernel_rfl) ?_
      refine lin_now 0 (.pointer (some ⟨d, 0, none⟩)) (some 62) (by kernel_rfl) (by kernel_rfl) (by kernel_rfl) ?_
      refine lin_now 1 (.int .i64 (j : Int)) (some 63) (by kernel_rfl) (by kernel_rfl) (by kernel_rfl) ?_
      refine lin_call 2 22 #[.pointer (some ⟨d, 0, none⟩), .int .i64 (j : Int)] (some 64) _ (by kernel_rfl) (by kernel_rfl) (by kernel_rfl) HRD.out ?_
      rintro e W7 ⟨rfl, hb7⟩
      refine ⟨_, rfl, ?_⟩
      have L7 := Lib.hid (L6.out.below hb7)
      have Q7 := Lib.hid (Q6.out.below hb7)
      clear hb7 L6 Q6 HRD cz
      refine lin_now 3 (.tuple #[.agg (ints .u8 X).toArray, .int .i64 0]) (some 61) (by kernel_rfl) (by kernel_rfl) (by kernel_rfl) ?_
      refine lin_now 4 (.agg (ints .u8 X).toArray) (some 65) (by kernel_rfl) (by kernel_rfl) (by kernel_rfl) ?_
      refine lin_now 5 (.int .i64 0) (some 66) (by kernel_rfl) (by kernel_rfl) (by kernel_rfl) ?_
      refine lin_value 6 (.pointer (some ⟨W7.heap.size, 0, none⟩)) (some 12) (W7.alloc (.cells (ints .u8 zB).toArray 33)) (by kernel_rfl) (by kernel_rfl) (exec_alloc 33 (by kernel_rfl) (.agg (ints .u8 zB).toArray) zeroBlk) ?_
      have BX := boxed W7 33 (ints .u8 zB) (ints .u8 X) (by rw [ints_length, ints_length, HXL.out, zB_length])
      have TH : World.there (W7.alloc (.cells (ints .u8 zB).toArray 33)) W7.heap.size 0 (ints .u8 X).length := (Blk.new W7 33 (ints .u8 zB)).there 0 _ (by rw [ints_length, ints_length, HXL.out, zB_length]; omega)
      refine lin_store 7 ((W7.alloc (.cells (ints .u8 zB).toArray 33)).setCells W7.heap.size 0 (ints .u8 X)) (by kernel_rfl) (by kernel_rfl) (exec_store_mid 33 (.tmp 12) (.tmp 65) (by kernel_rfl) W7.heap.size 0 (ints .u8 X) (by kernel_rfl) (by kernel_rfl) TH IX.out (ints_oneCell _ _)) ?_
      refine lin_now 8 (.int .i64 0) (some 13) (by kernel_rfl) (by kernel_rfl) (by kernel_rfl) ?_
      refine lin_done 9 (by kernel_rfl) ?_
      have L8 := Lib.hid (L7.out.below BX.2.1)
      have Q8 := Lib.hid (Q7.out.below BX.2.1)
      have X8 := Lib.hid BX.1
      clear BX TH L7 Q7
      generalize (W7.alloc (.cells (ints .u8 zB).toArray 33)).setCells W7.heap.size 0 (ints .u8 X) = W8 at *
      generalize W7.heap.size = XB at *
      generalize hact : Act.put _ (some 13) (.int .i64 0) = act
      simp only [Act.put, List.setIfInBounds_toArray, List.set_cons_succ, List.set_cons_zero] at hact
      subst hact
      have hq4 : z / 64 = 0 ∨ z / 64 = 1 ∨ z / 64 = 2 ∨ z / 64 = 3 := by omega
      rcases hq4 with hq4 | hq4 | hq4 | hq4
      · have HQ4 := Lib.hid hq4
        have s1 : (z / 64 == 1) = false := by rw [hq4]; rfl
        have s2 : (z / 64 == 2) = false := by rw [hq4]; rfl
        have s3 : (z / 64 == 3) = false := by rw [hq4]; rfl
        have s4 : ¬ (0 < z / 64) := by omega
        have HK2 : Hid (keptK picks (j + 1) = keptK picks j + 0) := HKN.out false (decide_eq_false (by omega))
        have h63 := H63.out
        clear hq4
        go_wp2
        clear h63 s1 s2 s3 s4
        go_loopw [16, 17] (fun i wv wr => ∃ k : Nat, k ≤ 64 ∧ i = .int .i64 (k : Int) ∧ wr = W8) (fun i _ _ => 64 - (intOf i).toNat)
        case atStart => exact ⟨0, by omega, rfl, rfl⟩
        case round =>
        obtain ⟨k, hk, rfl, rfl⟩ := hrel
        by_cases hkl : k < 64
        · have q3 : (k : Int) < 64 := by omega
          have cb : wr.cell? ⟨q, k, none⟩ = some (.int .u8 (b.getD k 0)) := Q8.out.blk.cell (ints_getD (by rw [HB.out]; exact hkl))
          have cx : wr.cell? ⟨XB, k, none⟩ = some (.int .u8 (X.getD k 0)) := X8.out.cell (ints_getD (by rw [HXL.out]; exact hkl))
          have hx : X.getD k 0 = 0 := by rw [← hX.out]; exact part0 b z HQ4.out k
          rw [hx] at cx
          clear hx
          go_wp2
          go_roundw
          case rel => exact ⟨k + 1, by omega, by go_num, trivial⟩
          case measure => simp [intOf]; omega
        · have q3 : ¬ (k : Int) < 64 := by omega
          go_wp2
          exact ⟨⟨j + 1, F6, by omega, by go_num, by rw [HK2.out]; rfl, L8.out, Q8.out⟩, by simp [intOf]; omega⟩
      · have HQ4 := Lib.hid hq4
        have s1 : (z / 64 == 1) = true := by rw [hq4]; rfl
        have s2 : (z / 64 == 2) = false := by rw [hq4]; rfl
        have s3 : (z / 64 == 3) = false := by rw [hq4]; rfl
        have s4 : 0 < z / 64 := by omega
        have HK2 : Hid (keptK picks (j + 1) = keptK picks j + 1) := HKN.out true (decide_eq_true (by omega))
        have h63 := H63.out
        clear hq4
        go_wp2
        clear h63 s1 s2 s3 s4
        go_loopw [16, 17] (fun i wv wr => ∃ k : Nat, k ≤ 64 ∧ i = .int .i64 (k : Int) ∧ wr = W8) (fun i _ _ => 64 - (intOf i).toNat)
        case atStart => exact ⟨0, by omega, rfl, rfl⟩
        case round =>
        obtain ⟨k, hk, rfl, rfl⟩ := hrel
        by_cases hkl : k < 64
        · have q3 : (k : Int) < 64 := by omega
          have cb : wr.cell? ⟨q, k, none⟩ = some (.int .u8 (b.getD k 0)) := Q8.out.blk.cell (ints_getD (by rw [HB.out]; exact hkl))
          have cx : wr.cell? ⟨XB, k, none⟩ = some (.int .u8 (X.getD k 0)) := X8.out.cell (ints_getD (by rw [HXL.out]; exact hkl))
          have hx : X.getD k 0 = b.getD k 0 := by rw [← hX.out]; exact part1 b z HQ4.out k
          rw [hx] at cx
          clear hx
          generalize b.getD k 0 = bk at *
          have hne : (bk != bk) = false := by simp
          go_wp2
          go_roundw
          case rel => exact ⟨k + 1, by omega, by go_num, trivial⟩
          case measure => simp [intOf]; omega
        · have q3 : ¬ (k : Int) < 64 := by omega
          go_wp2
          exact ⟨⟨j + 1, F6, by omega, by go_num, by rw [HK2.out]; go_num, L8.out, Q8.out⟩, by simp [intOf]; omega⟩
      · have HQ4 := Lib.hid hq4
        have s1 : (z / 64 == 1) = false := by rw [hq4]; rfl
        have s2 : (z / 64 == 2) = true := by rw [hq4]; rfl
        have s3 : (z / 64 == 3) = false := by rw [hq4]; rfl
        have s4 : 0 < z / 64 := by omega
        have HK2 : Hid (keptK picks (j + 1) = keptK picks j + 1) := HKN.out true (decide_eq_true (by omega))
        have h63 := H63.out
        clear hq4
        go_wp2
        clear h63 s1 s2 s3 s4
        go_loopw [16, 17] (fun i wv wr => ∃ k : Nat, k ≤ 64 ∧ i = .int .i64 (k : Int) ∧ wr = W8) (fun i _ _ => 64 - (intOf i).toNat)
        case atStart => exact ⟨0, by omega, rfl, rfl⟩
        case round =>
        obtain ⟨k, hk, rfl, rfl⟩ := hrel
        by_cases hkl : k < 64
        · have q3 : (k : Int) < 64 := by omega
          have cb : wr.cell? ⟨q, k, none⟩ = some (.int .u8 (b.getD k 0)) := Q8.out.blk.cell (ints_getD (by rw [HB.out]; exact hkl))
          have cx : wr.cell? ⟨XB, k, none⟩ = some (.int .u8 (X.getD k 0)) := X8.out.cell (ints_getD (by rw [HXL.out]; exact hkl))
          have hx : X.getD k 0 = if (k : Int) < z % 64 then b.getD k 0 else 0 := by rw [← hX.out]; exact part2 b z HB.out HQ4.out k hkl
          by_cases hin : (k : Int) < z % 64
          · rw [hx, if_pos hin] at cx
            clear hx
            generalize b.getD k 0 = bk at *
            have hne : (bk != bk) = false := by simp
            go_wp2
            go_roundw
            case rel => exact ⟨k + 1, by omega, by go_num, trivial⟩
            case measure => simp [intOf]; omega
          · rw [hx, if_neg hin] at cx
            clear hx
            go_wp2
            go_roundw
            case rel => exact ⟨k + 1, by omega, by go_num, trivial⟩
            case measure => simp [intOf]; omega
        · have q3 : ¬ (k : Int) < 64 := by omega
          go_wp2
          exact ⟨⟨j + 1, F6, by omega, by go_num, by rw [HK2.out]; go_num, L8.out, Q8.out⟩, by simp [intOf]; omega⟩
      · have HQ4 := Lib.hid hq4
        have s1 : (z / 64 == 1) = false := by rw [hq4]; rfl
        have s2 : (z / 64 == 2) = false := by rw [hq4]; rfl
        have s3 : (z / 64 == 3) = true := by rw [hq4]; rfl
        have s4 : 0 < z / 64 := by omega
        have HK2 : Hid (keptK picks (j + 1) = keptK picks j + 1) := HKN.out true (decide_eq_true (by omega))
        have h63 := H63.out
        clear hq4
        go_wp2
        clear h63 s1 s2 s3 s4
        go_loopw [16, 17] (fun i wv wr => ∃ k : Nat, k ≤ 64 ∧ i = .int .i64 (k : Int) ∧ wr = W8) (fun i _ _ => 64 - (intOf i).toNat)
        case atStart => exact ⟨0, by omega, rfl, rfl⟩
        case round =>
        obtain ⟨k, hk, rfl, rfl⟩ := hrel
        by_cases hkl : k < 64
        · have q3 : (k : Int) < 64 := by omega
          have cb : wr.cell? ⟨q, k, none⟩ = some (.int .u8 (b.getD k 0)) := Q8.out.blk.cell (ints_getD (by rw [HB.out]; exact hkl))
          have cx : wr.cell? ⟨XB, k, none⟩ = some (.int .u8 (X.getD k 0)) := X8.out.cell (ints_getD (by rw [HXL.out]; exact hkl))
          have hx : X.getD k 0 = if 64 - z % 64 ≤ (k : Int) then b.getD k 0 else 0 := by rw [← hX.out]; exact part3 b z HB.out HQ4.out k hkl
          by_cases hin : 64 - z % 64 ≤ (k : Int)
          · rw [hx, if_pos hin] at cx
            clear hx
            generalize b.getD k 0 = bk at *
            have hne : (bk != bk) = false := by simp
            go_wp2
            go_roundw
            case rel => exact ⟨k + 1, by omega, by go_num, trivial⟩
            case measure => simp [intOf]; omega
          · rw [hx, if_neg hin] at cx
            clear hx
            have hin' : (k : Int) < 64 - z % 64 := by omega
            go_wp2
            go_roundw
            case rel => exact ⟨k + 1, by omega, by go_num, trivial⟩
            case measure => simp [intOf]; omega
        · have q3 : ¬ (k : Int) < 64 := by omega
          go_wp2
          exact ⟨⟨j + 1, F6, by omega, by go_num, by rw [HK2.out]; go_num, L8.out, Q8.out⟩, by simp [intOf]; omega⟩
    · have q2 : ¬ (j : Int) < 8 := by omega
      obtain rfl : j = 8 := by omega
      go_wp2
      go_ret
      exact ⟨rfl, L6.out.st.below⟩
theorem parts_all (b picks : List Int) (u : Value) (w : World) (hb : b.length = 64) (hu : BytesIn w u picks) (hpb : isBytes picks) : Calls Try.prog 7 #[.agg (ints .u8 b).toArray, u] w fun e w' => e = .returned (.bool true) ∧ Below w.heap.size w w' := by
  obtain ⟨a, c, rfl, hc, hp⟩ := id hu
  by_cases h : 1 ≤ picks.length ∧ picks.length ≤ 8
  · obtain ⟨pb, po, rfl, _, _⟩ := hp (by omega)
    exact parts_main b picks pb po picks.length c w hb hu rfl hpb h.1 h.2
  · exact parts_big b a picks.length c w (by omega)
end Go.Proofs.Ytmaobmeaanafcab
