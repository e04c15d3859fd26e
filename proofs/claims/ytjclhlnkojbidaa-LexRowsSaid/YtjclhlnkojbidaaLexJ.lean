/- The laws' first look. -/
import Derived.Test.YtjclhlnkojbidaaLexI
import Derived.Test.YtjclhlnkojbidaaLexF
import Derived.Test.YtjclhlnkojbidaaLexG
namespace Go.Proofs.Ytjclhlnkojbidaa
open Go Go.RowKit
set_option maxRecDepth 100000

def text1 : List UInt8 := [100, 101, 102, 32, 97, 46, 98, 32, 58, 61, 32, 40, 120, 49, 41, 32, 45, 45, 32, 110, 111, 10, 32, 49, 50, 59]
def toks1 : List Tk := [⟨1, [100, 101, 102], 0⟩, ⟨1, [97, 46, 98], 4⟩, ⟨3, [58, 61], 8⟩, ⟨3, [40], 11⟩, ⟨1, [120, 49], 12⟩, ⟨3, [41], 14⟩, ⟨2, [49, 50], 23⟩, ⟨3, [59], 25⟩]
theorem scan1 : scanR text1 = (toks1, 0, 0) := by kernel_rfl
theorem scan2 : scanR [97, 98, 32, 45, 32, 99] = ([], 3, 10) := by kernel_rfl
theorem num3 : numO [49, 50, 48] = some 120 := by kernel_rfl
theorem num4 : numO [48, 49] = none := by kernel_rfl
theorem place5 : placeR [97, 10, 98, 99] 3 = (2, 2) := by kernel_rfl
theorem run_cut_toks (g n c h : Nat) (h1 : h ≤ c) (w : World) : (Instr.sliceAt 23 (.slice (some ⟨g, 0, none⟩) n c) none (some (.int .i64 (h : Int))) none).run Try.prog w = .ok (.slice (some ⟨g, 0, none⟩) h c) w := by
  have hz : (sizeOf (Try.prog.elem 23)).run Try.prog w = .ok 3 w := by kernel_rfl
  rw [run_sliceAt_slice w 23 _ _ _ _ elemToks, run_slice_h w 23 _ _ c elemToks .i64 (h : Int) (by omega) (by omega), hz]
  simp only [Result.andThen_ok, sliced, Int.toNat_natCast, Nat.sub_zero, Nat.zero_mul, Addr.add_mid]
  split <;> rfl

set_option maxHeartbeats 8000000 in
theorem alive11_walk (w : World) : Calls Try.prog 7 #[] w fun e w' => e = .returned (.bool true) ∧ Below w.heap.size w w' := by
  obtain ⟨q, hq⟩ : ∃ q, Hid (w.heap.size = q) := ⟨_, rfl⟩
  rw [hq.out]
  have C1 := xscan_walk text1 w
  go_enter Try.func7, Try.ntmps7
  go_upto_region 0 with (fail)
  refine lin_begin (opsOf Try.f7 0) (by kernel_rfl) ?_
  refine lnow 0 (.bool false) (some 0) ?_
  refine lin_done 1 (by kernel_rfl) ?_
  generalize hact : Act.put _ (some 0) _ = act
  simp only [Act.put, List.setIfInBounds_toArray, List.set_cons_succ, List.set_cons_zero] at hact
  subst hact
  go_upto_region 1 with (fail)
  refine lin_begin (opsOf Try.f7 1) (by kernel_rfl) ?_
  refine lin_call 0 8 #[sT text1] (some 14) _ (by kernel_rfl) (by kernel_rfl) (by kernel_rfl) (C1) ?_
  rintro e w1 hp1
  unfold ScanPost at hp1
  rw [scan1] at hp1
  obtain ⟨v1, rfl, ho1, hb1⟩ := hp1
  refine ⟨_, rfl, ?_⟩
  rw [hq.out] at hb1
  obtain ⟨va, vc, hv1, hcap, hrd⟩ := ho1.read
  obtain ⟨g, u, rfl, hg, hr⟩ := hrd (by decide)
  obtain rfl : u = 0 := by rcases ho1.2 with ⟨e, _⟩ | ⟨g2, c2, cu, e, _⟩ <;> (rw [hv1] at e; cases e); rfl
  subst hv1
  have R1 : Hid (w1.rangeAt g 0 (tksC toks1)) := hr
  have SX1 : Hid (SlX w1 (.slice (some ⟨g, 0, none⟩) 8 vc) toks1) := ho1.read
  have HG : Hid (g < w1.heap.size) := hg
  have HC : Hid (8 ≤ vc) := hcap
  have BE := Lib.hid hb1
  clear hr ho1 hrd hg hcap hb1 C1
  rw [show toks1.length = 8 from rfl]
  refine lnow 1 (.tuple #[.slice (some ⟨g, 0, none⟩) 8 vc, .int .i64 0, .int .i64 0]) (some 13) ?_
  refine lnow 2 (.slice (some ⟨g, 0, none⟩) 8 vc) (some 15) ?_
  refine lnow 3 (.int .i64 0) (some 16) ?_
  refine lnow 4 (.int .i64 0) (some 17) ?_
  refine lnow 5 (.slice (some ⟨g, 0, none⟩) 8 vc) (some 1) ?_
  refine lnow 6 (.int .i64 0) (some 2) ?_
  refine lnow 7 (.int .i64 0) (some 3) ?_
  refine lin_done 8 (by kernel_rfl) ?_
  generalize hact : Act.put _ (some 3) _ = act
  simp only [Act.put, List.setIfInBounds_toArray, List.set_cons_succ, List.set_cons_zero] at hact
  subst hact
  go_upto_region 2 with (fail)
  refine lin_begin (opsOf Try.f7 2) (by kernel_rfl) ?_
  have C2 := xscan_walk [97, 98, 32, 45, 32, 99] w1
  refine lin_call 0 8 #[sT [97, 98, 32, 45, 32, 99]] (some 19) _ (by kernel_rfl) (by kernel_rfl) (by kernel_rfl) (C2) ?_
  rintro e w2 hp1
  unfold ScanPost at hp1
  rw [scan2] at hp1
  obtain ⟨v2, rfl, ho2, hb2⟩ := hp1
  refine ⟨_, rfl, ?_⟩
  have R2 : Hid (w2.rangeAt g 0 (tksC toks1)) := fun j x hx => by rw [hb2.cell (p := ⟨g, 0 + j, none⟩) HG.out]; exact R1.out j x hx
  have SX2 := Lib.hid (SX1.out.below hb2)
  have BE2 : Hid (Below q w w2) := BE.out.trans (hb2.mono (by rw [← hq.out]; exact BE.out.size))
  have QW : Hid (q ≤ w2.heap.size) := by rw [Hid, ← hq.out]; exact BE2.out.size
  clear R1 SX1 BE hb2 ho2 C2 HG
  refine lnow 1 (.tuple #[v2, .int .i64 3, .int .i64 10]) (some 18) ?_
  refine lnow 2 (v2) (some 20) ?_
  refine lnow 3 (.int .i64 3) (some 21) ?_
  refine lnow 4 (.int .i64 10) (some 22) ?_
  refine lnow 5 (v2) (some 4) ?_
  refine lnow 6 (.int .i64 3) (some 5) ?_
  refine lnow 7 (.int .i64 10) (some 6) ?_
  refine lin_done 8 (by kernel_rfl) ?_
  generalize hact : Act.put _ (some 6) _ = act
  simp only [Act.put, List.setIfInBounds_toArray, List.set_cons_succ, List.set_cons_zero] at hact
  subst hact
  go_upto_region 3 with (fail)
  refine lin_begin (opsOf Try.f7 3) (by kernel_rfl) ?_
  have C3 := xnumber_walk [49, 50, 48] w2
  rw [num3] at C3
  refine lin_call 0 12 #[sT [49, 50, 48]] (some 24) _ (by kernel_rfl) (by kernel_rfl) (by kernel_rfl) (C3) ?_
  rintro e w3 ⟨rfl, hw3⟩
  obtain rfl := hw3.symm
  refine ⟨_, rfl, ?_⟩
  refine lnow 1 (.tuple #[.int .i64 120, .bool true]) (some 23) ?_
  refine lnow 2 (.int .i64 120) (some 25) ?_
  refine lnow 3 (.bool true) (some 26) ?_
  refine lnow 4 (.int .i64 120) (some 7) ?_
  refine lnow 5 (.bool true) (some 8) ?_
  refine lin_done 6 (by kernel_rfl) ?_
  generalize hact : Act.put _ (some 8) _ = act
  simp only [Act.put, List.setIfInBounds_toArray, List.set_cons_succ, List.set_cons_zero] at hact
  subst hact
  go_upto_region 4 with (fail)
  refine lin_begin (opsOf Try.f7 4) (by kernel_rfl) ?_
  have C3 := xnumber_walk [48, 49] w2
  rw [num4] at C3
  refine lin_call 0 12 #[sT [48, 49]] (some 28) _ (by kernel_rfl) (by kernel_rfl) (by kernel_rfl) (C3) ?_
  rintro e w3 ⟨rfl, hw3⟩
  obtain rfl := hw3.symm
  refine ⟨_, rfl, ?_⟩
  refine lnow 1 (.tuple #[.int .i64 0, .bool false]) (some 27) ?_
  refine lnow 2 (.int .i64 0) (some 29) ?_
  refine lnow 3 (.bool false) (some 30) ?_
  refine lnow 4 (.int .i64 0) (some 9) ?_
  refine lnow 5 (.bool false) (some 10) ?_
  refine lin_done 6 (by kernel_rfl) ?_
  generalize hact : Act.put _ (some 10) _ = act
  simp only [Act.put, List.setIfInBounds_toArray, List.set_cons_succ, List.set_cons_zero] at hact
  subst hact
  go_upto_region 5 with (fail)
  refine lin_begin (opsOf Try.f7 5) (by kernel_rfl) ?_
  have C5 := xplace_walk [97, 10, 98, 99] (by decide) 3 w2
  rw [place5] at C5
  refine lin_call 0 10 #[sT [97, 10, 98, 99], .int .i64 3] (some 32) _ (by kernel_rfl) (by kernel_rfl) (by kernel_rfl) (C5) ?_
  rintro e w3 ⟨rfl, hw3⟩
  obtain rfl := hw3.symm
  refine ⟨_, rfl, ?_⟩
  refine lnow 1 (.tuple #[.int .i64 2, .int .i64 2]) (some 31) ?_
  refine lnow 2 (.int .i64 2) (some 33) ?_
  refine lnow 3 (.int .i64 2) (some 34) ?_
  refine lnow 4 (.int .i64 2) (some 11) ?_
  refine lnow 5 (.int .i64 2) (some 12) ?_
  refine lin_done 6 (by kernel_rfl) ?_
  generalize hact : Act.put _ (some 12) _ = act
  simp only [Act.put, List.setIfInBounds_toArray, List.set_cons_succ, List.set_cons_zero] at hact
  subst hact
  go_upto_region 6 with (fail)
  refine lin_begin (opsOf Try.f7 6) (by kernel_rfl) ?_
  refine lnow 0 (.int .i64 0) (some 35) ?_
  refine lnow 1 (.bool false) (some 36) ?_
  refine lnow 2 (.bool false) (some 37) ?_
  refine lnow 3 (.slice (some ⟨g, 0, none⟩) 8 vc) (some 38) ?_
  refine lnow 4 (.int .i64 8) (some 39) ?_
  refine lnow 5 (.bool false) (some 40) ?_
  refine lnow 6 (.bool false) (some 41) ?_
  refine lin_done 7 (by kernel_rfl) ?_
  generalize hact : Act.put _ (some 41) _ = act
  simp only [Act.put, List.setIfInBounds_toArray, List.set_cons_succ, List.set_cons_zero] at hact
  subst hact
  have k1 : Hid (w2.cell? ⟨g, 1, none⟩ = some (sT [100, 101, 102])) := by have h := R2.out 1 _ rfl; rw [Nat.zero_add] at h; exact h
  have k4 : Hid (w2.cell? ⟨g, 4, none⟩ = some (sT [97, 46, 98])) := by have h := R2.out 4 _ rfl; rw [Nat.zero_add] at h; exact h
  have k7 : Hid (w2.cell? ⟨g, 7, none⟩ = some (sT [58, 61])) := by have h := R2.out 7 _ rfl; rw [Nat.zero_add] at h; exact h
  have k6 : Hid (w2.cell? ⟨g, 6, none⟩ = some (.int .i64 3)) := by have h := R2.out 6 _ rfl; rw [Nat.zero_add] at h; exact h
  have k18 : Hid (w2.cell? ⟨g, 18, none⟩ = some (.int .i64 2)) := by have h := R2.out 18 _ rfl; rw [Nat.zero_add] at h; exact h
  have k20 : Hid (w2.cell? ⟨g, 20, none⟩ = some (.int .i64 23)) := by have h := R2.out 20 _ rfl; rw [Nat.zero_add] at h; exact h
  go_upto_region 8 with (fail)
  refine lin_begin (opsOf Try.f7 8) (by kernel_rfl) ?_
  refine lnow 0 (.int .i64 10) (some 42) ?_
  refine lnow 1 (.bool true) (some 43) ?_
  refine lnow 2 (.bool true) (some 44) ?_
  refine lnow 3 (.int .i64 3) (some 45) ?_
  refine lnow 4 (.bool true) (some 46) ?_
  refine lnow 5 (.bool true) (some 47) ?_
  refine lnow 6 (.bool true) (some 48) ?_
  refine lnow 7 (.bool true) (some 49) ?_
  refine lnow 8 (.bool true) (some 50) ?_
  refine lnow 9 (.bool true) (some 51) ?_
  refine lnow 10 (.bool false) (some 52) ?_
  refine lnow 11 (.bool true) (some 53) ?_
  refine lnow 12 (.bool true) (some 54) ?_
  refine lnow 13 (.bool true) (some 55) ?_
  refine lnow 14 (.int .i64 120) (some 56) ?_
  refine lnow 15 (.bool true) (some 57) ?_
  refine lnow 16 (.bool true) (some 58) ?_
  refine lnow 17 (.bool true) (some 59) ?_
  refine lnow 18 (.int .i64 2) (some 60) ?_
  refine lnow 19 (.bool true) (some 61) ?_
  refine lnow 20 (.bool true) (some 62) ?_
  refine lnow 21 (.bool true) (some 63) ?_
  refine lnow 22 (.int .i64 2) (some 64) ?_
  refine lnow 23 (.bool true) (some 65) ?_
  refine lnow 24 (.bool true) (some 66) ?_
  refine lnow 25 (.bool true) (some 67) ?_
  refine lnow 26 (.slice (some ⟨g, 0, none⟩) 8 vc) (some 68) ?_
  refine lnowP 27 (.pointer (some ⟨g, 0, none⟩)) (some 69) (exec_indexAt 23 (.tmp 68) (.const (.int .i64 0)) (by kernel_rfl) _ _ _ (by kernel_rfl) (by kernel_rfl) (run_at_tok g 0 8 vc 0 (by decide) _)) ?_
  refine lnow 28 (.pointer (some ⟨g, 1, none⟩)) (some 70) ?_
  refine lnowP 29 (sT ([100, 101, 102] : List UInt8)) (some 71) (exec_load_cell 9 (.tmp 70) (by kernel_rfl) (g) (1) (by kernel_rfl) _ (k1.out) _ Try.underlying9 rfl) ?_
  refine lnowP 30 (.bool (decide (([100, 101, 102] : List UInt8) = [100, 101, 102]))) (some 72) (exec_sEq 9 9 (.tmp 71) (.const (.string ⟨#[100, 101, 102]⟩)) (by kernel_rfl) (([100, 101, 102] : List UInt8)) [100, 101, 102] (by kernel_rfl) (by kernel_rfl) (fun _ => rfl)) ?_
  rw [decide_eq_true rfl]
  refine lnow 31 (.bool true) (some 73) ?_
  refine lnow 32 (.bool true) (some 74) ?_
  refine lnow 33 (.slice (some ⟨g, 0, none⟩) 8 vc) (some 75) ?_
  refine lnowP 34 (.pointer (some ⟨g, 3, none⟩)) (some 76) (exec_indexAt 23 (.tmp 75) (.const (.int .i64 1)) (by kernel_rfl) _ _ _ (by kernel_rfl) (by kernel_rfl) (run_at_tok g 0 8 vc 1 (by decide) _)) ?_
  refine lnow 35 (.pointer (some ⟨g, 4, none⟩)) (some 77) ?_
  refine lnowP 36 (sT ([97, 46, 98] : List UInt8)) (some 78) (exec_load_cell 9 (.tmp 77) (by kernel_rfl) (g) (4) (by kernel_rfl) _ (k4.out) _ Try.underlying9 rfl) ?_
  refine lnowP 37 (.bool (decide (([97, 46, 98] : List UInt8) = [97, 46, 98]))) (some 79) (exec_sEq 9 9 (.tmp 78) (.const (.string ⟨#[97, 46, 98]⟩)) (by kernel_rfl) (([97, 46, 98] : List UInt8)) [97, 46, 98] (by kernel_rfl) (by kernel_rfl) (fun _ => rfl)) ?_
  rw [decide_eq_true rfl]
  refine lnow 38 (.bool true) (some 80) ?_
  refine lnow 39 (.bool true) (some 81) ?_
  refine lnow 40 (.slice (some ⟨g, 0, none⟩) 8 vc) (some 82) ?_
  refine lnowP 41 (.pointer (some ⟨g, 6, none⟩)) (some 83) (exec_indexAt 23 (.tmp 82) (.const (.int .i64 2)) (by kernel_rfl) _ _ _ (by kernel_rfl) (by kernel_rfl) (run_at_tok g 0 8 vc 2 (by decide) _)) ?_
  refine lnow 42 (.pointer (some ⟨g, 6, none⟩)) (some 84) ?_
  refine lnowP 43 (.int .i64 3) (some 85) (exec_load_cell 3 (.tmp 84) (by kernel_rfl) (g) (6) (by kernel_rfl) _ (k6.out) _ Try.underlying3 rfl) ?_
  refine lnow 44 (.bool true) (some 86) ?_
  refine lnow 45 (.bool true) (some 87) ?_
  refine lnow 46 (.bool true) (some 88) ?_
  refine lnow 47 (.slice (some ⟨g, 0, none⟩) 8 vc) (some 89) ?_
  refine lnowP 48 (.pointer (some ⟨g, 6, none⟩)) (some 90) (exec_indexAt 23 (.tmp 89) (.const (.int .i64 2)) (by kernel_rfl) _ _ _ (by kernel_rfl) (by kernel_rfl) (run_at_tok g 0 8 vc 2 (by decide) _)) ?_
  refine lnow 49 (.pointer (some ⟨g, 7, none⟩)) (some 91) ?_
  refine lnowP 50 (sT ([58, 61] : List UInt8)) (some 92) (exec_load_cell 9 (.tmp 91) (by kernel_rfl) (g) (7) (by kernel_rfl) _ (k7.out) _ Try.underlying9 rfl) ?_
  refine lnowP 51 (.bool (decide (([58, 61] : List UInt8) = [58, 61]))) (some 93) (exec_sEq 9 9 (.tmp 92) (.const (.string ⟨#[58, 61]⟩)) (by kernel_rfl) (([58, 61] : List UInt8)) [58, 61] (by kernel_rfl) (by kernel_rfl) (fun _ => rfl)) ?_
  rw [decide_eq_true rfl]
  refine lnow 52 (.bool true) (some 94) ?_
  refine lnow 53 (.bool true) (some 95) ?_
  refine lnow 54 (.slice (some ⟨g, 0, none⟩) 8 vc) (some 96) ?_
  refine lnowP 55 (.pointer (some ⟨g, 18, none⟩)) (some 97) (exec_indexAt 23 (.tmp 96) (.const (.int .i64 6)) (by kernel_rfl) _ _ _ (by kernel_rfl) (by kernel_rfl) (run_at_tok g 0 8 vc 6 (by decide) _)) ?_
  refine lnow 56 (.pointer (some ⟨g, 18, none⟩)) (some 98) ?_
  refine lnowP 57 (.int .i64 2) (some 99) (exec_load_cell 3 (.tmp 98) (by kernel_rfl) (g) (18) (by kernel_rfl) _ (k18.out) _ Try.underlying3 rfl) ?_
  refine lnow 58 (.bool true) (some 100) ?_
  refine lnow 59 (.bool true) (some 101) ?_
  refine lnow 60 (.bool true) (some 102) ?_
  refine lnow 61 (.slice (some ⟨g, 0, none⟩) 8 vc) (some 103) ?_
  refine lnowP 62 (.pointer (some ⟨g, 18, none⟩)) (some 104) (exec_indexAt 23 (.tmp 103) (.const (.int .i64 6)) (by kernel_rfl) _ _ _ (by kernel_rfl) (by kernel_rfl) (run_at_tok g 0 8 vc 6 (by decide) _)) ?_
  refine lnow 63 (.pointer (some ⟨g, 20, none⟩)) (some 105) ?_
  refine lnowP 64 (.int .i64 23) (some 106) (exec_load_cell 3 (.tmp 105) (by kernel_rfl) (g) (20) (by kernel_rfl) _ (k20.out) _ Try.underlying3 rfl) ?_
  refine lnow 65 (.bool true) (some 107) ?_
  refine lnow 66 (.bool true) (some 108) ?_
  refine lnow 67 (.bool true) (some 109) ?_
  refine lnow 68 (.slice (some ⟨g, 0, none⟩) 8 vc) (some 110) ?_
  refine lnowP 69 (.slice (some ⟨g, 0, none⟩) 2 vc) (some 111) (exec_of (Instr.sliceAt 23 (.slice (some ⟨g, 0, none⟩) 8 vc) none (some (.int .i64 2)) none) _ (by kernel_rfl) (run_cut_toks g 8 vc 2 (by have := HC.out; omega) _)) ?_
  have SX3 : SlX w2 (.slice (some ⟨g, 0, none⟩) 2 vc) (toks1.take 2) := by obtain ⟨a, c, h1, h2, h3⟩ := SX2.out; obtain ⟨g', u', e1, e2, e3⟩ := h3 (by decide); cases h1; cases e1; exact ⟨_, _, rfl, by have := HC.out; show 2 ≤ _; omega, fun _ => ⟨g, 0, rfl, e2, fun j y hy => e3 j y (by rw [tksC_take] at hy; rw [List.getElem?_take] at hy; split at hy; exact hy; cases hy)⟩⟩
  have C6 := xjoin_walk _ _ w2 SX3 (by decide)
  rw [show joinB (textsOf (toks1.take 2)) = ([100, 101, 102, 32, 97, 46, 98] : List UInt8) from rfl] at C6
  refine lin_call 70 14 #[.slice (some ⟨g, 0, none⟩) 2 vc] (some 112) _ (by kernel_rfl) (by kernel_rfl) (by kernel_rfl) (C6) ?_
  rintro e w7 ⟨rfl, hb7⟩
  refine ⟨_, rfl, ?_⟩
  have FIN : Hid (Below q w w7) := BE2.out.trans (hb7.mono QW.out)
  clear hb7 SX3 C6 SX2 R2
  refine lnowP 71 (.bool (decide (([100, 101, 102, 32, 97, 46, 98] : List UInt8) = [100, 101, 102, 32, 97, 46, 98]))) (some 113) (exec_sEq 9 9 (.tmp 112) (.const (.string ⟨#[100, 101, 102, 32, 97, 46, 98]⟩)) (by kernel_rfl) (([100, 101, 102, 32, 97, 46, 98] : List UInt8)) [100, 101, 102, 32, 97, 46, 98] (by kernel_rfl) (by kernel_rfl) (fun _ => rfl)) ?_
  rw [decide_eq_true rfl]
  refine lnow 72 (.bool true) (some 114) ?_
  refine lnow 73 (.bool true) (some 0) ?_
  refine lin_done 74 (by kernel_rfl) ?_
  generalize hact : Act.put _ (some 0) _ = act
  simp only [Act.put, List.setIfInBounds_toArray, List.set_cons_succ, List.set_cons_zero] at hact
  subst hact
  go_wp2
  go_ret
  exact ⟨rfl, FIN.out⟩
end Go.Proofs.Ytjclhlnkojbidaa
