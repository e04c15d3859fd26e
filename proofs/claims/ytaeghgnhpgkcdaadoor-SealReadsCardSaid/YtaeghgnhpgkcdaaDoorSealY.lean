/- The reference of layer 4: Mark, Data, Highest. -/
import Derived.Test.YtaeghgnhpgkcdaaDoorSealU
namespace Go.Proofs.YtaeghgnhpgkcdaaDoor
open Go Go.RowKit
set_option maxRecDepth 100000

theorem whole_ends2 {x : List Int} (hl : x.length = 64) (hb : isBytes x) (hw : wholeP x) : x.drop 56 = x.take 8 := by
  obtain ⟨h1, h2⟩ := hw
  have hc := cntP_range hb hl
  have h3 : ((x.drop 10).take (cntP x).toNat).length ≤ 46 := by rw [List.length_take]; omega
  have h4 := sectorP_last (m := x.take 8) (data := (x.drop 10).take (cntP x).toNat) (by rw [List.length_take]; omega) h3
  rw [← h2] at h4
  exact h4
theorem getD_cut {l : List Int} {a b i : Nat} (h1 : a ≤ i) (h2 : i < a + b) : ((l.drop a).take b).getD (i - a) 0 = l.getD i 0 := by
  rw [List.getD_eq_getElem?_getD, List.getD_eq_getElem?_getD, List.getElem?_take, if_pos (by omega), List.getElem?_drop, show a + (i - a) = i by omega]
theorem zeros_getD (n i : Nat) : (zeros n).getD i 0 = 0 := by
  unfold zeros
  rw [List.getD_eq_getElem?_getD, List.getElem?_replicate]
  split <;> rfl
theorem cut_zeros {l : List Int} {a b : Nat} (hl : a + b ≤ l.length) (h : ∀ i, a ≤ i → i < a + b → l.getD i 0 = 0) : (l.drop a).take b = zeros b := by
  apply List.ext_getElem (by rw [List.length_take, List.length_drop, zeros_length]; omega)
  intro i h1 h2
  rw [zeros_length] at h2
  have h3 := h (a + i) (by omega) (by omega)
  have h4 := getD_cut (l := l) (a := a) (b := b) (i := a + i) (by omega) (by omega)
  rw [h3, Nat.add_sub_cancel_left, List.getD_eq_getElem?_getD, List.getElem?_eq_getElem h1] at h4
  have h5 : (zeros b)[i]'(by rw [zeros_length]; exact h2) = 0 := by unfold zeros; simp
  rw [h5]
  exact h4
def wholeR (b : List Int) : Prop := b.take 8 = b.drop 56 ∧ cntP b ≤ 46 ∧ ∀ i, 10 + (cntP b).toNat ≤ i → i < 56 → b.getD i 0 = 0
theorem whole_iff {b : List Int} (hl : b.length = 64) (hb : isBytes b) : wholeP b ↔ wholeR b := by
  have hc := cntP_range hb hl
  constructor
  · intro hw
    have h8 := whole_ends2 hl hb hw
    refine ⟨h8.symm, hw.1, fun i h1 h2 => ?_⟩
    obtain ⟨n, hn⟩ : ∃ n, (cntP b).toNat = n := ⟨_, rfl⟩
    rw [hn] at h1
    have h3 := hw.2
    rw [hn] at h3
    have hdl : ((b.drop 10).take n).length = n := by rw [List.length_take, List.length_drop]; have := hw.1; omega
    have h4 := sectorP_room (m := b.take 8) (data := (b.drop 10).take n) (by rw [List.length_take]; omega) (by rw [hdl]; have := hw.1; omega)
    rw [← h3] at h4
    have h5 := getD_cut (l := b) (a := 10) (b := 46) (i := i) (by omega) (by omega)
    rw [h4] at h5
    rw [← h5, List.getD_eq_getElem?_getD, List.getElem?_append_right (by rw [hdl]; omega), ← List.getD_eq_getElem?_getD]
    exact zeros_getD _ _
  · rintro ⟨h1, h2, h3⟩
    refine ⟨h2, ?_⟩
    obtain ⟨n, hn⟩ : ∃ n, (cntP b).toNat = n := ⟨_, rfl⟩
    rw [hn] at h3 ⊢
    have n46 : n ≤ 46 := by omega
    have hdl : ((b.drop 10).take n).length = n := by rw [List.length_take, List.length_drop]; omega
    have e1 : (b.drop 8).take 2 = beB 2 n := by
      have h := beB_numB (bytes_take (bytes_drop hb 8) 2)
      have hl2 : ((b.drop 8).take 2).length = 2 := by rw [List.length_take, List.length_drop]; omega
      rw [hl2] at h
      have hcn : numB ((b.drop 8).take 2) = cntP b := rfl
      rw [hcn, hn] at h
      exact h.symm
    have e2 : (b.drop (10 + n)).take (46 - n) = zeros (46 - n) := cut_zeros (by omega) (fun i hi1 hi2 => h3 i hi1 (by omega))
    have split : b = b.take 8 ++ ((b.drop 8).take 2 ++ ((b.drop 10).take n ++ ((b.drop (10 + n)).take (46 - n) ++ b.drop 56))) := by
      have s4 : (b.drop (10 + n)).take (46 - n) ++ b.drop 56 = b.drop (10 + n) := by
        have h := List.take_append_drop (46 - n) (b.drop (10 + n))
        rw [List.drop_drop, show 10 + n + (46 - n) = 56 by omega] at h
        exact h
      have s3 : (b.drop 10).take n ++ b.drop (10 + n) = b.drop 10 := by
        have h := List.take_append_drop n (b.drop 10)
        rw [List.drop_drop] at h
        exact h
      have s2 : (b.drop 8).take 2 ++ b.drop 10 = b.drop 8 := by
        have h := List.take_append_drop 2 (b.drop 8)
        rw [List.drop_drop] at h
        exact h
      rw [s4, s3, s2, List.take_append_drop]
    conv => lhs; rw [split]
    unfold sectorP
    rw [hdl, e1, e2, ← h1]
def dataQ (b : List Int) : List Int := if wholeP b then dataP b else []
theorem genP_eq (b : List Int) : genP b = numB (b.take 4) := by unfold genP; rw [List.take_take]; rfl
theorem numP_eq (b : List Int) : numP b = numB ((b.drop 4).take 4) := by unfold numP; rw [List.drop_take]
set_option maxHeartbeats 2000000 in
theorem rlmark_yes (b : List Int) (hl : b.length = 64) (hb : isBytes b) (hw : wholeP b) (w : World) :
    Calls Tryd.prog 18 #[.agg (ints .u8 b).toArray] w fun e w' => e = .returned (.tuple #[.int .i64 (genP b), .int .i64 (numP b), .bool true]) ∧ Below w.heap.size w w' := by
  have HL := Lib.hid hl
  have HB := Lib.hid hb
  obtain ⟨n, hn⟩ : ∃ n : Nat, cntP b = (n : Int) := Int.eq_ofNat_of_zero_le (cntP_range hb hl).1
  have n16 : n < 65536 := by have := (cntP_range hb hl).2; omega
  have HN := Lib.hid hn
  obtain ⟨B, hB⟩ : ∃ B, Hid (w.heap.size = B) := ⟨_, rfl⟩
  rw [hB.out]
  obtain ⟨h1, h2, h3⟩ := (whole_iff hl hb).1 hw
  rw [hn, Int.toNat_natCast] at h3
  have n46 : n ≤ 46 := by omega
  have HE := Lib.hid h1
  have HZ := Lib.hid h3
  clear h1 h2 h3 hw
  clear hl hb hn
  go_enter Tryd.func18, Tryd.ntmps18
  go_upto_region 0 with (fail)
  refine lin_begin (opsOf Tryd.f18 0) (by kernel_rfl) ?_
  refine lin_box 0 37 (.tmp 0) (ints .u8 b) (B) (some 1) (by kernel_rfl) (by kernel_rfl) (by kernel_rfl) (by kernel_rfl) hB ?_
  intro w1 b1 be1 hs1
  refine lin_now 1 (.int .i64 0) (some 2) (by kernel_rfl) (by kernel_rfl) (by kernel_rfl) ?_
  refine lin_now 2 (.int .i64 0) (some 3) (by kernel_rfl) (by kernel_rfl) (by kernel_rfl) ?_
  refine lin_now 3 (.bool false) (some 4) (by kernel_rfl) (by kernel_rfl) (by kernel_rfl) ?_
  refine lin_done 4 (by kernel_rfl) ?_
  have X1 := Lib.hid b1
  have BE1 := Lib.hid be1
  clear b1 be1
  generalize hact : Act.put _ (some 4) _ = act
  simp only [Act.put, List.setIfInBounds_toArray, List.set_cons_succ, List.set_cons_zero] at hact
  subst hact
  have PC : Hid (BytesIn w1 (.slice (some ⟨B, 8, none⟩) 2 56) ((b.drop 8).take 2)) := by
    have hl' : ((b.drop 8).take 2).length = 2 := by simp [HL.out]
    refine ⟨_, 56, by rw [hl'], by rw [hl']; omega, fun _ => ⟨B, 8, rfl, X1.out.lt, ?_⟩⟩
    have h := range_part X1.out 8 2
    exact h
  have PF : Hid (BytesIn w1 (.slice (some ⟨B, 0, none⟩) 8 64) (b.take 8)) := by
    have hl' : (b.take 8).length = 8 := by simp [HL.out]
    refine ⟨_, 64, by rw [hl'], by rw [hl']; omega, fun _ => ⟨B, 0, rfl, X1.out.lt, ?_⟩⟩
    have h := range_part X1.out 0 8
    rw [List.drop_zero] at h
    exact h
  have PL : Hid (BytesIn w1 (.slice (some ⟨B, 56, none⟩) 8 8) (b.drop 56)) := by
    have hl' : (b.drop 56).length = 8 := by simp [HL.out]
    refine ⟨_, 8, by rw [hl'], by rw [hl']; omega, fun _ => ⟨B, 56, rfl, X1.out.lt, ?_⟩⟩
    have h := range_part X1.out 56 8
    rw [List.take_of_length_le (by rw [List.length_drop, HL.out]; omega)] at h
    exact h
  go_upto_region 1 with (fail)
  refine lin_begin (opsOf Tryd.f18 1) (by kernel_rfl) ?_
  refine lin_now 0 (.slice (some ⟨B, 8, none⟩) 2 56) (some 7) (by kernel_rfl) (by kernel_rfl) (by kernel_rfl) ?_
  refine lin_call 1 36 #[.slice (some ⟨B, 8, none⟩) 2 56] (some 8) _ (by kernel_rfl) (by kernel_rfl) (by kernel_rfl) (rlnumber_walk _ 2 56 ((b.drop 8).take 2) _ PC.out (by simp [HL.out]) (bytes_take (bytes_drop HB.out 8) 2) (by omega)) ?_
  rintro e w2 ⟨rfl, rfl⟩
  refine ⟨_, rfl, ?_⟩
  rw [show numB ((b.drop 8).take 2) = (n : Int) from HN.out]
  refine lin_now 2 (.int .i64 (n : Int)) (some 5) (by kernel_rfl) (by kernel_rfl) (by kernel_rfl) ?_
  refine lin_done 3 (by kernel_rfl) ?_
  generalize hact : Act.put _ (some 5) _ = act
  simp only [Act.put, List.setIfInBounds_toArray, List.set_cons_succ, List.set_cons_zero] at hact
  subst hact
  have HCE : Hid (Calls Tryd.prog 13 #[.slice (some ⟨B, 0, none⟩) 8 64, .slice (some ⟨B, 56, none⟩) 8 8] w1.drew fun e w' => e = .returned (.bool true) ∧ ∃ d, w' = w1.drew.drewN d) := by
    have h := sameb_walk _ _ (b.take 8) (b.drop 56) w1.drew PF.out PL.out (by simp [HL.out])
    rw [decide_eq_true HE.out] at h
    exact h
  go_upto_region 2 with (fail)
  refine region_begin (opsOf Tryd.f18 2) (fun _ => True) (by kernel_rfl) (by kernel_rfl) 8 (by kernel_rfl) ?_
  intro Q' hQN hN
  refine reg_now 0 (.slice (some ⟨B, 0, none⟩) 8 64) (some 9) hQN trivial (by kernel_rfl) (by kernel_rfl) (fun w => by kernel_rfl) ?_
  refine reg_now 1 (.slice (some ⟨B, 56, none⟩) 8 8) (some 10) hQN trivial (by kernel_rfl) (by kernel_rfl) (fun w => by kernel_rfl) ?_
  refine reg_call 2 13 #[.slice (some ⟨B, 0, none⟩) 8 64, .slice (some ⟨B, 56, none⟩) 8 8] (some 11) _ (by kernel_rfl) (by kernel_rfl) (by kernel_rfl) (HCE.out) ?_
  rintro e w3 ⟨rfl, d3, rfl⟩
  refine ⟨_, rfl, trivial, ?_⟩
  refine reg_now 3 (.bool false) (some 12) hQN trivial (by kernel_rfl) (by kernel_rfl) (fun w => by kernel_rfl) ?_
  refine reg_now 4 (.bool false) (some 13) hQN trivial (by kernel_rfl) (by kernel_rfl) (fun w => by kernel_rfl) ?_
  refine reg_now 5 (.int .i64 (n : Int)) (some 14) hQN trivial (by kernel_rfl) (by kernel_rfl) (fun w => by kernel_rfl) ?_
  refine reg_now 6 (.bool (decide ((46 : Int) < (n : Int)))) (some 15) hQN trivial (by kernel_rfl) (by kernel_rfl) (fun w => by kernel_rfl) ?_
  rw [show decide ((46 : Int) < (n : Int)) = false from decide_eq_false (by omega)]
  refine reg_now 7 (.bool false) (some 16) hQN trivial (by kernel_rfl) (by kernel_rfl) (fun w => by kernel_rfl) ?_
  refine reg_done (by kernel_rfl) (hN _ _ ?_)
  have bb3 : Below w1.heap.size w1 (w1.drew.drewN d3) := ((Below.refl _ _).drew).trans (below_drewN w1.drew d3)
  have BE3 : Hid (Below B w (w1.drew.drewN d3)) := BE1.out.trans (bb3.mono (by rw [hs1.out]; omega))
  have X3 : Hid (Blk (w1.drew.drewN d3) B 37 (ints .u8 b)) := X1.out
  have hs3 : Hid (B ≤ (w1.drew.drewN d3).heap.size) := by unfold Hid; have := BE3.out.size; have := hB.out; omega
  clear hQN hN bb3 BE1 X1 hs1 HCE PC PF PL
  generalize w1.drew.drewN d3 = W3 at *
  generalize hact : Act.put _ (some 16) _ = act
  simp only [Act.put, List.setIfInBounds_toArray, List.set_cons_succ, List.set_cons_zero] at hact
  subst hact
  go_wp2
  go_loop [6] (fun iv => ∃ i : Nat, 10 + n ≤ i ∧ i ≤ 56 ∧ iv = .int .i64 (i : Int)) (fun iv => 56 - (intOf iv).toNat)
  case atStart => exact ⟨10 + n, by omega, by omega, by go_num⟩
  case round =>
    obtain ⟨i, hi0, hi, rfl⟩ := hrel
    have hx : b[i]? = some (b.getD i 0) ∨ 64 ≤ i := by
      by_cases h : i < 64
      · exact .inl (by rw [List.getD_eq_getElem?_getD, List.getElem?_eq_getElem (by rw [HL.out]; exact h)]; rfl)
      · exact .inr (by omega)
    by_cases hlt : i < 56
    · have r1 : (i : Int) < 56 := by omega
      have r0 : (0 : Int) ≤ (i : Int) := by omega
      have r2 : (i : Int) < 64 := by omega
      have hx1 : b[i]? = some (b.getD i 0) := by rcases hx with h | h; exact h; omega
      have c0 := X3.out.cell (ints_get (k := .u8) hx1)
      clear hx hx1
      have z0 : b.getD i 0 = 0 := HZ.out i (by omega) (by omega)
      rw [z0] at c0
      clear z0
      go_wp2
      exact ⟨⟨i + 1, by omega, by omega, by go_num⟩, by simp [intOf]; omega⟩
    · have r1 : ¬ (i : Int) < 56 := by omega
      clear hx
      have P1 : Hid (BytesIn W3 (.slice (some ⟨B, 0, none⟩) 4 64) (b.take 4)) := by
        have hl' : (b.take 4).length = 4 := by simp [HL.out]
        refine ⟨_, 64, by rw [hl'], by rw [hl']; omega, fun _ => ⟨B, 0, rfl, X3.out.lt, ?_⟩⟩
        have h := range_part X3.out 0 4
        rw [List.drop_zero] at h
        exact h
      have P2 : Hid (BytesIn W3 (.slice (some ⟨B, 4, none⟩) 4 60) ((b.drop 4).take 4)) := by
        have hl' : ((b.drop 4).take 4).length = 4 := by simp [HL.out]
        refine ⟨_, 60, by rw [hl'], by rw [hl']; omega, fun _ => ⟨B, 4, rfl, X3.out.lt, ?_⟩⟩
        have h := range_part X3.out 4 4
        exact h
      go_upto_region 9 with (fail)
      refine region_begin (opsOf Tryd.f18 9) (fun _ => True) (by kernel_rfl) (by kernel_rfl) 7 (by kernel_rfl) ?_
      intro Q' hQN hN
      refine reg_now 0 (.slice (some ⟨B, 0, none⟩) 4 64) (some 27) hQN trivial (by kernel_rfl) (by kernel_rfl) (fun w => by kernel_rfl) ?_
      refine reg_now 2 (.slice (some ⟨B, 4, none⟩) 4 60) (some 29) hQN trivial (by kernel_rfl) (by kernel_rfl) (fun w => by kernel_rfl) ?_
      refine reg_call 1 36 #[.slice (some ⟨B, 0, none⟩) 4 64] (some 28) _ (by kernel_rfl) (by kernel_rfl) (by kernel_rfl) (rlnumber_walk _ 4 64 (b.take 4) _ P1.out (by simp [HL.out]) (bytes_take HB.out 4) (by omega)) ?_
      rintro e w4 ⟨rfl, rfl⟩
      refine ⟨_, rfl, trivial, ?_⟩
      refine reg_call 3 36 #[.slice (some ⟨B, 4, none⟩) 4 60] (some 30) _ (by kernel_rfl) (by kernel_rfl) (by kernel_rfl) (rlnumber_walk _ 4 60 ((b.drop 4).take 4) _ P2.out (by simp [HL.out]) (bytes_take (bytes_drop HB.out 4) 4) (by omega)) ?_
      rintro e w4 ⟨rfl, rfl⟩
      refine ⟨_, rfl, trivial, ?_⟩
      rw [← genP_eq, ← numP_eq]
      refine reg_now 4 (.int .i64 (genP b)) (some 2) hQN trivial (by kernel_rfl) (by kernel_rfl) (fun w => by kernel_rfl) ?_
      refine reg_now 5 (.int .i64 (numP b)) (some 3) hQN trivial (by kernel_rfl) (by kernel_rfl) (fun w => by kernel_rfl) ?_
      refine reg_now 6 (.bool true) (some 4) hQN trivial (by kernel_rfl) (by kernel_rfl) (fun w => by kernel_rfl) ?_
      refine reg_done (by kernel_rfl) (hN _ _ ?_)
      have BE4 : Hid (Below B w W3.drew) := BE3.out.drew
      clear hQN hN P1 P2 X3 BE3 hs3
      generalize W3.drew = W4 at *
      generalize hact : Act.put _ (some 4) _ = act
      simp only [Act.put, List.setIfInBounds_toArray, List.set_cons_succ, List.set_cons_zero] at hact
      subst hact
      go_wp2
      go_ret3
      exact ⟨rfl, BE4.out⟩
set_option maxHeartbeats 2000000 in
theorem rlmark_ends (b : List Int) (hl : b.length = 64) (hb : isBytes b) (hne : b.take 8 ≠ b.drop 56) (w : World) :
    Calls Tryd.prog 18 #[.agg (ints .u8 b).toArray] w fun e w' => e = .returned (.tuple #[.int .i64 0, .int .i64 0, .bool false]) ∧ Below w.heap.size w w' := by
  have HL := Lib.hid hl
  have HB := Lib.hid hb
  obtain ⟨n, hn⟩ : ∃ n : Nat, cntP b = (n : Int) := Int.eq_ofNat_of_zero_le (cntP_range hb hl).1
  have n16 : n < 65536 := by have := (cntP_range hb hl).2; omega
  have HN := Lib.hid hn
  obtain ⟨B, hB⟩ : ∃ B, Hid (w.heap.size = B) := ⟨_, rfl⟩
  rw [hB.out]
  have HE := Lib.hid hne
  clear hne
  clear hl hb hn
  go_enter Tryd.func18, Tryd.ntmps18
  go_upto_region 0 with (fail)
  refine lin_begin (opsOf Tryd.f18 0) (by kernel_rfl) ?_
  refine lin_box 0 37 (.tmp 0) (ints .u8 b) (B) (some 1) (by kernel_rfl) (by kernel_rfl) (by kernel_rfl) (by kernel_rfl) hB ?_
  intro w1 b1 be1 hs1
  refine lin_now 1 (.int .i64 0) (some 2) (by kernel_rfl) (by kernel_rfl) (by kernel_rfl) ?_
  refine lin_now 2 (.int .i64 0) (some 3) (by kernel_rfl) (by kernel_rfl) (by kernel_rfl) ?_
  refine lin_now 3 (.bool false) (some 4) (by kernel_rfl) (by kernel_rfl) (by kernel_rfl) ?_
  refine lin_done 4 (by kernel_rfl) ?_
  have X1 := Lib.hid b1
  have BE1 := Lib.hid be1
  clear b1 be1
  generalize hact : Act.put _ (some 4) _ = act
  simp only [Act.put, List.setIfInBounds_toArray, List.set_cons_succ, List.set_cons_zero] at hact
  subst hact
  have PC : Hid (BytesIn w1 (.slice (some ⟨B, 8, none⟩) 2 56) ((b.drop 8).take 2)) := by
    have hl' : ((b.drop 8).take 2).length = 2 := by simp [HL.out]
    refine ⟨_, 56, by rw [hl'], by rw [hl']; omega, fun _ => ⟨B, 8, rfl, X1.out.lt, ?_⟩⟩
    have h := range_part X1.out 8 2
    exact h
  have PF : Hid (BytesIn w1 (.slice (some ⟨B, 0, none⟩) 8 64) (b.take 8)) := by
    have hl' : (b.take 8).length = 8 := by simp [HL.out]
    refine ⟨_, 64, by rw [hl'], by rw [hl']; omega, fun _ => ⟨B, 0, rfl, X1.out.lt, ?_⟩⟩
    have h := range_part X1.out 0 8
    rw [List.drop_zero] at h
    exact h
  have PL : Hid (BytesIn w1 (.slice (some ⟨B, 56, none⟩) 8 8) (b.drop 56)) := by
    have hl' : (b.drop 56).length = 8 := by simp [HL.out]
    refine ⟨_, 8, by rw [hl'], by rw [hl']; omega, fun _ => ⟨B, 56, rfl, X1.out.lt, ?_⟩⟩
    have h := range_part X1.out 56 8
    rw [List.take_of_length_le (by rw [List.length_drop, HL.out]; omega)] at h
    exact h
  go_upto_region 1 with (fail)
  refine lin_begin (opsOf Tryd.f18 1) (by kernel_rfl) ?_
  refine lin_now 0 (.slice (some ⟨B, 8, none⟩) 2 56) (some 7) (by kernel_rfl) (by kernel_rfl) (by kernel_rfl) ?_
  refine lin_call 1 36 #[.slice (some ⟨B, 8, none⟩) 2 56] (some 8) _ (by kernel_rfl) (by kernel_rfl) (by kernel_rfl) (rlnumber_walk _ 2 56 ((b.drop 8).take 2) _ PC.out (by simp [HL.out]) (bytes_take (bytes_drop HB.out 8) 2) (by omega)) ?_
  rintro e w2 ⟨rfl, rfl⟩
  refine ⟨_, rfl, ?_⟩
  rw [show numB ((b.drop 8).take 2) = (n : Int) from HN.out]
  refine lin_now 2 (.int .i64 (n : Int)) (some 5) (by kernel_rfl) (by kernel_rfl) (by kernel_rfl) ?_
  refine lin_done 3 (by kernel_rfl) ?_
  generalize hact : Act.put _ (some 5) _ = act
  simp only [Act.put, List.setIfInBounds_toArray, List.set_cons_succ, List.set_cons_zero] at hact
  subst hact
  have HCE : Hid (Calls Tryd.prog 13 #[.slice (some ⟨B, 0, none⟩) 8 64, .slice (some ⟨B, 56, none⟩) 8 8] w1.drew fun e w' => e = .returned (.bool false) ∧ ∃ d, w' = w1.drew.drewN d) := by
    have h := sameb_walk _ _ (b.take 8) (b.drop 56) w1.drew PF.out PL.out (by simp [HL.out])
    rw [decide_eq_false HE.out] at h
    exact h
  go_upto_region 2 with (fail)
  refine region_begin (opsOf Tryd.f18 2) (fun _ => True) (by kernel_rfl) (by kernel_rfl) 8 (by kernel_rfl) ?_
  intro Q' hQN hN
  refine reg_now 0 (.slice (some ⟨B, 0, none⟩) 8 64) (some 9) hQN trivial (by kernel_rfl) (by kernel_rfl) (fun w => by kernel_rfl) ?_
  refine reg_now 1 (.slice (some ⟨B, 56, none⟩) 8 8) (some 10) hQN trivial (by kernel_rfl) (by kernel_rfl) (fun w => by kernel_rfl) ?_
  refine reg_call 2 13 #[.slice (some ⟨B, 0, none⟩) 8 64, .slice (some ⟨B, 56, none⟩) 8 8] (some 11) _ (by kernel_rfl) (by kernel_rfl) (by kernel_rfl) (HCE.out) ?_
  rintro e w3 ⟨rfl, d3, rfl⟩
  refine ⟨_, rfl, trivial, ?_⟩
  refine reg_now 3 (.bool true) (some 12) hQN trivial (by kernel_rfl) (by kernel_rfl) (fun w => by kernel_rfl) ?_
  refine reg_now 4 (.bool true) (some 13) hQN trivial (by kernel_rfl) (by kernel_rfl) (fun w => by kernel_rfl) ?_
  refine reg_pass 5 (some 14) hQN trivial (by kernel_rfl) (by kernel_rfl) ?_
  refine reg_pass 6 (some 15) hQN trivial (by kernel_rfl) (by kernel_rfl) ?_
  refine reg_now 7 (.bool true) (some 16) hQN trivial (by kernel_rfl) (by kernel_rfl) (fun w => by kernel_rfl) ?_
  refine reg_done (by kernel_rfl) (hN _ _ ?_)
  have bb3 : Below w1.heap.size w1 (w1.drew.drewN d3) := ((Below.refl _ _).drew).trans (below_drewN w1.drew d3)
  have BE3 : Hid (Below B w (w1.drew.drewN d3)) := BE1.out.trans (bb3.mono (by rw [hs1.out]; omega))
  have X3 : Hid (Blk (w1.drew.drewN d3) B 37 (ints .u8 b)) := X1.out
  have hs3 : Hid (B ≤ (w1.drew.drewN d3).heap.size) := by unfold Hid; have := BE3.out.size; have := hB.out; omega
  clear hQN hN bb3 BE1 X1 hs1 HCE PC PF PL
  generalize w1.drew.drewN d3 = W3 at *
  generalize hact : Act.put _ (some 16) _ = act
  simp only [Act.put, List.setIfInBounds_toArray, List.set_cons_succ, List.set_cons_zero] at hact
  subst hact
  go_wp2
  go_ret3
  exact ⟨rfl, BE3.out⟩
set_option maxHeartbeats 2000000 in
theorem rlmark_cnt (b : List Int) (hl : b.length = 64) (hb : isBytes b) (he : b.take 8 = b.drop 56) (hc : 46 < cntP b) (w : World) :
    Calls Tryd.prog 18 #[.agg (ints .u8 b).toArray] w fun e w' => e = .returned (.tuple #[.int .i64 0, .int .i64 0, .bool false]) ∧ Below w.heap.size w w' := by
  have HL := Lib.hid hl
  have HB := Lib.hid hb
  obtain ⟨n, hn⟩ : ∃ n : Nat, cntP b = (n : Int) := Int.eq_ofNat_of_zero_le (cntP_range hb hl).1
  have n16 : n < 65536 := by have := (cntP_range hb hl).2; omega
  have HN := Lib.hid hn
  obtain ⟨B, hB⟩ : ∃ B, Hid (w.heap.size = B) := ⟨_, rfl⟩
  rw [hB.out]
  have HE := Lib.hid he
  have n46 : 46 < n := by omega
  clear he hc
  clear hl hb hn
  go_enter Tryd.func18, Tryd.ntmps18
  go_upto_region 0 with (fail)
  refine lin_begin (opsOf Tryd.f18 0) (by kernel_rfl) ?_
  refine lin_box 0 37 (.tmp 0) (ints .u8 b) (B) (some 1) (by kernel_rfl) (by kernel_rfl) (by kernel_rfl) (by kernel_rfl) hB ?_
  intro w1 b1 be1 hs1
  refine lin_now 1 (.int .i64 0) (some 2) (by kernel_rfl) (by kernel_rfl) (by kernel_rfl) ?_
  refine lin_now 2 (.int .i64 0) (some 3) (by kernel_rfl) (by kernel_rfl) (by kernel_rfl) ?_
  refine lin_now 3 (.bool false) (some 4) (by kernel_rfl) (by kernel_rfl) (by kernel_rfl) ?_
  refine lin_done 4 (by kernel_rfl) ?_
  have X1 := Lib.hid b1
  have BE1 := Lib.hid be1
  clear b1 be1
  generalize hact : Act.put _ (some 4) _ = act
  simp only [Act.put, List.setIfInBounds_toArray, List.set_cons_succ, List.set_cons_zero] at hact
  subst hact
  have PC : Hid (BytesIn w1 (.slice (some ⟨B, 8, none⟩) 2 56) ((b.drop 8).take 2)) := by
    have hl' : ((b.drop 8).take 2).length = 2 := by simp [HL.out]
    refine ⟨_, 56, by rw [hl'], by rw [hl']; omega, fun _ => ⟨B, 8, rfl, X1.out.lt, ?_⟩⟩
    have h := range_part X1.out 8 2
    exact h
  have PF : Hid (BytesIn w1 (.slice (some ⟨B, 0, none⟩) 8 64) (b.take 8)) := by
    have hl' : (b.take 8).length = 8 := by simp [HL.out]
    refine ⟨_, 64, by rw [hl'], by rw [hl']; omega, fun _ => ⟨B, 0, rfl, X1.out.lt, ?_⟩⟩
    have h := range_part X1.out 0 8
    rw [List.drop_zero] at h
    exact h
  have PL : Hid (BytesIn w1 (.slice (some ⟨B, 56, none⟩) 8 8) (b.drop 56)) := by
    have hl' : (b.drop 56).length = 8 := by simp [HL.out]
    refine ⟨_, 8, by rw [hl'], by rw [hl']; omega, fun _ => ⟨B, 56, rfl, X1.out.lt, ?_⟩⟩
    have h := range_part X1.out 56 8
    rw [List.take_of_length_le (by rw [List.length_drop, HL.out]; omega)] at h
    exact h
  go_upto_region 1 with (fail)
  refine lin_begin (opsOf Tryd.f18 1) (by kernel_rfl) ?_
  refine lin_now 0 (.slice (some ⟨B, 8, none⟩) 2 56) (some 7) (by kernel_rfl) (by kernel_rfl) (by kernel_rfl) ?_
  refine lin_call 1 36 #[.slice (some ⟨B, 8, none⟩) 2 56] (some 8) _ (by kernel_rfl) (by kernel_rfl) (by kernel_rfl) (rlnumber_walk _ 2 56 ((b.drop 8).take 2) _ PC.out (by simp [HL.out]) (bytes_take (bytes_drop HB.out 8) 2) (by omega)) ?_
  rintro e w2 ⟨rfl, rfl⟩
  refine ⟨_, rfl, ?_⟩
  rw [show numB ((b.drop 8).take 2) = (n : Int) from HN.out]
  refine lin_now 2 (.int .i64 (n : Int)) (some 5) (by kernel_rfl) (by kernel_rfl) (by kernel_rfl) ?_
  refine lin_done 3 (by kernel_rfl) ?_
  generalize hact : Act.put _ (some 5) _ = act
  simp only [Act.put, List.setIfInBounds_toArray, List.set_cons_succ, List.set_cons_zero] at hact
  subst hact
  have HCE : Hid (Calls Tryd.prog 13 #[.slice (some ⟨B, 0, none⟩) 8 64, .slice (some ⟨B, 56, none⟩) 8 8] w1.drew fun e w' => e = .returned (.bool true) ∧ ∃ d, w' = w1.drew.drewN d) := by
    have h := sameb_walk _ _ (b.take 8) (b.drop 56) w1.drew PF.out PL.out (by simp [HL.out])
    rw [decide_eq_true HE.out] at h
    exact h
  go_upto_region 2 with (fail)
  refine region_begin (opsOf Tryd.f18 2) (fun _ => True) (by kernel_rfl) (by kernel_rfl) 8 (by kernel_rfl) ?_
  intro Q' hQN hN
  refine reg_now 0 (.slice (some ⟨B, 0, none⟩) 8 64) (some 9) hQN trivial (by kernel_rfl) (by kernel_rfl) (fun w => by kernel_rfl) ?_
  refine reg_now 1 (.slice (some ⟨B, 56, none⟩) 8 8) (some 10) hQN trivial (by kernel_rfl) (by kernel_rfl) (fun w => by kernel_rfl) ?_
  refine reg_call 2 13 #[.slice (some ⟨B, 0, none⟩) 8 64, .slice (some ⟨B, 56, none⟩) 8 8] (some 11) _ (by kernel_rfl) (by kernel_rfl) (by kernel_rfl) (HCE.out) ?_
  rintro e w3 ⟨rfl, d3, rfl⟩
  refine ⟨_, rfl, trivial, ?_⟩
  refine reg_now 3 (.bool false) (some 12) hQN trivial (by kernel_rfl) (by kernel_rfl) (fun w => by kernel_rfl) ?_
  refine reg_now 4 (.bool false) (some 13) hQN trivial (by kernel_rfl) (by kernel_rfl) (fun w => by kernel_rfl) ?_
  refine reg_now 5 (.int .i64 (n : Int)) (some 14) hQN trivial (by kernel_rfl) (by kernel_rfl) (fun w => by kernel_rfl) ?_
  refine reg_now 6 (.bool (decide ((46 : Int) < (n : Int)))) (some 15) hQN trivial (by kernel_rfl) (by kernel_rfl) (fun w => by kernel_rfl) ?_
  rw [show decide ((46 : Int) < (n : Int)) = true from decide_eq_true (by omega)]
  refine reg_now 7 (.bool true) (some 16) hQN trivial (by kernel_rfl) (by kernel_rfl) (fun w => by kernel_rfl) ?_
  refine reg_done (by kernel_rfl) (hN _ _ ?_)
  have bb3 : Below w1.heap.size w1 (w1.drew.drewN d3) := ((Below.refl _ _).drew).trans (below_drewN w1.drew d3)
  have BE3 : Hid (Below B w (w1.drew.drewN d3)) := BE1.out.trans (bb3.mono (by rw [hs1.out]; omega))
  have X3 : Hid (Blk (w1.drew.drewN d3) B 37 (ints .u8 b)) := X1.out
  have hs3 : Hid (B ≤ (w1.drew.drewN d3).heap.size) := by unfold Hid; have := BE3.out.size; have := hB.out; omega
  clear hQN hN bb3 BE1 X1 hs1 HCE PC PF PL
  generalize w1.drew.drewN d3 = W3 at *
  generalize hact : Act.put _ (some 16) _ = act
  simp only [Act.put, List.setIfInBounds_toArray, List.set_cons_succ, List.set_cons_zero] at hact
  subst hact
  go_wp2
  go_ret3
  exact ⟨rfl, BE3.out⟩
set_option maxHeartbeats 2000000 in
theorem rlmark_zero (b : List Int) (hl : b.length = 64) (hb : isBytes b) (he : b.take 8 = b.drop 56) (hc : cntP b ≤ 46) (hz : ¬ ∀ i, 10 + (cntP b).toNat ≤ i → i < 56 → b.getD i 0 = 0) (w : World) :
    Calls Tryd.prog 18 #[.agg (ints .u8 b).toArray] w fun e w' => e = .returned (.tuple #[.int .i64 0, .int .i64 0, .bool false]) ∧ Below w.heap.size w w' := by
  have HL := Lib.hid hl
  have HB := Lib.hid hb
  obtain ⟨n, hn⟩ : ∃ n : Nat, cntP b = (n : Int) := Int.eq_ofNat_of_zero_le (cntP_range hb hl).1
  have n16 : n < 65536 := by have := (cntP_range hb hl).2; omega
  have HN := Lib.hid hn
  obtain ⟨B, hB⟩ : ∃ B, Hid (w.heap.size = B) := ⟨_, rfl⟩
  rw [hB.out]
  have HE := Lib.hid he
  have n46 : n ≤ 46 := by omega
  rw [hn, Int.toNat_natCast] at hz
  have HNZ := Lib.hid hz
  clear he hc hz
  clear hl hb hn
  go_enter Tryd.func18, Tryd.ntmps18
  go_upto_region 0 with (fail)
  refine lin_begin (opsOf Tryd.f18 0) (by kernel_rfl) ?_
  refine lin_box 0 37 (.tmp 0) (ints .u8 b) (B) (some 1) (by kernel_rfl) (by kernel_rfl) (by kernel_rfl) (by kernel_rfl) hB ?_
  intro w1 b1 be1 hs1
  refine lin_now 1 (.int .i64 0) (some 2) (by kernel_rfl) (by kernel_rfl) (by kernel_rfl) ?_
  refine lin_now 2 (.int .i64 0) (some 3) (by kernel_rfl) (by kernel_rfl) (by kernel_rfl) ?_
  refine lin_now 3 (.bool false) (some 4) (by kernel_rfl) (by kernel_rfl) (by kernel_rfl) ?_
  refine lin_done 4 (by kernel_rfl) ?_
  have X1 := Lib.hid b1
  have BE1 := Lib.hid be1
  clear b1 be1
  generalize hact : Act.put _ (some 4) _ = act
  simp only [Act.put, List.setIfInBounds_toArray, List.set_cons_succ, List.set_cons_zero] at hact
  subst hact
  have PC : Hid (BytesIn w1 (.slice (some ⟨B, 8, none⟩) 2 56) ((b.drop 8).take 2)) := by
    have hl' : ((b.drop 8).take 2).length = 2 := by simp [HL.out]
    refine ⟨_, 56, by rw [hl'], by rw [hl']; omega, fun _ => ⟨B, 8, rfl, X1.out.lt, ?_⟩⟩
    have h := range_part X1.out 8 2
    exact h
  have PF : Hid (BytesIn w1 (.slice (some ⟨B, 0, none⟩) 8 64) (b.take 8)) := by
    have hl' : (b.take 8).length = 8 := by simp [HL.out]
    refine ⟨_, 64, by rw [hl'], by rw [hl']; omega, fun _ => ⟨B, 0, rfl, X1.out.lt, ?_⟩⟩
    have h := range_part X1.out 0 8
    rw [List.drop_zero] at h
    exact h
  have PL : Hid (BytesIn w1 (.slice (some ⟨B, 56, none⟩) 8 8) (b.drop 56)) := by
    have hl' : (b.drop 56).length = 8 := by simp [HL.out]
    refine ⟨_, 8, by rw [hl'], by rw [hl']; omega, fun _ => ⟨B, 56, rfl, X1.out.lt, ?_⟩⟩
    have h := range_part X1.out 56 8
    rw [List.take_of_length_le (by rw [List.length_drop, HL.out]; omega)] at h
    exact h
  go_upto_region 1 with (fail)
  refine lin_begin (opsOf Tryd.f18 1) (by kernel_rfl) ?_
  refine lin_now 0 (.slice (some ⟨B, 8, none⟩) 2 56) (some 7) (by kernel_rfl) (by kernel_rfl) (by kernel_rfl) ?_
  refine lin_call 1 36 #[.slice (some ⟨B, 8, none⟩) 2 56] (some 8) _ (by kernel_rfl) (by kernel_rfl) (by kernel_rfl) (rlnumber_walk _ 2 56 ((b.drop 8).take 2) _ PC.out (by simp [HL.out]) (bytes_take (bytes_drop HB.out 8) 2) (by omega)) ?_
  rintro e w2 ⟨rfl, rfl⟩
  refine ⟨_, rfl, ?_⟩
  rw [show numB ((b.drop 8).take 2) = (n : Int) from HN.out]
  refine lin_now 2 (.int .i64 (n : Int)) (some 5) (by kernel_rfl) (by kernel_rfl) (by kernel_rfl) ?_
  refine lin_done 3 (by kernel_rfl) ?_
  generalize hact : Act.put _ (some 5) _ = act
  simp only [Act.put, List.setIfInBounds_toArray, List.set_cons_succ, List.set_cons_zero] at hact
  subst hact
  have HCE : Hid (Calls Tryd.prog 13 #[.slice (some ⟨B, 0, none⟩) 8 64, .slice (some ⟨B, 56, none⟩) 8 8] w1.drew fun e w' => e = .returned (.bool true) ∧ ∃ d, w' = w1.drew.drewN d) := by
    have h := sameb_walk _ _ (b.take 8) (b.drop 56) w1.drew PF.out PL.out (by simp [HL.out])
    rw [decide_eq_true HE.out] at h
    exact h
  go_upto_region 2 with (fail)
  refine region_begin (opsOf Tryd.f18 2) (fun _ => True) (by kernel_rfl) (by kernel_rfl) 8 (by kernel_rfl) ?_
  intro Q' hQN hN
  refine reg_now 0 (.slice (some ⟨B, 0, none⟩) 8 64) (some 9) hQN trivial (by kernel_rfl) (by kernel_rfl) (fun w => by kernel_rfl) ?_
  refine reg_now 1 (.slice (some ⟨B, 56, none⟩) 8 8) (some 10) hQN trivial (by kernel_rfl) (by kernel_rfl) (fun w => by kernel_rfl) ?_
  refine reg_call 2 13 #[.slice (some ⟨B, 0, none⟩) 8 64, .slice (some ⟨B, 56, none⟩) 8 8] (some 11) _ (by kernel_rfl) (by kernel_rfl) (by kernel_rfl) (HCE.out) ?_
  rintro e w3 ⟨rfl, d3, rfl⟩
  refine ⟨_, rfl, trivial, ?_⟩
  refine reg_now 3 (.bool false) (some 12) hQN trivial (by kernel_rfl) (by kernel_rfl) (fun w => by kernel_rfl) ?_
  refine reg_now 4 (.bool false) (some 13) hQN trivial (by kernel_rfl) (by kernel_rfl) (fun w => by kernel_rfl) ?_
  refine reg_now 5 (.int .i64 (n : Int)) (some 14) hQN trivial (by kernel_rfl) (by kernel_rfl) (fun w => by kernel_rfl) ?_
  refine reg_now 6 (.bool (decide ((46 : Int) < (n : Int)))) (some 15) hQN trivial (by kernel_rfl) (by kernel_rfl) (fun w => by kernel_rfl) ?_
  rw [show decide ((46 : Int) < (n : Int)) = false from decide_eq_false (by omega)]
  refine reg_now 7 (.bool false) (some 16) hQN trivial (by kernel_rfl) (by kernel_rfl) (fun w => by kernel_rfl) ?_
  refine reg_done (by kernel_rfl) (hN _ _ ?_)
  have bb3 : Below w1.heap.size w1 (w1.drew.drewN d3) := ((Below.refl _ _).drew).trans (below_drewN w1.drew d3)
  have BE3 : Hid (Below B w (w1.drew.drewN d3)) := BE1.out.trans (bb3.mono (by rw [hs1.out]; omega))
  have X3 : Hid (Blk (w1.drew.drewN d3) B 37 (ints .u8 b)) := X1.out
  have hs3 : Hid (B ≤ (w1.drew.drewN d3).heap.size) := by unfold Hid; have := BE3.out.size; have := hB.out; omega
  clear hQN hN bb3 BE1 X1 hs1 HCE PC PF PL
  generalize w1.drew.drewN d3 = W3 at *
  generalize hact : Act.put _ (some 16) _ = act
  simp only [Act.put, List.setIfInBounds_toArray, List.set_cons_succ, List.set_cons_zero] at hact
  subst hact
  go_wp2
  go_loop [6] (fun iv => ∃ i : Nat, 10 + n ≤ i ∧ i ≤ 56 ∧ iv = .int .i64 (i : Int) ∧ Hid (∀ j, 10 + n ≤ j → j < i → b.getD j 0 = 0)) (fun iv => 56 - (intOf iv).toNat)
  case atStart => exact ⟨10 + n, by omega, by omega, by go_num, fun j h1 h2 => absurd h1 (by omega)⟩
  case round =>
    obtain ⟨i, hi0, hi, rfl, hall⟩ := hrel
    have hx : b[i]? = some (b.getD i 0) ∨ 64 ≤ i := by
      by_cases h : i < 64
      · exact .inl (by rw [List.getD_eq_getElem?_getD, List.getElem?_eq_getElem (by rw [HL.out]; exact h)]; rfl)
      · exact .inr (by omega)
    by_cases hlt : i < 56
    · have r1 : (i : Int) < 56 := by omega
      have r0 : (0 : Int) ≤ (i : Int) := by omega
      have r2 : (i : Int) < 64 := by omega
      have hx1 : b[i]? = some (b.getD i 0) := by rcases hx with h | h; exact h; omega
      have c0 := X3.out.cell (ints_get (k := .u8) hx1)
      clear hx hx1
      by_cases z0 : b.getD i 0 = 0
      · rw [z0] at c0
        have HA : Hid (∀ j, 10 + n ≤ j → j < i + 1 → b.getD j 0 = 0) := fun j h1 h2 => by
          by_cases e : j = i
          · subst e; exact z0
          · exact hall.out j h1 (by omega)
        clear z0
        go_wp2
        exact ⟨⟨i + 1, by omega, by omega, by go_num, HA⟩, by simp [intOf]; omega⟩
      · have z1 : (b.getD i 0 != 0) = true := by simpa using z0
        clear z0
        generalize b.getD i 0 = y at *
        go_wp2
        go_ret3
        exact ⟨rfl, BE3.out⟩
    · exact absurd (fun j h1 h2 => hall.out j h1 (by omega)) HNZ.out
theorem rlmark_no (b : List Int) (hl : b.length = 64) (hb : isBytes b) (hw : ¬ wholeP b) (w : World) :
    Calls Tryd.prog 18 #[.agg (ints .u8 b).toArray] w fun e w' => e = .returned (.tuple #[.int .i64 0, .int .i64 0, .bool false]) ∧ Below w.heap.size w w' := by
  by_cases h1 : b.take 8 = b.drop 56
  · by_cases h2 : cntP b ≤ 46
    · exact rlmark_zero b hl hb h1 h2 (fun h3 => hw ((whole_iff hl hb).2 ⟨h1, h2, h3⟩)) w
    · exact rlmark_cnt b hl hb h1 (by omega) w
  · exact rlmark_ends b hl hb h1 w
theorem data_any (b : List Int) (hl : b.length = 64) (hb : isBytes b) (w : World) : Calls Tryd.prog 20 #[.agg (ints .u8 b).toArray] w (DataPost (dataQ b) w) := by
  unfold dataQ
  by_cases hw : wholeP b
  · rw [if_pos hw]; exact data_yes b hl hb hw w
  · rw [if_neg hw]
    refine (data_no b hl hb hw w).mono ?_
    rintro e w' ⟨rfl, hb'⟩
    exact ⟨_, rfl, bytes_nil _, ⟨rfl, rfl⟩, hb'⟩
set_option maxHeartbeats 2000000 in
theorem rldata_yes (b : List Int) (hl : b.length = 64) (hb : isBytes b) (hw : wholeP b) (w : World) : Calls Tryd.prog 21 #[.agg (ints .u8 b).toArray] w (DataPost (dataP b) w) := by
  have HL := Lib.hid hl
  have HB := Lib.hid hb
  have IB : Hid ((Tryd.prog.info? 37).map (·.size) = some (ints .u8 b).length) := infoBlk b hl
  obtain ⟨n, hn⟩ : ∃ n : Nat, cntP b = (n : Int) := Int.eq_ofNat_of_zero_le (cntP_range hb hl).1
  have HN := Lib.hid hn
  have HC := Lib.hid (fun w => rlmark_yes b hl hb hw w)
  obtain ⟨B, hB⟩ : ∃ B, Hid (w.heap.size = B) := ⟨_, rfl⟩
  unfold DataPost
  rw [hB.out]
  have n46 : n ≤ 46 := by have := hw.1; omega
  unfold dataP
  rw [hn, Int.toNat_natCast]
  obtain ⟨zs, hzs⟩ : ∃ zs, Hid ((b.drop 10).take n = zs) := ⟨_, rfl⟩
  have ZL : Hid (zs.length = n) := by unfold Hid; rw [← hzs.out, List.length_take, List.length_drop, HL.out]; omega
  rw [hzs.out]
  clear hl hb hn hw
  go_enter Tryd.func21, Tryd.ntmps21
  go_upto_region 0 with (fail)
  refine lin_begin (opsOf Tryd.f21 0) (by kernel_rfl) ?_
  refine lin_box 0 37 (.tmp 0) (ints .u8 b) (B) (some 1) (by kernel_rfl) (by kernel_rfl) (by kernel_rfl) (by kernel_rfl) hB ?_
  intro w1 b1 be1 hs1
  refine lin_now 1 (.slice none 0 0) (some 2) (by kernel_rfl) (by kernel_rfl) (by kernel_rfl) ?_
  refine lin_done 2 (by kernel_rfl) ?_
  have X1 := Lib.hid b1
  have BE1 := Lib.hid be1
  clear b1 be1
  generalize hact : Act.put _ (some 2) _ = act
  simp only [Act.put, List.setIfInBounds_toArray, List.set_cons_succ, List.set_cons_zero] at hact
  subst hact
  go_upto_region 1 with (fail)
  refine lin_begin (opsOf Tryd.f21 1) (by kernel_rfl) ?_
  refine lin_load 0 37 (.tmp 1) (B) _ (ints .u8 b) (some 7) (by kernel_rfl) (by kernel_rfl) (by kernel_rfl) (by kernel_rfl) X1.out _ Tryd.underlying37 rfl IB.out ?_
  refine lin_call 1 18 #[.agg (ints .u8 b).toArray] (some 8) _ (by kernel_rfl) (by kernel_rfl) (by kernel_rfl) (HC.out _) ?_
  rintro e w2 ⟨rfl, hb2⟩
  refine ⟨_, rfl, ?_⟩
  refine lin_now 2 (.tuple #[.int .i64 (genP b), .int .i64 (numP b), .bool true]) (some 6) (by kernel_rfl) (by kernel_rfl) (by kernel_rfl) ?_
  refine lin_now 3 (.int .i64 (genP b)) (some 9) (by kernel_rfl) (by kernel_rfl) (by kernel_rfl) ?_
  refine lin_now 4 (.int .i64 (numP b)) (some 10) (by kernel_rfl) (by kernel_rfl) (by kernel_rfl) ?_
  refine lin_now 5 (.bool true) (some 11) (by kernel_rfl) (by kernel_rfl) (by kernel_rfl) ?_
  refine lin_now 6 (.int .i64 (genP b)) (some 3) (by kernel_rfl) (by kernel_rfl) (by kernel_rfl) ?_
  refine lin_now 7 (.int .i64 (numP b)) (some 4) (by kernel_rfl) (by kernel_rfl) (by kernel_rfl) ?_
  refine lin_now 8 (.bool true) (some 5) (by kernel_rfl) (by kernel_rfl) (by kernel_rfl) ?_
  refine lin_done 9 (by kernel_rfl) ?_
  have X2 := Lib.hid (X1.out.below hb2 X1.out.lt)
  have BE2 : Hid (Below B w w2) := BE1.out.trans (hb2.mono (by rw [hs1.out]; omega))
  have S2 : Hid (B ≤ w2.heap.size) := by unfold Hid; have := BE2.out.size; have := hB.out; omega
  clear hb2 X1 BE1 hs1 HC
  generalize hact : Act.put _ (some 5) _ = act
  simp only [Act.put, List.setIfInBounds_toArray, List.set_cons_succ, List.set_cons_zero] at hact
  subst hact
  have PC : Hid (BytesIn w2 (.slice (some ⟨B, 8, none⟩) 2 56) ((b.drop 8).take 2)) := by
    have hl' : ((b.drop 8).take 2).length = 2 := by simp [HL.out]
    refine ⟨_, 56, by rw [hl'], by rw [hl']; omega, fun _ => ⟨B, 8, rfl, X2.out.lt, ?_⟩⟩
    have h := range_part X2.out 8 2
    exact h
  have PD : Hid (BytesIn w2 (.slice (some ⟨B, 10, none⟩) n 54) zs) := ⟨_, 54, by rw [ZL.out], by rw [ZL.out]; omega, fun _ => ⟨B, 10, rfl, X2.out.lt, by have h := range_part X2.out 10 n; rw [hzs.out] at h; exact h⟩⟩
  go_upto_region 4 with (fail)
  refine lin_begin (opsOf Tryd.f21 4) (by kernel_rfl) ?_
  refine lin_now 0 (.slice (some ⟨B, 8, none⟩) 2 56) (some 14) (by kernel_rfl) (by kernel_rfl) (by kernel_rfl) ?_
  refine lin_call 1 36 #[.slice (some ⟨B, 8, none⟩) 2 56] (some 15) _ (by kernel_rfl) (by kernel_rfl) (by kernel_rfl) (rlnumber_walk _ 2 56 ((b.drop 8).take 2) _ PC.out (by simp [HL.out]) (bytes_take (bytes_drop HB.out 8) 2) (by omega)) ?_
  rintro e w3 ⟨rfl, rfl⟩
  refine ⟨_, rfl, ?_⟩
  rw [show numB ((b.drop 8).take 2) = (n : Int) from HN.out]
  refine lin_now 2 (.int .i64 (IntKind.i64.wrap (10 + (n : Int)))) (some 16) (by kernel_rfl) (by kernel_rfl) (by kernel_rfl) ?_
  rw [show IntKind.i64.wrap (10 + (n : Int)) = ((10 + n : Nat) : Int) from (IntWalk.i64_in _ (by omega)).trans (by omega)]
  refine lin_now 3 (.slice (some ⟨B, 10, none⟩) (10 + n - 10) 54) (some 17) (by kernel_rfl) (by kernel_rfl) (exec_of (Instr.sliceAt 37 (.pointer (some ⟨B, 0, none⟩)) (some (.int .i64 ((10 : Nat) : Int))) (some (.int .i64 ((10 + n : Nat) : Int))) none) _ (by kernel_rfl) (run_arr_mid B 10 (10 + n) (by omega) (by omega) (by omega) w2)) ?_
  rw [show 10 + n - 10 = n by omega]
  refine lin_call 4 9 #[.slice (some ⟨B, 10, none⟩) n 54] (some 18) _ (by kernel_rfl) (by kernel_rfl) (by kernel_rfl) (copyb_walk _ zs _ PD.out trivial (by rw [ZL.out]; omega)) ?_
  rintro e w4 ⟨v4, rfl, ho4, hb4⟩
  refine ⟨_, rfl, ?_⟩
  refine lin_now 5 (v4) (some 2) (by kernel_rfl) (by kernel_rfl) (by kernel_rfl) ?_
  refine lin_done 6 (by kernel_rfl) ?_
  have BE4 : Hid (Below B w w4) := BE2.out.trans (hb4.mono S2.out)
  have V4 := Lib.hid (owns_bytes ho4)
  have N4 := Lib.hid (owns_nilok ho4)
  clear ho4 hb4 BE2 X2 S2 PC PD
  generalize hact : Act.put _ (some 2) _ = act
  simp only [Act.put, List.setIfInBounds_toArray, List.set_cons_succ, List.set_cons_zero] at hact
  subst hact
  go_wp2
  go_ret
  exact ⟨v4, rfl, V4.out, N4.out, BE4.out⟩
set_option maxHeartbeats 2000000 in
theorem rldata_no (b : List Int) (hl : b.length = 64) (hb : isBytes b) (hw : ¬ wholeP b) (w : World) : Calls Tryd.prog 21 #[.agg (ints .u8 b).toArray] w (DataPost [] w) := by
  have HL := Lib.hid hl
  have HB := Lib.hid hb
  have IB : Hid ((Tryd.prog.info? 37).map (·.size) = some (ints .u8 b).length) := infoBlk b hl
  obtain ⟨n, hn⟩ : ∃ n : Nat, cntP b = (n : Int) := Int.eq_ofNat_of_zero_le (cntP_range hb hl).1
  have HN := Lib.hid hn
  have HC := Lib.hid (fun w => rlmark_no b hl hb hw w)
  obtain ⟨B, hB⟩ : ∃ B, Hid (w.heap.size = B) := ⟨_, rfl⟩
  unfold DataPost
  rw [hB.out]
  clear hl hb hn hw
  go_enter Tryd.func21, Tryd.ntmps21
  go_upto_region 0 with (fail)
  refine lin_begin (opsOf Tryd.f21 0) (by kernel_rfl) ?_
  refine lin_box 0 37 (.tmp 0) (ints .u8 b) (B) (some 1) (by kernel_rfl) (by kernel_rfl) (by kernel_rfl) (by kernel_rfl) hB ?_
  intro w1 b1 be1 hs1
  refine lin_now 1 (.slice none 0 0) (some 2) (by kernel_rfl) (by kernel_rfl) (by kernel_rfl) ?_
  refine lin_done 2 (by kernel_rfl) ?_
  have X1 := Lib.hid b1
  have BE1 := Lib.hid be1
  clear b1 be1
  generalize hact : Act.put _ (some 2) _ = act
  simp only [Act.put, List.setIfInBounds_toArray, List.set_cons_succ, List.set_cons_zero] at hact
  subst hact
  go_upto_region 1 with (fail)
  refine lin_begin (opsOf Tryd.f21 1) (by kernel_rfl) ?_
  refine lin_load 0 37 (.tmp 1) (B) _ (ints .u8 b) (some 7) (by kernel_rfl) (by kernel_rfl) (by kernel_rfl) (by kernel_rfl) X1.out _ Tryd.underlying37 rfl IB.out ?_
  refine lin_call 1 18 #[.agg (ints .u8 b).toArray] (some 8) _ (by kernel_rfl) (by kernel_rfl) (by kernel_rfl) (HC.out _) ?_
  rintro e w2 ⟨rfl, hb2⟩
  refine ⟨_, rfl, ?_⟩
  refine lin_now 2 (.tuple #[.int .i64 0, .int .i64 0, .bool false]) (some 6) (by kernel_rfl) (by kernel_rfl) (by kernel_rfl) ?_
  refine lin_now 3 (.int .i64 0) (some 9) (by kernel_rfl) (by kernel_rfl) (by kernel_rfl) ?_
  refine lin_now 4 (.int .i64 0) (some 10) (by kernel_rfl) (by kernel_rfl) (by kernel_rfl) ?_
  refine lin_now 5 (.bool false) (some 11) (by kernel_rfl) (by kernel_rfl) (by kernel_rfl) ?_
  refine lin_now 6 (.int .i64 0) (some 3) (by kernel_rfl) (by kernel_rfl) (by kernel_rfl) ?_
  refine lin_now 7 (.int .i64 0) (some 4) (by kernel_rfl) (by kernel_rfl) (by kernel_rfl) ?_
  refine lin_now 8 (.bool false) (some 5) (by kernel_rfl) (by kernel_rfl) (by kernel_rfl) ?_
  refine lin_done 9 (by kernel_rfl) ?_
  have X2 := Lib.hid (X1.out.below hb2 X1.out.lt)
  have BE2 : Hid (Below B w w2) := BE1.out.trans (hb2.mono (by rw [hs1.out]; omega))
  have S2 : Hid (B ≤ w2.heap.size) := by unfold Hid; have := BE2.out.size; have := hB.out; omega
  clear hb2 X1 BE1 hs1 HC
  generalize hact : Act.put _ (some 5) _ = act
  simp only [Act.put, List.setIfInBounds_toArray, List.set_cons_succ, List.set_cons_zero] at hact
  subst hact
  go_wp2
  go_ret
  exact ⟨_, rfl, bytes_nil _, ⟨rfl, rfl⟩, BE2.out⟩
theorem rldata_any (b : List Int) (hl : b.length = 64) (hb : isBytes b) (w : World) : Calls Tryd.prog 21 #[.agg (ints .u8 b).toArray] w (DataPost (dataQ b) w) := by
  unfold dataQ
  by_cases hw : wholeP b
  · rw [if_pos hw]; exact rldata_yes b hl hb hw w
  · rw [if_neg hw]; exact rldata_no b hl hb hw w
theorem mx_assoc (a b c : Int) : mx a (mx b c) = mx (mx a b) c := by
  unfold mx
  repeat' split
  all_goals omega
theorem run_arr_at (q o l h : Nat) (h64 : l < 64) (hl : l ≤ h) (hh : h ≤ 64) (w : World) : (Instr.sliceAt 37 (.pointer (some ⟨q, o, none⟩)) (some (.int .i64 (l : Int))) (some (.int .i64 (h : Int))) none).run Tryd.prog w = .ok (.slice (some ⟨q, o + l, none⟩) (h - l) (64 - l)) w := by
  have hz : (sizeOf (Tryd.prog.elem 37)).run Tryd.prog w = .ok 1 w := by kernel_rfl
  have hA : Tryd.prog.arrayLen 37 = 64 := by kernel_rfl
  have ht : Tryd.prog.underlying 37 = some (.array (Tryd.prog.arrayLen 37) (Tryd.prog.elem 37)) := by kernel_rfl
  rw [run_sliceAt_array_lh w 37 _ ht .i64 .i64 (l : Int) (h : Int) (by omega) (by omega) (by rw [hA]; omega), hz, hA]
  simp only [Result.andThen_ok, slicedAt]
  rw [if_neg (by omega), Addr.add_mid]
  simp
set_option maxHeartbeats 2000000 in
theorem rlhighest_walk (v : Value) (n : Nat) (l : List Int) (w : World) (h : BlksIn w v n l) (hby : isBytes l) (hn : n ≤ 1000000000) :
    Calls Tryd.prog 24 #[v] w fun e w' => e = .returned (.int .i64 (highK l n)) ∧ ∃ d, w' = w.drewN d := by
  obtain ⟨a, c, rfl, hc, hl, hp⟩ := h
  have HL := Lib.hid hl
  have HP := Lib.hid hp
  have HBY := Lib.hid hby
  clear hl hp hby
  go_enter Tryd.func24, Tryd.ntmps24
  go_wp2
  go_loopw [3, 4] (fun hv iv wr => ∃ (i d : Nat), i ≤ n ∧ iv = .int .i64 (i : Int) ∧ hv = .int .i64 (highK l i) ∧ Hid (wr = w.drewN d)) (fun _ iv _ => n - (intOf iv).toNat)
  case atStart => exact ⟨0, 0, Nat.zero_le _, rfl, rfl, rfl⟩
  case round =>
    obtain ⟨i, d, hi, rfl, rfl, hwr⟩ := hrel
    obtain rfl := hwr.out
    by_cases hlt : i < n
    · have r1 : (i : Int) < (n : Int) := by omega
      obtain ⟨pb, po, rfl, hb, hr⟩ := HP.out (by omega)
      obtain ⟨x, hx⟩ : ∃ x, Hid (getB l i = x) := ⟨_, rfl⟩
      have GX : Hid (x.length = 64) := by unfold Hid; rw [← hx.out]; exact getB_length HL.out hlt
      have BX : Hid (isBytes x) := by unfold Hid; rw [← hx.out]; exact bytes_take (bytes_drop HBY.out _) _
      have RX : Hid (w.rangeAt pb (po + 64 * i) (ints .u8 x)) := by unfold Hid; rw [← hx.out]; exact getB_sub hr
      have HPB := Lib.hid hb
      obtain ⟨hk, hhk⟩ : ∃ h, Hid (highK l i = h) := ⟨_, rfl⟩
      rw [hhk.out]
      have P1 : Hid (∀ d, BytesIn (w.drewN d) (.slice (some ⟨pb, po + 64 * i, none⟩) 4 64) (x.take 4)) := fun d => by
        have hl' : (x.take 4).length = 4 := by simp [GX.out]
        refine ⟨_, 64, by rw [hl'], by rw [hl']; omega, fun _ => ⟨pb, po + 64 * i, rfl, HPB.out, ?_⟩⟩
        have h := range_cut RX.out 0 4
        rw [List.drop_zero, Nat.add_zero] at h
        exact h
      have P2 : Hid (∀ d, BytesIn (w.drewN d) (.slice (some ⟨pb, po + 64 * i + 56, none⟩) 4 8) ((x.drop 56).take 4)) := fun d => by
        have hl' : ((x.drop 56).take 4).length = 4 := by simp [GX.out]
        refine ⟨_, 8, by rw [hl'], by rw [hl']; omega, fun _ => ⟨pb, po + 64 * i + 56, rfl, HPB.out, ?_⟩⟩
        exact range_cut RX.out 56 4
      clear hb hr
      go_upto_region 5 with (fail)
      refine region_begin (opsOf Tryd.f24 5) (fun _ => True) (by kernel_rfl) (by kernel_rfl) 14 (by kernel_rfl) ?_
      intro Q' hQN hN
      refine reg_now 0 (.int .i64 hk) (some 11) hQN trivial (by kernel_rfl) (by kernel_rfl) (fun w => by kernel_rfl) ?_
      refine reg_now 1 (.slice (some ⟨pb, po, none⟩) n c) (some 12) hQN trivial (by kernel_rfl) (by kernel_rfl) (fun w => by kernel_rfl) ?_
      refine reg_now 2 (.int .i64 (i : Int)) (some 13) hQN trivial (by kernel_rfl) (by kernel_rfl) (fun w => by kernel_rfl) ?_
      refine reg_now 3 (.pointer (some ⟨pb, po + 64 * i, none⟩)) (some 14) hQN trivial (by kernel_rfl) (by kernel_rfl) (fun w' => exec_indexAt 23 (.tmp 12) (.tmp 13) (by kernel_rfl) _ _ _ (by kernel_rfl) (by kernel_rfl) (run_at_block pb po n c i hlt w')) ?_
      refine reg_now 4 (.slice (some ⟨pb, po + 64 * i, none⟩) 4 64) (some 15) hQN trivial (by kernel_rfl) (by kernel_rfl) (fun w => by kernel_rfl) ?_
      refine reg_now 6 (.slice (some ⟨pb, po, none⟩) n c) (some 17) hQN trivial (by kernel_rfl) (by kernel_rfl) (fun w => by kernel_rfl) ?_
      refine reg_now 7 (.int .i64 (i : Int)) (some 18) hQN trivial (by kernel_rfl) (by kernel_rfl) (fun w => by kernel_rfl) ?_
      refine reg_now 8 (.pointer (some ⟨pb, po + 64 * i, none⟩)) (some 19) hQN trivial (by kernel_rfl) (by kernel_rfl) (fun w' => exec_indexAt 23 (.tmp 17) (.tmp 18) (by kernel_rfl) _ _ _ (by kernel_rfl) (by kernel_rfl) (run_at_block pb po n c i hlt w')) ?_
      refine reg_now 9 (.slice (some ⟨pb, po + 64 * i + 56, none⟩) 4 8) (some 20) hQN trivial (by kernel_rfl) (by kernel_rfl) (fun w => by kernel_rfl) ?_
      refine reg_call 5 36 #[.slice (some ⟨pb, po + 64 * i, none⟩) 4 64] (some 16) _ (by kernel_rfl) (by kernel_rfl) (by kernel_rfl) (rlnumber_walk _ 4 64 (x.take 4) _ (P1.out (d + 1)) (by simp [GX.out]) (bytes_take BX.out 4) (by omega)) ?_
      rintro e w4 ⟨rfl, rfl⟩
      refine ⟨_, rfl, trivial, ?_⟩
      refine reg_call 10 36 #[.slice (some ⟨pb, po + 64 * i + 56, none⟩) 4 8] (some 21) _ (by kernel_rfl) (by kernel_rfl) (by kernel_rfl) (rlnumber_walk _ 4 8 ((x.drop 56).take 4) _ (P2.out (d + 1)) (by simp [GX.out]) (bytes_take (bytes_drop BX.out 56) 4) (by omega)) ?_
      rintro e w4 ⟨rfl, rfl⟩
      refine ⟨_, rfl, trivial, ?_⟩
      rw [← genP_eq, show numB ((x.drop 56).take 4) = endP x from rfl]
      generalize hgx : genP x = gx
      generalize hex : endP x = ex
      refine reg_now 11 (.int .i64 (mx gx ex)) (some 22) hQN trivial (by kernel_rfl) (by kernel_rfl) (fun w => by kernel_rfl) ?_
      refine reg_now 12 (.int .i64 (mx hk (mx gx ex))) (some 23) hQN trivial (by kernel_rfl) (by kernel_rfl) (fun w => by kernel_rfl) ?_
      refine reg_now 13 (.int .i64 (mx hk (mx gx ex))) (some 3) hQN trivial (by kernel_rfl) (by kernel_rfl) (fun w => by kernel_rfl) ?_
      refine reg_done (by kernel_rfl) (hN _ _ ?_)
      have HNX : Hid (highK l (i + 1) = mx hk (mx gx ex)) := by unfold Hid; rw [highK, hx.out, hhk.out, hgx, hex, mx_assoc]
      have HD : Hid ((w.drewN d).drew = w.drewN (d + 1)) := rfl
      clear hQN hN P1 P2 hgx hex
      generalize (w.drewN d).drew = W2 at *
      generalize hact : Act.put _ (some 3) _ = act
      simp only [Act.put, List.setIfInBounds_toArray, List.set_cons_succ, List.set_cons_zero] at hact
      subst hact
      go_wp2
      exact ⟨⟨i + 1, d + 1, by omega, by go_num, by rw [HNX.out], HD⟩, by simp [intOf]; omega⟩
    · have r1 : ¬ (i : Int) < (n : Int) := by omega
      obtain rfl : i = n := by omega
      go_wp2
      go_ret
      exact ⟨rfl, d, rfl⟩
end Go.Proofs.YtaeghgnhpgkcdaaDoor
