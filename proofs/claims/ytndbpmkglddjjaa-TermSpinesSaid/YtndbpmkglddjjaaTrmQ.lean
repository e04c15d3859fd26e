/- The small functions of stage 8's laws: SameTexts, Num, Param, variable, constant, Great, same. -/
import Derived.Test.YtndbpmkglddjjaaTrmY
import Derived.Test.YtndbpmkglddjjaaTrmZ
namespace Go.Proofs.Ytndbpmkglddjjaa
open Go Go.RowKit
set_option maxRecDepth 100000

theorem elemStrs : Try.prog.underlying 44 = some (.slice (Try.prog.elem 44)) := by kernel_rfl
theorem run_at_str (B off n cap m : Nat) (hm : m < n) (w : World) : (Instr.indexAt 44 (.slice (some ⟨B, off, none⟩) n cap) (.int .i64 (m : Int))).run Try.prog w = .ok (.pointer (some ⟨B, off + m, none⟩)) w := by
  rw [run_indexAt_slice w 44 _ _ _ _ _ elemStrs]
  have hz : (sizeOf (Try.prog.elem 44)).run Try.prog w = .ok 1 w := by kernel_rfl
  rw [if_pos (by omega), hz, Result.andThen_ok, Addr.add_mid, Int.toNat_natCast, Nat.mul_one]
/-- A slice of strings. -/
def StrsAt (w : World) (v : Value) (l : List (List UInt8)) : Prop := ∃ b o c, v = .slice (some ⟨b, o, none⟩) l.length c ∧ w.rangeAt b o (l.map strT)
theorem StrsAt.cell {w : World} {b o : Nat} {l : List (List UInt8)} (h : w.rangeAt b o (l.map strT)) {i : Nat} {s : List UInt8} (hi : l[i]? = some s) : w.cell? ⟨b, o + i, none⟩ = some (strT s) := h i _ (by rw [List.getElem?_map, hi]; rfl)

set_option maxHeartbeats 4000000 in
theorem sametexts_walk (a b : List (List UInt8)) (u v : Value) (w : World) (h1 : StrsAt w u a) (h2 : StrsAt w v b) (sa : a.length ≤ 140737488351232) : Calls Try.prog 37 #[u, v] w fun e w' => e = .returned (.bool (decide (a = b))) ∧ Below w.heap.size w w' := by
  obtain ⟨pb, po, ac, rfl, h1⟩ := h1
  obtain ⟨pb2, po2, bc, rfl, h2⟩ := h2
  obtain ⟨N, hAN⟩ : ∃ N, Hid (a.length = N) := ⟨_, rfl⟩
  obtain ⟨M, hBM⟩ : ∃ M, Hid (b.length = M) := ⟨_, rfl⟩
  rw [hAN.out] at sa ⊢
  rw [hBM.out] at ⊢
  have H1 := Lib.hid h1
  have H2 := Lib.hid h2
  clear h1 h2
  go_enter Try.func37, Try.ntmps37
  by_cases hNM : (N : Int) = (M : Int)
  rotate_left
  · have r0 : (!decide ((N : Int) = (M : Int))) = true := by rw [decide_eq_false hNM]; rfl
    go_upto_region 1 with (fail)
    refine lin_begin (opsOf Try.f37 1) (by kernel_rfl) ?_
    refine lin_now 0 (.slice (some ⟨pb, po, none⟩) N ac) (some 6) (by kernel_rfl) (by kernel_rfl) (by kernel_rfl) ?_
    refine lin_now 1 (.int .i64 (N : Int)) (some 7) (by kernel_rfl) (by kernel_rfl) (by kernel_rfl) ?_
    refine lin_now 2 (.slice (some ⟨pb2, po2, none⟩) M bc) (some 8) (by kernel_rfl) (by kernel_rfl) (by kernel_rfl) ?_
    refine lin_now 3 (.int .i64 (M : Int)) (some 9) (by kernel_rfl) (by kernel_rfl) (by kernel_rfl) ?_
    refine lin_now 4 (.bool (!decide ((N : Int) = (M : Int)))) (some 10) (by kernel_rfl) (by kernel_rfl) (by kernel_rfl) ?_
    rw [r0]
    refine lin_done 5 (by kernel_rfl) ?_
    generalize hact : Act.put _ (some 10) _ = act
    simp only [Act.put, List.setIfInBounds_toArray, List.set_cons_succ, List.set_cons_zero] at hact
    subst hact
    go_wp2
    go_ret
    exact ⟨by rw [decide_eq_false (fun h => hNM (by have h1 := hAN.out; have h2 := hBM.out; rw [h] at h1; omega))]; rfl, Below.refl _ _⟩
  have r0 : (!decide ((N : Int) = (M : Int))) = false := by rw [decide_eq_true hNM]; rfl
  go_upto_region 1 with (fail)
  refine lin_begin (opsOf Try.f37 1) (by kernel_rfl) ?_
  refine lin_now 0 (.slice (some ⟨pb, po, none⟩) N ac) (some 6) (by kernel_rfl) (by kernel_rfl) (by kernel_rfl) ?_
  refine lin_now 1 (.int .i64 (N : Int)) (some 7) (by kernel_rfl) (by kernel_rfl) (by kernel_rfl) ?_
  refine lin_now 2 (.slice (some ⟨pb2, po2, none⟩) M bc) (some 8) (by kernel_rfl) (by kernel_rfl) (by kernel_rfl) ?_
  refine lin_now 3 (.int .i64 (M : Int)) (some 9) (by kernel_rfl) (by kernel_rfl) (by kernel_rfl) ?_
  refine lin_now 4 (.bool (!decide ((N : Int) = (M : Int)))) (some 10) (by kernel_rfl) (by kernel_rfl) (by kernel_rfl) ?_
  rw [r0]
  refine lin_done 5 (by kernel_rfl) ?_
  generalize hact : Act.put _ (some 10) _ = act
  simp only [Act.put, List.setIfInBounds_toArray, List.set_cons_succ, List.set_cons_zero] at hact
  subst hact
  obtain rfl : N = M := by omega
  go_upto_region 3 with (fail)
  refine lin_begin (opsOf Try.f37 3) (by kernel_rfl) ?_
  refine lin_now 0 (.int .i64 0) (some 5) (by kernel_rfl) (by kernel_rfl) (by kernel_rfl) ?_
  refine lin_done 1 (by kernel_rfl) ?_
  generalize hact : Act.put _ (some 5) _ = act
  simp only [Act.put, List.setIfInBounds_toArray, List.set_cons_succ, List.set_cons_zero] at hact
  subst hact
  go_wp2
  go_loopw [5] (fun iv wr => ∃ i : Nat, i ≤ N ∧ iv = .int .i64 (i : Int) ∧ Hid (a.take i = b.take i) ∧ Hid (Below w.heap.size w wr)) (fun iv _ => N - (intOf iv).toNat)
  case atStart => exact ⟨0, Nat.zero_le _, rfl, by rw [Hid]; simp, Below.refl _ _⟩
  case round =>
    obtain ⟨i, hi, rfl, EQ, BE⟩ := hrel
    by_cases hlt : i < N
    rotate_left
    · have r1 : ¬ (i : Int) < (N : Int) := by omega
      have FIN : Hid (decide (a = b) = true) := by
        have h := EQ.out
        rw [List.take_of_length_le (by have := hAN.out; omega), List.take_of_length_le (by have := hBM.out; omega)] at h
        exact decide_eq_true h
      go_wp2
      go_ret
      exact ⟨by rw [FIN.out]; rfl, BE.out⟩
    have r1 : (i : Int) < (N : Int) := by omega
    obtain ⟨x, hx⟩ : ∃ x, a[i]? = some x := ⟨_, List.getElem?_eq_getElem (by have := hAN.out; omega)⟩
    obtain ⟨y, hy⟩ : ∃ y, b[i]? = some y := ⟨_, List.getElem?_eq_getElem (by have := hBM.out; omega)⟩
    have HX : Hid (wr.cell? ⟨pb, po + i, none⟩ = some (strT x)) := (BE.out.cell (block_lt_of_cell (StrsAt.cell H1.out hx))).trans (StrsAt.cell H1.out hx)
    have HY : Hid (wr.cell? ⟨pb2, po2 + i, none⟩ = some (strT y)) := (BE.out.cell (block_lt_of_cell (StrsAt.cell H2.out hy))).trans (StrsAt.cell H2.out hy)
    have HXI := Lib.hid hx
    have HYI := Lib.hid hy
    clear hx hy
    go_upto_region 6 with (fail)
    refine region_begin (opsOf Try.f37 6) (fun W' => W' = wr.drew) (by kernel_rfl) (by kernel_rfl) 9 (by kernel_rfl) ?_
    intro Q' hQN hN
    have HXd : Hid (wr.drew.cell? ⟨pb, po + i, none⟩ = some (strT x)) := HX.out
    have HYd : Hid (wr.drew.cell? ⟨pb2, po2 + i, none⟩ = some (strT y)) := HY.out
    have BD : Hid (Below w.heap.size w wr.drew) := BE.out.drew
    generalize wr.drew = wd at HXd HYd BD ⊢
    have HSd : wd = wd := rfl
    refine reg_now 0 (.slice (some ⟨pb, po, none⟩) N ac) (some 17) hQN HSd (by kernel_rfl) (by kernel_rfl) (fun w => by kernel_rfl) ?_
    refine reg_now 1 (.int .i64 (i : Int)) (some 18) hQN HSd (by kernel_rfl) (by kernel_rfl) (fun w => by kernel_rfl) ?_
    refine reg_now 2 (.pointer (some ⟨pb, po + i, none⟩)) (some 19) hQN HSd (by kernel_rfl) (by kernel_rfl) (fun w' => exec_indexAt 44 (.tmp 17) (.tmp 18) (by kernel_rfl) _ _ _ (by kernel_rfl) (by kernel_rfl) (run_at_str pb po N ac i hlt w')) ?_
    refine reg_nowIf 3 (strT x) (some 20) hQN HSd (by kernel_rfl) (by kernel_rfl) (fun w' hw => by subst hw; exact exec_load_cell 9 (.tmp 19) (by kernel_rfl) (pb) (po + i) (by kernel_rfl) _ (HXd.out) _ Try.underlying9 rfl) ?_
    refine reg_now 4 (.slice (some ⟨pb2, po2, none⟩) N bc) (some 21) hQN HSd (by kernel_rfl) (by kernel_rfl) (fun w => by kernel_rfl) ?_
    refine reg_now 5 (.int .i64 (i : Int)) (some 22) hQN HSd (by kernel_rfl) (by kernel_rfl) (fun w => by kernel_rfl) ?_
    refine reg_now 6 (.pointer (some ⟨pb2, po2 + i, none⟩)) (some 23) hQN HSd (by kernel_rfl) (by kernel_rfl) (fun w' => exec_indexAt 44 (.tmp 21) (.tmp 22) (by kernel_rfl) _ _ _ (by kernel_rfl) (by kernel_rfl) (run_at_str pb2 po2 N bc i hlt w')) ?_
    refine reg_nowIf 7 (strT y) (some 24) hQN HSd (by kernel_rfl) (by kernel_rfl) (fun w' hw => by subst hw; exact exec_load_cell 9 (.tmp 23) (by kernel_rfl) (pb2) (po2 + i) (by kernel_rfl) _ (HYd.out) _ Try.underlying9 rfl) ?_
    refine reg_nowIf 8 (.bool (!decide (x = y))) (some 25) hQN HSd (by kernel_rfl) (by kernel_rfl) (fun w' hw => exec_strneT 9 9 (.tmp 20) (.tmp 24) (by kernel_rfl) x y (by kernel_rfl) (by kernel_rfl) (fun _ => rfl)) ?_
    refine reg_done (by kernel_rfl) (hN _ _ ?_)
    generalize hact : Act.put _ (some 25) _ = act
    simp only [Act.put, List.setIfInBounds_toArray, List.set_cons_succ, List.set_cons_zero] at hact
    subst hact
    by_cases hxy : x = y
    rotate_left
    · have r2 : (!decide (x = y)) = true := by rw [decide_eq_false hxy]; rfl
      rw [r2]
      have FIN : Hid (decide (a = b) = false) := decide_eq_false (ne_of_at HXI.out HYI.out hxy)
      clear HXd HYd HX HY EQ
      go_wp2
      go_ret
      exact ⟨by rw [FIN.out]; rfl, BD.out⟩
    have r2 : (!decide (x = y)) = false := by rw [decide_eq_true hxy]; rfl
    rw [r2]
    have NE : Hid (a.take (i + 1) = b.take (i + 1)) := take_eq_succ EQ.out HXI.out HYI.out hxy
    clear HXd HYd HX HY EQ HXI HYI hxy
    have bl := sa
    go_wp2
    go_roundw
    case rel => exact ⟨i + 1, by omega, by go_num, NE, BD⟩
    case measure => simp [intOf]; omega

theorem run_build_lvN (n : Int) (w : World) : (Instr.build 49 #[(0, .int .i64 n), (1, .agg (ints .i64 [-1, -1, -1, -1]).toArray)]).run Try.prog w = .ok (.agg (ints .i64 (numL n).zs).toArray) w := run_build_lv4 n (-1) (-1) (-1) (-1) w
theorem run_build_noP (w : World) : (Instr.build 47 #[(0, .int .i64 (-1)), (1, .int .i64 (-1)), (2, .int .i64 (-1)), (3, .int .i64 (-1))]).run Try.prog w = .ok (.agg (ints .i64 [-1, -1, -1, -1]).toArray) w := by kernel_rfl

set_option maxHeartbeats 1000000 in
theorem rnum7_walk (n : Int) (w : World) : Calls Try.prog 26 #[.int .i64 n] w fun e w' => e = .returned (.agg (ints .i64 (numL n).zs).toArray) ∧ Below w.heap.size w w' := by
  obtain ⟨q, hq⟩ : ∃ q, Hid (w.heap.size = q) := ⟨_, rfl⟩
  rw [hq.out]
  go_enter Try.func26, Try.ntmps26
  go_upto_region 0 with (fail)
  refine lin_begin (opsOf Try.f26 0) (by kernel_rfl) ?_
  refine lin_alloc 0 49 (ints .i64 z5) (q) (some 2) (by kernel_rfl) (by kernel_rfl) (by kernel_rfl) zeroLv hq ?_
  intro w1 b1 be1 hs1
  refine lin_done 1 (by kernel_rfl) ?_
  generalize hact : Act.put _ (some 2) _ = act
  simp only [Act.put, List.setIfInBounds_toArray, List.set_cons_succ, List.set_cons_zero] at hact
  subst hact
  go_upto_region 1 with (fail)
  refine lin_begin (opsOf Try.f26 1) (by kernel_rfl) ?_
  refine lin_now 0 (.int .i64 n) (some 3) (by kernel_rfl) (by kernel_rfl) (by kernel_rfl) ?_
  refine lin_now 1 (.agg (ints .i64 [-1, -1, -1, -1]).toArray) (some 4) (by kernel_rfl) (by kernel_rfl) (exec_of (Instr.build 47 #[(0, .int .i64 (-1)), (1, .int .i64 (-1)), (2, .int .i64 (-1)), (3, .int .i64 (-1))]) _ (by kernel_rfl) (run_build_noP _)) ?_
  refine lin_now 2 (.agg (ints .i64 (numL n).zs).toArray) (some 5) (by kernel_rfl) (by kernel_rfl) (exec_of (Instr.build 49 #[(0, .int .i64 n), (1, .agg (ints .i64 [-1, -1, -1, -1]).toArray)]) _ (by kernel_rfl) (run_build_lvN n _)) ?_
  refine lin_put 3 49 (.tmp 2) (.tmp 5) (q) _ (ints .i64 z5) (ints .i64 (numL n).zs) (by kernel_rfl) (by kernel_rfl) (by kernel_rfl) (by kernel_rfl) (by kernel_rfl) b1 (rfl) (lvSize (l := numL n) rfl) (ints_oneCell _ _) ?_
  intro w3 b3 u3
  refine lin_done 4 (by kernel_rfl) ?_
  have B3 := Lib.hid b3
  have BE3 : Hid (Below q w w3) := u3.below be1 (Nat.le_refl _) (by have := hs1.out; omega)
  clear b3 u3 b1 be1 hs1
  generalize hact : Act.put _ none undef = act
  simp only [Act.put, List.setIfInBounds_toArray, List.set_cons_succ, List.set_cons_zero] at hact
  subst hact
  go_wp2
  refine bodyPost_ret (v := .agg (ints .i64 ((numL n).zs)).toArray) ?_ rfl ⟨rfl, BE3.out⟩
  exact results_cell_row (g := q) (t := 49) (cs := (ints .i64 ((numL n).zs)).toArray) (fr := (0, 0)) Try.results26 _ _ _ rfl B3.out Try.underlying49 rfl (by rw [List.size_toArray]; exact lvSize (l := numL n) rfl)

def lQ : Lv := ⟨0, [-1, 0, -1, -1]⟩
set_option maxHeartbeats 4000000 in
theorem rparam_walk (w : World) : Calls Try.prog 24 #[.int .i64 1, .int .i64 0] w fun e w' => e = .returned (.agg (ints .i64 lQ.zs).toArray) ∧ Below w.heap.size w w' := by
  obtain ⟨q, hq⟩ : ∃ q, Hid (w.heap.size = q) := ⟨_, rfl⟩
  rw [hq.out]
  go_enter Try.func24, Try.ntmps24
  go_upto_region 0 with (fail)
  refine lin_begin (opsOf Try.f24 0) (by kernel_rfl) ?_
  refine lin_alloc 0 49 (ints .i64 z5) (q) (some 4) (by kernel_rfl) (by kernel_rfl) (by kernel_rfl) zeroLv hq ?_
  intro w1 b1 be1 hs1
  refine lin_done 1 (by kernel_rfl) ?_
  generalize hact : Act.put _ (some 4) _ = act
  simp only [Act.put, List.setIfInBounds_toArray, List.set_cons_succ, List.set_cons_zero] at hact
  subst hact
  go_upto_region 1 with (fail)
  refine lin_begin (opsOf Try.f24 1) (by kernel_rfl) ?_
  refine lin_call 0 26 #[.int .i64 (-1)] (some 6) _ (by kernel_rfl) (by kernel_rfl) (by kernel_rfl) (rnum7_walk (-1) w1) ?_
  rintro e w2 ⟨rfl, hb2⟩
  refine ⟨_, rfl, ?_⟩
  obtain ⟨g, hg⟩ : ∃ g, Hid (w2.heap.size = g) := ⟨_, rfl⟩
  have Z2 := b1.below hb2 b1.lt
  have QG : Hid (q < g) := by rw [Hid, ← hg.out]; exact Z2.lt
  have BE2 : Below q w w2 := be1.trans (hb2.mono (by rw [hs1.out]; exact Nat.le_succ _))
  refine lin_alloc 1 49 (ints .i64 z5) (g) (some 5) (by kernel_rfl) (by kernel_rfl) (by kernel_rfl) zeroLv hg ?_
  intro w3 b3 be3 hs3
  refine lin_put 2 49 (.tmp 5) (.tmp 6) (g) _ (ints .i64 z5) (ints .i64 (numL (-1)).zs) (by kernel_rfl) (by kernel_rfl) (by kernel_rfl) (by kernel_rfl) (by kernel_rfl) b3 (rfl) (lvSize (l := numL (-1)) rfl) (ints_oneCell _ _) ?_
  intro w4 b4 u4
  refine lin_done 3 (by kernel_rfl) ?_
  have G4 := Lib.hid b4
  have Z4 : Hid (Blk w4 q 49 (ints .i64 z5)) := u4.blk (Z2.below be3 QG.out) (by have := QG.out; omega)
  have BE4 : Hid (Below q w w4) := u4.below (BE2.trans (be3.mono (Nat.le_of_lt QG.out))) (Nat.le_of_lt QG.out) (by rw [hs3.out]; have := QG.out; omega)
  clear b1 be1 hs1 hb2 Z2 BE2 b3 be3 hs3 b4 u4 hg
  generalize hact : Act.put _ none undef = act
  simp only [Act.put, List.setIfInBounds_toArray, List.set_cons_succ, List.set_cons_zero] at hact
  subst hact
  go_upto_region 2 with (fail)
  refine lin_begin (opsOf Try.f24 2) (by kernel_rfl) ?_
  refine lin_now 0 (.int .i64 1) (some 7) (by kernel_rfl) (by kernel_rfl) (by kernel_rfl) ?_
  refine lin_now 1 (.bool false) (some 8) (by kernel_rfl) (by kernel_rfl) (by kernel_rfl) ?_
  refine lin_now 2 (.bool false) (some 9) (by kernel_rfl) (by kernel_rfl) (by kernel_rfl) ?_
  refine lin_now 3 (.int .i64 1) (some 10) (by kernel_rfl) (by kernel_rfl) (by kernel_rfl) ?_
  refine lin_now 4 (.bool false) (some 11) (by kernel_rfl) (by kernel_rfl) (by kernel_rfl) ?_
  refine lin_now 5 (.bool false) (some 12) (by kernel_rfl) (by kernel_rfl) (by kernel_rfl) ?_
  refine lin_now 6 (.bool false) (some 13) (by kernel_rfl) (by kernel_rfl) (by kernel_rfl) ?_
  refine lin_now 7 (.int .i64 0) (some 14) (by kernel_rfl) (by kernel_rfl) (by kernel_rfl) ?_
  refine lin_now 8 (.bool false) (some 15) (by kernel_rfl) (by kernel_rfl) (by kernel_rfl) ?_
  refine lin_now 9 (.bool false) (some 16) (by kernel_rfl) (by kernel_rfl) (by kernel_rfl) ?_
  refine lin_now 10 (.bool false) (some 17) (by kernel_rfl) (by kernel_rfl) (by kernel_rfl) ?_
  refine lin_now 11 (.int .i64 0) (some 18) (by kernel_rfl) (by kernel_rfl) (by kernel_rfl) ?_
  refine lin_now 12 (.bool false) (some 19) (by kernel_rfl) (by kernel_rfl) (by kernel_rfl) ?_
  refine lin_now 13 (.bool false) (some 20) (by kernel_rfl) (by kernel_rfl) (by kernel_rfl) ?_
  refine lin_done 14 (by kernel_rfl) ?_
  generalize hact : Act.put _ (some 20) _ = act
  simp only [Act.put, List.setIfInBounds_toArray, List.set_cons_succ, List.set_cons_zero] at hact
  subst hact
  go_upto_region 4 with (fail)
  refine lin_begin (opsOf Try.f24 4) (by kernel_rfl) ?_
  refine lin_now 0 (.int .i64 0) (some 22) (by kernel_rfl) (by kernel_rfl) (by kernel_rfl) ?_
  refine lin_now 1 (.pointer (some ⟨g, 0, none⟩)) (some 23) (by kernel_rfl) (by kernel_rfl) (by kernel_rfl) ?_
  refine lin_cel 2 3 (.tmp 23) (.tmp 22) g 0 49 (ints .i64 (numL (-1)).zs) (.int .i64 0) (by kernel_rfl) (by kernel_rfl) (by kernel_rfl) (by kernel_rfl) (by kernel_rfl) G4.out (by decide) sizeInt rfl rfl ?_
  intro w5 b5 u5 hs5
  refine lin_done 3 (by kernel_rfl) ?_
  have G5 : Hid (Blk w5 g 49 (ints .i64 [0, -1, -1, -1, -1])) := b5
  have Z5 : Hid (Blk w5 q 49 (ints .i64 z5)) := u5.blk Z4.out (by have := QG.out; omega)
  have BE5 : Hid (Below q w w5) := u5.below BE4.out (Nat.le_of_lt QG.out) (Nat.le_of_lt Z4.out.lt)
  clear b5 u5 hs5 G4 Z4 BE4
  generalize hact : Act.put _ none undef = act
  simp only [Act.put, List.setIfInBounds_toArray, List.set_cons_succ, List.set_cons_zero] at hact
  subst hact
  go_upto_region 5 with (fail)
  refine lin_begin (opsOf Try.f24 5) (by kernel_rfl) ?_
  refine lin_now 0 (.int .i64 1) (some 24) (by kernel_rfl) (by kernel_rfl) (by kernel_rfl) ?_
  refine lin_now 1 (.int .i64 0) (some 25) (by kernel_rfl) (by kernel_rfl) (by kernel_rfl) ?_
  refine lin_now 2 (.pointer (some ⟨g, 1, none⟩)) (some 26) (by kernel_rfl) (by kernel_rfl) (by kernel_rfl) ?_
  refine lin_now 3 (.pointer (some ⟨g, 1 + 1, none⟩)) (some 27) (by kernel_rfl) (by kernel_rfl) (exec_indexAt 47 (.tmp 26) (.tmp 24) (by kernel_rfl) _ _ _ (by kernel_rfl) (by kernel_rfl) (run_at_arr4 g 1 1 (by omega) _)) ?_
  refine lin_cel 4 3 (.tmp 27) (.tmp 25) g 2 49 (ints .i64 [0, -1, -1, -1, -1]) (.int .i64 0) (by kernel_rfl) (by kernel_rfl) (by kernel_rfl) (by kernel_rfl) (by kernel_rfl) G5.out (by decide) sizeInt rfl rfl ?_
  intro w6 b6 u6 hs6
  refine lin_done 5 (by kernel_rfl) ?_
  have G6 : Hid (Blk w6 g 49 (ints .i64 lQ.zs)) := b6
  have Z6 : Hid (Blk w6 q 49 (ints .i64 z5)) := u6.blk Z5.out (by have := QG.out; omega)
  have BE6 : Hid (Below q w w6) := u6.below BE5.out (Nat.le_of_lt QG.out) (Nat.le_of_lt Z5.out.lt)
  clear b6 u6 hs6 G5 Z5 BE5
  generalize hact : Act.put _ none undef = act
  simp only [Act.put, List.setIfInBounds_toArray, List.set_cons_succ, List.set_cons_zero] at hact
  subst hact
  go_upto_region 6 with (fail)
  refine lin_begin (opsOf Try.f24 6) (by kernel_rfl) ?_
  refine lin_load 0 49 (.tmp 5) (g) _ (ints .i64 lQ.zs) (some 28) (by kernel_rfl) (by kernel_rfl) (by kernel_rfl) (by kernel_rfl) G6.out _ Try.underlying49 rfl (lvSize (l := lQ) rfl) ?_
  refine lin_put 1 49 (.tmp 4) (.tmp 28) (q) _ (ints .i64 z5) (ints .i64 lQ.zs) (by kernel_rfl) (by kernel_rfl) (by kernel_rfl) (by kernel_rfl) (by kernel_rfl) Z6.out (rfl) (lvSize (l := lQ) rfl) (ints_oneCell _ _) ?_
  intro w7 b7 u7
  refine lin_done 2 (by kernel_rfl) ?_
  have B7 := Lib.hid b7
  have BE7 : Hid (Below q w w7) := u7.below BE6.out (Nat.le_refl _) (Nat.le_of_lt Z6.out.lt)
  clear b7 u7
  generalize hact : Act.put _ none undef = act
  simp only [Act.put, List.setIfInBounds_toArray, List.set_cons_succ, List.set_cons_zero] at hact
  subst hact
  go_wp2
  refine bodyPost_ret (v := .agg (ints .i64 (lQ.zs)).toArray) ?_ rfl ⟨rfl, BE7.out⟩
  exact results_cell_row (g := q) (t := 49) (cs := (ints .i64 (lQ.zs)).toArray) (fr := (0, 0)) Try.results24 _ _ _ rfl B7.out Try.underlying49 rfl (by rw [List.size_toArray]; exact lvSize (l := lQ) rfl)

def varC (n : Int) : List Value := [.int .i64 1, .int .i64 n, strT [], .slice none 0 0, .slice none 0 0]
def conC (s : List UInt8) : List Value := [.int .i64 4, .int .i64 0, strT s, .slice none 0 0, .slice none 0 0]
def varT (n : Int) : Tm := .mk 1 n [] [] []
def conT (s : List UInt8) : Tm := .mk 4 0 s [] []
theorem nils_at (F : List Nat) (w : World) : TmsAt F w [] (.slice none 0 0) := by rw [TmsAt]; exact ⟨none, 0, rfl⟩
theorem lvs_nil (F : List Nat) (w : World) : LvsOff F w (.slice none 0 0) [] := LvsOff.nil F w none 0
theorem var_at (F : List Nat) (w : World) (n : Int) : TmAt F w (varT n) (varC n) := TmAt.mk (t := varT n) (lvs_nil F w) (nils_at F w)
theorem con_at (F : List Nat) (w : World) (s : List UInt8) : TmAt F w (conT s) (conC s) := TmAt.mk (t := conT s) (lvs_nil F w) (nils_at F w)

theorem ones_var (n : Int) : ∀ u ∈ varC n, u.oneCell' = true := by
  intro u hu
  simp only [varC, List.mem_cons, List.not_mem_nil, or_false] at hu
  rcases hu with rfl | rfl | rfl | rfl | rfl <;> rfl
theorem ones_con (s : List UInt8) : ∀ u ∈ conC s, u.oneCell' = true := by
  intro u hu
  simp only [conC, List.mem_cons, List.not_mem_nil, or_false] at hu
  rcases hu with rfl | rfl | rfl | rfl | rfl <;> rfl

set_option maxHeartbeats 1000000 in
theorem var_walk (n : Int) (w : World) : Calls Try.prog 28 #[.int .i64 n] w fun e w' => e = .returned (.agg (varC n).toArray) ∧ Below w.heap.size w w' := by
  obtain ⟨q, hq⟩ : ∃ q, Hid (w.heap.size = q) := ⟨_, rfl⟩
  rw [hq.out]
  go_enter Try.func28, Try.ntmps28
  go_upto_region 0 with (fail)
  refine lin_begin (opsOf Try.f28 0) (by kernel_rfl) ?_
  refine lin_alloc 0 25 z5T (q) (some 2) (by kernel_rfl) (by kernel_rfl) (by kernel_rfl) (by kernel_rfl) hq ?_
  intro w1 bw1 bew1 hsw1
  refine lin_done 1 (by kernel_rfl) ?_
  generalize hact : Act.put _ (some 2) _ = act
  simp only [Act.put, List.setIfInBounds_toArray, List.set_cons_succ, List.set_cons_zero] at hact
  subst hact
  go_upto_region 1 with (fail)
  refine lin_begin (opsOf Try.f28 1) (by kernel_rfl) ?_
  refine lin_now 0 (.int .i64 n) (some 3) (by kernel_rfl) (by kernel_rfl) (by kernel_rfl) ?_
  refine lin_now 1 (.agg (varC n).toArray) (some 4) (by kernel_rfl) (by kernel_rfl) (by kernel_rfl) ?_
  refine lin_put 2 25 (.tmp 2) (.tmp 4) (q) _ (z5T) (varC n) (by kernel_rfl) (by kernel_rfl) (by kernel_rfl) (by kernel_rfl) (by kernel_rfl) bw1 ((rfl : (varC n).length = 5).trans (rfl : z5T.length = 5).symm) (t5Size (rfl : (varC n).length = 5)) (by simpa using (ones_var n)) ?_
  intro w2 bw2 uw2
  refine lin_done 3 (by kernel_rfl) ?_
  have B2 := Lib.hid bw2
  have BE2 : Hid (Below q w w2) := uw2.below bew1 (Nat.le_refl _) (by have := hsw1.out; omega)
  clear bw2 uw2 bw1 bew1 hsw1
  generalize hact : Act.put _ none undef = act
  simp only [Act.put, List.setIfInBounds_toArray, List.set_cons_succ, List.set_cons_zero] at hact
  subst hact
  go_wp2
  refine bodyPost_ret (v := .agg (varC n).toArray) ?_ rfl ⟨rfl, BE2.out⟩
  exact results_cell_row (g := q) (t := 25) (cs := (varC n).toArray) (fr := (0, 0)) Try.results28 _ _ _ rfl B2.out Try.underlying25 rfl (t5Size rfl)

set_option maxHeartbeats 1000000 in
theorem con_walk (s : List UInt8) (w : World) : Calls Try.prog 29 #[strT s] w fun e w' => e = .returned (.agg (conC s).toArray) ∧ Below w.heap.size w w' := by
  obtain ⟨q, hq⟩ : ∃ q, Hid (w.heap.size = q) := ⟨_, rfl⟩
  rw [hq.out]
  go_enter Try.func29, Try.ntmps29
  go_upto_region 0 with (fail)
  refine lin_begin (opsOf Try.f29 0) (by kernel_rfl) ?_
  refine lin_alloc 0 25 z5T (q) (some 2) (by kernel_rfl) (by kernel_rfl) (by kernel_rfl) (by kernel_rfl) hq ?_
  intro w1 bw1 bew1 hsw1
  refine lin_done 1 (by kernel_rfl) ?_
  generalize hact : Act.put _ (some 2) _ = act
  simp only [Act.put, List.setIfInBounds_toArray, List.set_cons_succ, List.set_cons_zero] at hact
  subst hact
  go_upto_region 1 with (fail)
  refine lin_begin (opsOf Try.f29 1) (by kernel_rfl) ?_
  refine lin_now 0 (strT s) (some 3) (by kernel_rfl) (by kernel_rfl) (by kernel_rfl) ?_
  refine lin_now 1 (.agg (conC s).toArray) (some 4) (by kernel_rfl) (by kernel_rfl) (by kernel_rfl) ?_
  refine lin_put 2 25 (.tmp 2) (.tmp 4) (q) _ (z5T) (conC s) (by kernel_rfl) (by kernel_rfl) (by kernel_rfl) (by kernel_rfl) (by kernel_rfl) bw1 ((rfl : (conC s).length = 5).trans (rfl : z5T.length = 5).symm) (t5Size (rfl : (conC s).length = 5)) (by simpa using (ones_con s)) ?_
  intro w2 bw2 uw2
  refine lin_done 3 (by kernel_rfl) ?_
  have B2 := Lib.hid bw2
  have BE2 : Hid (Below q w w2) := uw2.below bew1 (Nat.le_refl _) (by have := hsw1.out; omega)
  clear bw2 uw2 bw1 bew1 hsw1
  generalize hact : Act.put _ none undef = act
  simp only [Act.put, List.setIfInBounds_toArray, List.set_cons_succ, List.set_cons_zero] at hact
  subst hact
  go_wp2
  refine bodyPost_ret (v := .agg (conC s).toArray) ?_ rfl ⟨rfl, BE2.out⟩
  exact results_cell_row (g := q) (t := 25) (cs := (conC s).toArray) (fr := (0, 0)) Try.results29 _ _ _ rfl B2.out Try.underlying25 rfl (t5Size rfl)

set_option maxHeartbeats 1000000 in
theorem great_walk {F : List Nat} (t : Tm) (cs : List Value) (w : World) (ht : TmAt F w t cs) (hs : SmT t) : Calls Try.prog 9 #[.agg cs.toArray] w fun e w' => e = .returned (.bool (decide (3600 < nodesT t))) ∧ Below w.heap.size w w' := by
  have C5 := Lib.hid ht.len
  have HT := Lib.hid ht
  clear ht
  obtain ⟨q, hq⟩ : ∃ q, Hid (w.heap.size = q) := ⟨_, rfl⟩
  go_enter Try.func9, Try.ntmps9
  go_upto_region 0 with (fail)
  refine lin_begin (opsOf Try.f9 0) (by kernel_rfl) ?_
  refine lin_box 0 25 (.tmp 0) (cs) (q) (some 1) (by kernel_rfl) (by kernel_rfl) (by kernel_rfl) (by kernel_rfl) hq ?_
  intro w1 bw1 bew1 hsw1
  refine lin_now 1 (.bool false) (some 2) (by kernel_rfl) (by kernel_rfl) (by kernel_rfl) ?_
  refine lin_done 2 (by kernel_rfl) ?_
  generalize hact : Act.put _ (some 2) _ = act
  simp only [Act.put, List.setIfInBounds_toArray, List.set_cons_succ, List.set_cons_zero] at hact
  subst hact
  have B1 := Lib.hid bw1
  have BE1 : Hid (Below w.heap.size w w1) := by rw [Hid, hq.out]; exact bew1
  clear bw1 bew1 hsw1
  have CALL := tnodes_walk t cs w1 3600 F (HT.out.below BE1.out) hs (by omega)
  obtain ⟨m, hm⟩ : ∃ m : Int, Hid (((min (nodesT t) (3600 + 1) : Nat) : Int) = m) := ⟨_, rfl⟩
  rw [hm.out] at CALL
  go_upto_region 1 with (fail)
  refine lin_begin (opsOf Try.f9 1) (by kernel_rfl) ?_
  refine lin_now 0 (.agg (cs).toArray) (some 3) (by kernel_rfl) (by kernel_rfl) (exec_load_mid 25 (.tmp 1) (by kernel_rfl) (q) 0 (by kernel_rfl) (cs) _ (B1.out).whole Try.underlying25 rfl (t5Size C5.out)) ?_
  refine lin_call 1 39 #[.agg cs.toArray, .int .i64 3600] (some 4) _ (by kernel_rfl) (by kernel_rfl) (by kernel_rfl) (CALL) ?_
  rintro e w2 ⟨rfl, hb2⟩
  refine ⟨_, rfl, ?_⟩
  refine lin_now 2 (.bool (decide (m > 3600))) (some 5) (by kernel_rfl) (by kernel_rfl) (by kernel_rfl) ?_
  refine lin_now 3 (.bool (decide (m > 3600))) (some 2) (by kernel_rfl) (by kernel_rfl) (by kernel_rfl) ?_
  refine lin_done 4 (by kernel_rfl) ?_
  generalize hact : Act.put _ (some 2) _ = act
  simp only [Act.put, List.setIfInBounds_toArray, List.set_cons_succ, List.set_cons_zero] at hact
  subst hact
  go_wp2
  go_ret
  refine ⟨?_, BE1.out.trans (hb2.mono BE1.out.size)⟩
  rw [← hm.out]
  show Ending.returned (Value.bool (decide (((min (nodesT t) (3600 + 1) : Nat) : Int) > 3600))) = _
  congr 2
  rw [decide_eq_decide]
  omega

end Go.Proofs.Ytndbpmkglddjjaa
