/- The law ParseBlanks. -/
import Derived.Test.YtdacmogedchnaaaQGenT
import Derived.Test.YtdacmogedchnaaaQPrsV
namespace Go.Proofs.Ytdacmogedchnaaa
open Go Go.RowKit
set_option maxRecDepth 100000
/-- A declaration's trees are small. -/
def NdD (d : Dl) : Prop := nodesR d.ty ≤ 3000 ∧ nodesR d.val ≤ 3000
theorem zRw_nodes : nodesR zRw ≤ 3000 := by
 rw [zRw, nodesR, nodesRs]
 omega
theorem topP_nd {l r : List (List UInt8)} {t : Rw} (h : topP l = .ok t r) : nodesR t ≤ 3000 := by
 unfold topP at h
 obtain ⟨t1, r1, h1, h2⟩ := PR.bind_get h
 split at h2
 ·injection h2 with h3
  rw [← h3]
  exact (wholeP_ok h1).2
 ·cases h2
theorem valP_nd {k : Nat} {l r : List (List UInt8)} {x : Rw × List Ct} (h : valP k l = .ok x r) : nodesR x.1 ≤ 3000 := by
 unfold valP at h
 split at h
 ·obtain ⟨_, r1, -, h2⟩ := PR.bind_get h
  obtain ⟨v, r2, h3, h4⟩ := PR.bind_get h2
  injection h4 with h5
  rw [← h5]
  exact (wholeP_ok h3).2
 ·split at h
  ·split at h
   ·obtain ⟨cs, r1, -, h2⟩ := PR.bind_get h
    injection h2 with h5
    rw [← h5]
    exact zRw_nodes
   ·injection h with h5
    rw [← h5]
    exact zRw_nodes
  ·injection h with h5
   rw [← h5]
   exact zRw_nodes
theorem declQ_nd {l r : List (List UInt8)} {d : Dl} (h : declQ l = .ok d r) : NdD d := by
 unfold declQ at h
 split at h
 ·cases h
 ·obtain ⟨s, r1, -, h⟩ := PR.bind_get h
  obtain ⟨ps, r2, -, h⟩ := PR.bind_get h
  obtain ⟨fx, r3, -, h⟩ := PR.bind_get h
  obtain ⟨_, r4, -, h⟩ := PR.bind_get h
  obtain ⟨ty, r5, h5, h⟩ := PR.bind_get h
  obtain ⟨vc, r6, h6, h⟩ := PR.bind_get h
  obtain ⟨_, r7, -, h⟩ := PR.bind_get h
  injection h with h8
  rw [← h8]
  exact ⟨(wholeP_ok h5).2, valP_nd h6⟩
theorem srcLoop_nd : ∀ (f : Nat) (ds : List Dl) (l r : List (List UInt8)) (es : List Dl), (∀ d ∈ ds, NdD d) → srcLoop f ds l = .ok es r → ∀ d ∈ es, NdD d
 | 0, _, _, _, _, _, h => by cases h
 | f + 1, ds, l, r, es, hd, h => by
  rw [srcLoop] at h
  split at h
  ·injection h with h5
   rw [← h5]
   exact hd
  ·split at h
   ·cases h
   ·obtain ⟨d, r1, h1, h2⟩ := PR.bind_get h
    exact srcLoop_nd f _ r1 r es (fun e he => by
     rcases List.mem_append.1 he with he | he
     ·exact hd e he
     ·rw [List.mem_singleton.1 he]
      exact declQ_nd h1) h2
theorem readA_get {β : Type} {f : List (List UInt8) → PR β} {s : List UInt8} {x : β} (h : readA f s = .ok x) : ∃ ts r, scanR s = (ts, 0, 0) ∧ f (textsOf ts) = .ok x r := by
 obtain ⟨ts, p, c, hsc⟩ := eq_code (s := s)
 by_cases hc : c = 0
 ·subst hc
  obtain ⟨hp, -, -⟩ := scanR_inv hsc
  subst hp
  rw [readA_ok f hsc] at h
  cases hf : f (textsOf ts) with
  | ok y r =>
   rw [hf] at h
   have h2 : (Except.ok y : Except (Nat × Nat) β) = .ok x := h
   injection h2 with h3
   subst h3
   exact ⟨ts, r, hsc, hf⟩
  | err p c =>
   rw [hf] at h
   have h2 : (Except.error (lookK s p, c) : Except (Nat × Nat) β) = .ok x := h
   cases h2
 ·rw [readA_bad f hsc hc] at h
  cases h
theorem srcA_nd (s : List UInt8) : ∀ d ∈ (srcA s).1, NdD d := by
 unfold srcA
 cases h : readA sourceP s with
 | error pc => intro d hd; cases hd
 | ok ds =>
  obtain ⟨ts, r, -, hf⟩ := readA_get h
  exact srcLoop_nd _ [] _ _ _ (fun d hd => by cases hd) hf
theorem trmA_nd (s : List UInt8) : nodesR (trmA s).1 ≤ 3000 := by
 unfold trmA
 cases h : readA topP s with
 | error pc => exact zRw_nodes
 | ok t =>
  obtain ⟨ts, r, -, hf⟩ := readA_get h
  exact topP_nd hf
/-- A term that is read has code 0, and nothing else has. -/
theorem trmA_zero {s : List UInt8} (h : (trmA s).2.2 = 0) : readA topP s = .ok (trmA s).1 := by
 unfold trmA at h ⊢
 cases hr : readA topP s with
 | ok t => rfl
 | error pc =>
  exfalso
  obtain ⟨p, c⟩ := pc
  rw [hr] at h
  obtain rfl : c = 0 := h
  obtain ⟨ts, p2, c2, hsc⟩ := eq_code (s := s)
  by_cases hc : c2 = 0
  ·subst hc
   obtain ⟨hp, hl, hsc2⟩ := scanR_inv hsc
   subst hp
   rw [readA_ok topP hsc] at hr
   have hg := topP_eg (fit_of hsc)
   cases hf : topP (textsOf ts) with
   | ok y r =>
    rw [hf] at hr
    have h2 : (Except.ok y : Except (Nat × Nat) Rw) = .error (p, 0) := hr
    cases h2
   | err p3 c3 =>
    rw [hf] at hr hg
    have h2 : (Except.error (lookK s p3, c3) : Except (Nat × Nat) Rw) = .error (p, 0) := hr
    injection h2 with h3
    injection h3 with h4 h5
    exact hg.1 h5
  ·rw [readA_bad topP hsc hc] at hr
   injection hr with h3
   injection h3 with h4 h5
   exact hc h5
theorem blanks_srcs (s : List UInt8) (hs : s.length ≤ 4000) {ts : List Tk} (h : scanR s = (ts, 0, 0)) : (joinB (textsOf ts)).length ≤ 8000 ∧ (srcA (joinB (textsOf ts))).1 = (srcA s).1 ∧ (srcA (joinB (textsOf ts))).2.2 = (srcA s).2.2 ∧
    ((trmA s).2.2 = 0 → (trmA (40 :: (joinB (textsOf ts) ++ [41]))).2.2 = 0 ∧ (trmA (40 :: (joinB (textsOf ts) ++ [41]))).1 = shR 1 (trmA s).1) := by
  obtain ⟨h1, h2, h3⟩ := blanks_plain s hs h
  have h4 : (srcA (joinB (textsOf ts))).1 = (srcA s).1 ∧ (srcA (joinB (textsOf ts))).2.2 = (srcA s).2.2 := by
    cases hr : readA sourceP s with
    | error pc =>
      obtain ⟨p, c⟩ := pc
      rw [hr] at h2
      obtain ⟨p', h5⟩ := h2
      rw [srcA_no hr, srcA_no h5]
      exact ⟨rfl, rfl⟩
    | ok ds =>
      rw [hr] at h2
      rw [srcA_ok hr, srcA_ok h2]
      exact ⟨rfl, rfl⟩
  exact ⟨h1, h4.1, h4.2, fun h0 => by
    have h6 := h3 _ (trmA_zero h0)
    rw [trmA_ok h6]
    exact ⟨rfl, rfl⟩⟩
theorem srcA_len (s : List UInt8) : (srcA s).1.length ≤ 65536 := by
 unfold srcA
 cases h : readA sourceP s with
 | error pc => exact Nat.zero_le _
 | ok ds =>
  obtain ⟨ts, r, -, hf⟩ := readA_get h
  obtain ⟨-, new, hn, hl, -⟩ := src_ok FU [] _ ds r hf
  have := hl (by simp)
  show ds.length ≤ 65536
  omega
/-- What a declaration of a slice is made of, in memory. -/
theorem dl_facts {K : Nat → Nat} {F : List Nat} {w : World} {v : Value} {ds : List Dl} {k : Nat} {d : Dl} (h : SlG (DlAt K) 18 F w v ds) (hd : ds[k]? = some d) : ∃ g u c tc vc a cc, v = .slice (some ⟨g, u, none⟩) ds.length c ∧ g < w.heap.size ∧ w.cell? ⟨g, u + 18 * k, none⟩ = some (.int .i64 (d.kind : Int)) ∧ w.cell? ⟨g, u + 18 * k + 4, none⟩ = some (sT d.name) ∧
    w.rangeAt g (u + 18 * k + 5) tc ∧ RwAt K F w d.ty tc ∧ w.rangeAt g (u + 18 * k + 11) vc ∧ RwAt K F w d.val vc ∧ w.cell? ⟨g, u + 18 * k + 17, none⟩ = some (.slice a d.ctors.length cc) := by
  obtain ⟨g, u, c, cs, hv, hl, hr, hP⟩ := sl_cells (i := k) h hd
  obtain ⟨h0, -, -, h4, ⟨tc, htc, hty⟩, ⟨vc, hvc, hval⟩, cv, hcv, hsl⟩ := hP.cells
  obtain ⟨a, cc, rfl⟩ := hsl.slice
  exact ⟨g, u, c, tc, vc, a, cc, hv, hl, hr 0 _ h0, hr 4 _ h4, fun j x hx => by rw [Nat.add_assoc]; exact hr (5 + j) x (htc j x hx), hty, fun j x hx => by rw [Nat.add_assoc]; exact hr (11 + j) x (hvc j x hx), hval, hr 17 _ hcv⟩
theorem cell_low {w w' : World} {g o : Nat} {v : Value} (h : w.cell? ⟨g, o, none⟩ = some v) (hl : g < w.heap.size) (hb : Below w.heap.size w w') : w'.cell? ⟨g, o, none⟩ = some v := (hb.cell (p := ⟨g, o, none⟩) hl).trans h
set_option maxHeartbeats 16000000 in
theorem blanks_mainY (s : List UInt8) (w : World) : Calls Try.prog 3 #[sT s] w fun e w' => e = .returned (.bool true) ∧ Below w.heap.size w w' := by
 obtain ⟨q, hq⟩ : ∃ q, Hid (w.heap.size = q) := ⟨_, rfl⟩
 rw [hq.out]
 obtain ⟨N, hNl⟩ : ∃ N, Hid (s.length = N) := ⟨_, rfl⟩
 go_enter Try.func3, Try.ntmps3
 go_upto_region 0 with (fail)
 refine lbeg (opsOf Try.f3 0) ?_
 refine lnow 0 (.bool false) (some 2) ?_
 refine ldn 1 ?_
 generalize hact : Act.put _ (some 2) _ = act
 simp only [Act.put, sA, sC, sZ] at hact
 subst hact
 go_upto_region 1 with (fail)
 refine lbeg (opsOf Try.f3 1) ?_
 refine lcal 0 5 #[] (some 26) _ (alive12_walk w) ?_
 rintro e w1 ⟨rfl, hb1⟩
 refine ⟨_, rfl, ?_⟩
 rw [hq.out] at hb1
 have SQ : Hid (q ≤ w1.heap.size) := by have := hb1.size; rw [hq.out] at this; exact this
 have BE := Lib.hid hb1
 clear hb1
 refine lnow 1 (.bool false) (some 27) ?_
 refine ldn 2 ?_
 generalize hact : Act.put _ (some 27) _ = act
 simp only [Act.put, sA, sC, sZ] at hact
 subst hact
 by_cases h1 : (N : Int) > 4000
 ·skip
  go_upto_region 3 with (fail)
  refine lbeg (opsOf Try.f3 3) ?_
  refine lnow 0 (sT s) (some 28) ?_
  refine lnow 1 (.int .i64 (s.length : Int)) (some 29) ?_
  rw [hNl.out]
  refine lnow 2 (.bool (decide ((N : Int) > 4000))) (some 30) ?_
  rw [decide_eq_true (h1)]
  refine ldn 3 ?_
  generalize hact : Act.put _ (some 30) _ = act
  simp only [Act.put, sA, sC, sZ] at hact
  subst hact
  go_wp2
  go_ret
  exact ⟨rfl, BE.out⟩
 go_upto_region 3 with (fail)
 refine lbeg (opsOf Try.f3 3) ?_
 refine lnow 0 (sT s) (some 28) ?_
 refine lnow 1 (.int .i64 (s.length : Int)) (some 29) ?_
 rw [hNl.out]
 refine lnow 2 (.bool (decide ((N : Int) > 4000))) (some 30) ?_
 rw [decide_eq_false (h1)]
 refine ldn 3 ?_
 generalize hact : Act.put _ (some 30) _ = act
 simp only [Act.put, sA, sC, sZ] at hact
 subst hact
 have N4 : Hid (N ≤ 4000) := by rw [Hid]; omega
 clear h1
 obtain ⟨ts, p, c, hsc⟩ := eq_code (s := s)
 have HSC := Lib.hid hsc
 clear hsc
 have C := xscan_walk s w1
 unfold ScanPost at C
 rw [HSC.out] at C
 dsimp only at C
 obtain ⟨M, hM⟩ : ∃ M, Hid (ts.length = M) := ⟨_, rfl⟩
 go_upto_region 5 with (fail)
 refine lbeg (opsOf Try.f3 5) ?_
 refine lnow 0 (sT s) (some 32) ?_
 refine lcal 1 6 #[sT s] (some 33) _ (C) ?_
 rintro e0 w2 ⟨v1, rfl, ho1, hb2⟩
 refine ⟨_, rfl, ?_⟩
 replace BE : Hid (Below q w w2) := BE.out.trans (hb2.mono SQ.out)
 replace SQ : Hid (q ≤ w2.heap.size) := Nat.le_trans SQ.out hb2.size
 have SX := Lib.hid ho1.read
 obtain ⟨va, vc, hv, -⟩ := id SX.out
 subst hv
 rw [hM.out] at SX ⊢
 clear ho1 hb2 C
 refine lnow 2 (.tuple #[.slice va M vc, .int .i64 (p : Int), .int .i64 (c : Int)]) (some 31) ?_
 refine lnow 3 (.slice va M vc) (some 34) ?_
 refine lnow 4 (.int .i64 (p : Int)) (some 35) ?_
 refine lnow 5 (.int .i64 (c : Int)) (some 36) ?_
 refine lnow 6 (.slice va M vc) (some 3) ?_
 refine lnow 7 (.int .i64 (p : Int)) (some 4) ?_
 refine lnow 8 (.int .i64 (c : Int)) (some 5) ?_
 refine ldn 9 ?_
 generalize hact : Act.put _ (some 5) _ = act
 simp only [Act.put, sA, sC, sZ] at hact
 subst hact
 by_cases hc : c = 0
 rotate_left
 ·skip
  have hR1 : Hid (srcA s = ([], p, c)) := srcA_no (readA_bad sourceP HSC.out hc)
  have hR3 : Hid (trmA s = (zRw, p, c)) := trmA_no (readA_bad topP HSC.out hc)
  clear SX HSC hM
  go_upto_region 6 with (fail)
  refine lbeg (opsOf Try.f3 6) ?_
  refine lnow 0 (.int .i64 (c : Int)) (some 37) ?_
  refine lnow 1 (.bool (!decide ((c : Int) = 0))) (some 38) ?_
  rw [decide_eq_false (by omega)]
  rw [show (!false) = true from rfl]
  refine ldn 2 ?_
  generalize hact : Act.put _ (some 38) _ = act
  simp only [Act.put, sA, sC, sZ] at hact
  subst hact
  go_upto_region 7 with (fail)
  refine lbeg (opsOf Try.f3 7) ?_
  refine lnow 0 (sT s) (some 40) ?_
  have C := Source_any (s) w2
  rw [hR1.out] at C
  dsimp only at C
  refine lcal 1 7 #[sT (s)] (some 41) _ (C) ?_
  rintro e0 w3 ⟨v1, rfl, ho1, hb2⟩
  refine ⟨_, rfl, ?_⟩
  replace BE : Hid (Below q w w3) := BE.out.trans (hb2.mono SQ.out)
  replace SQ : Hid (q ≤ w3.heap.size) := Nat.le_trans SQ.out hb2.size
  have Sx := Lib.hid ho1
  obtain ⟨xa, xc, hv⟩ := ho1.slice
  subst hv
  clear ho1 hb2 C
  refine lnow 2 (.tuple #[.slice xa 0 xc, .int .i64 (p : Int), .int .i64 (c : Int)]) (some 39) ?_
  refine lnow 3 (.slice xa 0 xc) (some 42) ?_
  refine lnow 4 (.int .i64 (p : Int)) (some 43) ?_
  refine lnow 5 (.int .i64 (c : Int)) (some 44) ?_
  refine lnow 6 (.slice xa 0 xc) (some 6) ?_
  refine lnow 7 (.int .i64 (p : Int)) (some 7) ?_
  refine lnow 8 (.int .i64 (c : Int)) (some 8) ?_
  refine ldn 9 ?_
  generalize hact : Act.put _ (some 8) _ = act
  simp only [Act.put, sA, sC, sZ] at hact
  subst hact
  go_upto_region 8 with (fail)
  refine lbeg (opsOf Try.f3 8) ?_
  refine lnow 0 (sT s) (some 46) ?_
  have C := Term_any (s) w3
  rw [hR3.out] at C
  dsimp only at C
  refine lcal 1 8 #[sT (s)] (some 47) _ (C) ?_
  rintro e0 w4 ⟨ct, rfl, ho1, hb2⟩
  refine ⟨_, rfl, ?_⟩
  replace BE : Hid (Below q w w4) := BE.out.trans (hb2.mono SQ.out)
  replace SQ : Hid (q ≤ w4.heap.size) := Nat.le_trans SQ.out hb2.size
  have Tt := Lib.hid ho1
  have Lt := Lib.hid ho1.len
  clear ho1 hb2 C
  refine lnow 2 (.tuple #[.agg ct.toArray, .int .i64 (p : Int), .int .i64 (c : Int)]) (some 45) ?_
  refine lnow 3 (.agg ct.toArray) (some 48) ?_
  refine lnow 4 (.int .i64 (p : Int)) (some 49) ?_
  refine lnow 5 (.int .i64 (c : Int)) (some 50) ?_
  obtain ⟨z1, hz1⟩ : ∃ y, Hid (w4.heap.size = y) := ⟨_, rfl⟩
  refine lin_alloc 6 33 z6R z1 (some 9) (by kernel_rfl) (by kernel_rfl) (by kernel_rfl) zeroRw hz1 ?_
  intro wa ba ea sa
  refine lput 7 33 (.tmp 9) (.tmp 48) z1 _ z6R ct ba (Lt.out.trans z6_len.symm) (rwSize Lt.out) (by simpa using Tt.out.one) ?_
  intro w5 bb ub
  have eb : Below w4.heap.size w4 w5 := by rw [hz1.out]; exact ub.below ea (Nat.le_refl _) (by have := ba.lt; omega)
  have Bz1 := Lib.hid bb
  replace BE : Hid (Below q w w5) := BE.out.trans (eb.mono SQ.out)
  replace SQ : Hid (q ≤ w5.heap.size) := Nat.le_trans SQ.out eb.size
  replace Tt := Lib.hid (RwAt.below Tt.out eb)
  clear ba ea sa bb ub eb hz1
  refine lnow 8 (.int .i64 (p : Int)) (some 10) ?_
  refine lnow 9 (.int .i64 (c : Int)) (some 11) ?_
  refine ldn 10 ?_
  generalize hact : Act.put _ (some 11) _ = act
  simp only [Act.put, sA, sC, sZ] at hact
  subst hact
  go_upto_region 9 with (fail)
  refine lbeg (opsOf Try.f3 9) ?_
  refine lnow 0 (.int .i64 (c : Int)) (some 51) ?_
  refine lnow 1 (.int .i64 (c : Int)) (some 52) ?_
  refine lnow 2 (.bool (decide ((c : Int) = (c : Int)))) (some 53) ?_
  rw [decide_eq_true (rfl)]
  refine lnow 3 (.bool true) (some 54) ?_
  refine lnow 4 (.int .i64 (c : Int)) (some 55) ?_
  refine lnow 5 (.int .i64 (c : Int)) (some 56) ?_
  refine lnow 6 (.bool (decide ((c : Int) = (c : Int)))) (some 57) ?_
  rw [decide_eq_true (rfl)]
  refine lnow 7 (.bool true) (some 58) ?_
  refine lnow 8 (.bool true) (some 2) ?_
  refine ldn 9 ?_
  generalize hact : Act.put _ (some 2) _ = act
  simp only [Act.put, sA, sC, sZ] at hact
  subst hact
  go_wp2
  go_ret
  exact ⟨rfl, BE.out⟩
 subst hc
 obtain ⟨rfl, -, hss⟩ := scanR_inv HSC.out
 have HB := blanks_srcs s (by have := hNl.out; have := N4.out; omega) HSC.out
 have SM : Hid (sumT ts ≤ 500000) := by have h9 := (scan_len3 hss).2; have := hNl.out; have := N4.out; rw [Hid]; omega
 have C := xjoin_walk _ ts w2 SX.out SM.out
 obtain ⟨JT, hJT⟩ : ∃ JT, Hid (joinB (textsOf ts) = JT) := ⟨_, rfl⟩
 rw [hJT.out] at C HB
 clear hJT hss HSC SM
 obtain ⟨⟨ds, p1, e1⟩, hR1⟩ : ∃ R, Hid (srcA s = R) := ⟨_, rfl⟩
 obtain ⟨⟨es, p2, e2⟩, hR2⟩ : ∃ R, Hid (srcA JT = R) := ⟨_, rfl⟩
 obtain ⟨⟨t1, p3, e3⟩, hR3⟩ : ∃ R, Hid (trmA s = R) := ⟨_, rfl⟩
 obtain ⟨⟨t2, p4, e4⟩, hR4⟩ : ∃ R, Hid (trmA ((40 : UInt8) :: (JT ++ [41])) = R) := ⟨trmA ((40 : UInt8) :: (JT ++ [41])), Lib.hid (Eq.refl (trmA ((40 : UInt8) :: (JT ++ [41]))))⟩
 rw [hR1.out, hR2.out, hR3.out, hR4.out] at HB
 dsimp only at HB
 obtain ⟨jl, hes, hee, htt⟩ := HB
 have hes2 := hes.symm
 have hee2 := hee.symm
 clear hes hee
 subst hes2
 subst hee2
 have JL := Lib.hid jl
 have HT := Lib.hid htt
 clear jl htt
 have ND : Hid (∀ d ∈ ds, NdD d) := by have h9 := srcA_nd s; rw [hR1.out] at h9; exact h9
 have NT : Hid (nodesR t1 ≤ 3000) := by have h9 := trmA_nd s; rw [hR3.out] at h9; exact h9
 have BIG0 : Hid (ds.length ≤ 65536) := by have h9 := srcA_len s; rw [hR1.out] at h9; exact h9
 obtain ⟨X, hX⟩ : ∃ X, Hid (ds.length = X) := ⟨_, rfl⟩
 have BIG : Hid (X ≤ 65536) := by rw [Hid, ← hX.out]; exact BIG0.out
 clear BIG0
 go_upto_region 6 with (fail)
 refine lbeg (opsOf Try.f3 6) ?_
 refine lnow 0 (.int .i64 0) (some 37) ?_
 refine lnow 1 (.bool false) (some 38) ?_
 refine ldn 2 ?_
 generalize hact : Act.put _ (some 38) _ = act
 simp only [Act.put, sA, sC, sZ] at hact
 subst hact
 go_upto_region 10 with (fail)
 refine lbeg (opsOf Try.f3 10) ?_
 refine lnow 0 (.slice va M vc) (some 59) ?_
 refine lcal 1 9 #[.slice va M vc] (some 60) _ (C) ?_
 rintro e0 w3 ⟨rfl, hb3⟩
 refine ⟨_, rfl, ?_⟩
 replace BE : Hid (Below q w w3) := BE.out.trans (hb3.mono SQ.out)
 replace SQ : Hid (q ≤ w3.heap.size) := Nat.le_trans SQ.out hb3.size
 clear hb3 C SX
 refine lnow 2 (sT JT) (some 12) ?_
 refine ldn 3 ?_
 generalize hact : Act.put _ (some 12) _ = act
 simp only [Act.put, sA, sC, sZ] at hact
 subst hact
 go_upto_region 11 with (fail)
 refine lbeg (opsOf Try.f3 11) ?_
 refine lnow 0 (sT s) (some 62) ?_
 have C := Source_any (s) w3
 rw [hR1.out] at C
 dsimp only at C
 refine lcal 1 7 #[sT (s)] (some 63) _ (C) ?_
 rintro e0 w4 ⟨v1, rfl, ho1, hb2⟩
 refine ⟨_, rfl, ?_⟩
 replace BE : Hid (Below q w w4) := BE.out.trans (hb2.mono SQ.out)
 replace SQ : Hid (q ≤ w4.heap.size) := Nat.le_trans SQ.out hb2.size
 have Sx := Lib.hid ho1
 obtain ⟨xa, xc, hv⟩ := ho1.slice
 subst hv
 rw [hX.out] at Sx ⊢
 clear ho1 hb2 C
 refine lnow 2 (.tuple #[.slice xa X xc, .int .i64 (p1 : Int), .int .i64 (e1 : Int)]) (some 61) ?_
 refine lnow 3 (.slice xa X xc) (some 64) ?_
 refine lnow 4 (.int .i64 (p1 : Int)) (some 65) ?_
 refine lnow 5 (.int .i64 (e1 : Int)) (some 66) ?_
 refine lnow 6 (.slice xa X xc) (some 13) ?_
 refine lnow 7 (.int .i64 (p1 : Int)) (some 14) ?_
 refine lnow 8 (.int .i64 (e1 : Int)) (some 15) ?_
 refine ldn 9 ?_
 generalize hact : Act.put _ (some 15) _ = act
 simp only [Act.put, sA, sC, sZ] at hact
 subst hact
 go_upto_region 12 with (fail)
 refine lbeg (opsOf Try.f3 12) ?_
 refine lnow 0 (sT JT) (some 68) ?_
 have C := Source_any (JT) w4
 rw [hR2.out] at C
 dsimp only at C
 refine lcal 1 7 #[sT (JT)] (some 69) _ (C) ?_
 rintro e0 w5 ⟨v1, rfl, ho1, hb2⟩
 refine ⟨_, rfl, ?_⟩
 replace BE : Hid (Below q w w5) := BE.out.trans (hb2.mono SQ.out)
 replace SQ : Hid (q ≤ w5.heap.size) := Nat.le_trans SQ.out hb2.size
 replace Sx := Lib.hid (SlG.below (dlG _) Sx.out hb2)
 have Sy := Lib.hid ho1
 obtain ⟨ya, yc, hv⟩ := ho1.slice
 subst hv
 rw [hX.out] at Sy ⊢
 clear ho1 hb2 C
 refine lnow 2 (.tuple #[.slice ya X yc, .int .i64 (p2 : Int), .int .i64 (e1 : Int)]) (some 67) ?_
 refine lnow 3 (.slice ya X yc) (some 70) ?_
 refine lnow 4 (.int .i64 (p2 : Int)) (some 71) ?_
 refine lnow 5 (.int .i64 (e1 : Int)) (some 72) ?_
 refine lnow 6 (.slice ya X yc) (some 16) ?_
 refine lnow 7 (.int .i64 (p2 : Int)) (some 17) ?_
 refine lnow 8 (.int .i64 (e1 : Int)) (some 18) ?_
 refine ldn 9 ?_
 generalize hact : Act.put _ (some 18) _ = act
 simp only [Act.put, sA, sC, sZ] at hact
 subst hact
 go_upto_region 13 with (fail)
 refine lbeg (opsOf Try.f3 13) ?_
 refine lnow 0 (sT s) (some 74) ?_
 have C := Term_any (s) w5
 rw [hR3.out] at C
 dsimp only at C
 refine lcal 1 8 #[sT (s)] (some 75) _ (C) ?_
 rintro e0 w6 ⟨ct, rfl, ho1, hb2⟩
 refine ⟨_, rfl, ?_⟩
 replace BE : Hid (Below q w w6) := BE.out.trans (hb2.mono SQ.out)
 replace SQ : Hid (q ≤ w6.heap.size) := Nat.le_trans SQ.out hb2.size
 replace Sx := Lib.hid (SlG.below (dlG _) Sx.out hb2)
 replace Sy := Lib.hid (SlG.below (dlG _) Sy.out hb2)
 have Tt := Lib.hid ho1
 have Lt := Lib.hid ho1.len
 clear ho1 hb2 C
 refine lnow 2 (.tuple #[.agg ct.toArray, .int .i64 (p3 : Int), .int .i64 (e3 : Int)]) (some 73) ?_
 refine lnow 3 (.agg ct.toArray) (some 76) ?_
 refine lnow 4 (.int .i64 (p3 : Int)) (some 77) ?_
 refine lnow 5 (.int .i64 (e3 : Int)) (some 78) ?_
 obtain ⟨z1, hz1⟩ : ∃ y, Hid (w6.heap.size = y) := ⟨_, rfl⟩
 refine lin_alloc 6 33 z6R z1 (some 19) (by kernel_rfl) (by kernel_rfl) (by kernel_rfl) zeroRw hz1 ?_
 intro wa ba ea sa
 refine lput 7 33 (.tmp 19) (.tmp 76) z1 _ z6R ct ba (Lt.out.trans z6_len.symm) (rwSize Lt.out) (by simpa using Tt.out.one) ?_
 intro w7 bb ub
 have eb : Below w6.heap.size w6 w7 := by rw [hz1.out]; exact ub.below ea (Nat.le_refl _) (by have := ba.lt; omega)
 have Bz1 := Lib.hid bb
 replace BE : Hid (Below q w w7) := BE.out.trans (eb.mono SQ.out)
 replace SQ : Hid (q ≤ w7.heap.size) := Nat.le_trans SQ.out eb.size
 replace Sx := Lib.hid (SlG.below (dlG _) Sx.out eb)
 replace Sy := Lib.hid (SlG.below (dlG _) Sy.out eb)
 replace Tt := Lib.hid (RwAt.below Tt.out eb)
 clear ba ea sa bb ub eb hz1
 refine lnow 8 (.int .i64 (p3 : Int)) (some 20) ?_
 refine lnow 9 (.int .i64 (e3 : Int)) (some 21) ?_
 refine ldn 10 ?_
 generalize hact : Act.put _ (some 21) _ = act
 simp only [Act.put, sA, sC, sZ] at hact
 subst hact
 go_upto_region 14 with (fail)
 refine lbeg (opsOf Try.f3 14) ?_
 refine lnow 0 (sT JT) (some 80) ?_
 refine lnowP 1 (sT ([40] ++ JT)) (some 81) (exec_sCat (.const (.string ⟨#[40]⟩)) (.tmp 80) 9 (by kernel_rfl) [40] JT (by kernel_rfl) (by kernel_rfl) (by decide) (by have := JL.out; omega)) ?_
 refine lnowP 2 (sT (([40] ++ JT) ++ [41])) (some 82) (exec_sCat (.tmp 81) (.const (.string ⟨#[41]⟩)) 9 (by kernel_rfl) ([40] ++ JT) [41] (by kernel_rfl) (by kernel_rfl) (by have := JL.out; simp; omega) (by decide)) ?_
 rw [show ([40] ++ JT) ++ [41] = 40 :: (JT ++ [41]) from rfl]
 have C := Term_any (40 :: (JT ++ [41])) w7
 rw [hR4.out] at C
 dsimp only at C
 refine lcal 3 8 #[sT (40 :: (JT ++ [41]))] (some 83) _ (C) ?_
 rintro e0 w8 ⟨cu, rfl, ho1, hb2⟩
 refine ⟨_, rfl, ?_⟩
 replace BE : Hid (Below q w w8) := BE.out.trans (hb2.mono SQ.out)
 replace SQ : Hid (q ≤ w8.heap.size) := Nat.le_trans SQ.out hb2.size
 replace Sx := Lib.hid (SlG.below (dlG _) Sx.out hb2)
 replace Sy := Lib.hid (SlG.below (dlG _) Sy.out hb2)
 replace Tt := Lib.hid (RwAt.below Tt.out hb2)
 replace Bz1 := Lib.hid (Bz1.out.below hb2 Bz1.out.lt)
 have Tu := Lib.hid ho1
 have Lu := Lib.hid ho1.len
 clear ho1 hb2 C
 refine lnow 4 (.tuple #[.agg cu.toArray, .int .i64 (p4 : Int), .int .i64 (e4 : Int)]) (some 79) ?_
 refine lnow 5 (.agg cu.toArray) (some 84) ?_
 refine lnow 6 (.int .i64 (p4 : Int)) (some 85) ?_
 refine lnow 7 (.int .i64 (e4 : Int)) (some 86) ?_
 obtain ⟨z2, hz2⟩ : ∃ y, Hid (w8.heap.size = y) := ⟨_, rfl⟩
 refine lin_alloc 8 33 z6R z2 (some 22) (by kernel_rfl) (by kernel_rfl) (by kernel_rfl) zeroRw hz2 ?_
 intro wa ba ea sa
 refine lput 9 33 (.tmp 22) (.tmp 84) z2 _ z6R cu ba (Lu.out.trans z6_len.symm) (rwSize Lu.out) (by simpa using Tu.out.one) ?_
 intro w9 bb ub
 have eb : Below w8.heap.size w8 w9 := by rw [hz2.out]; exact ub.below ea (Nat.le_refl _) (by have := ba.lt; omega)
 have Bz2 := Lib.hid bb
 replace BE : Hid (Below q w w9) := BE.out.trans (eb.mono SQ.out)
 replace SQ : Hid (q ≤ w9.heap.size) := Nat.le_trans SQ.out eb.size
 replace Sx := Lib.hid (SlG.below (dlG _) Sx.out eb)
 replace Sy := Lib.hid (SlG.below (dlG _) Sy.out eb)
 replace Tt := Lib.hid (RwAt.below Tt.out eb)
 replace Bz1 := Lib.hid (Bz1.out.below eb Bz1.out.lt)
 replace Tu := Lib.hid (RwAt.below Tu.out eb)
 clear ba ea sa bb ub eb hz2
 refine lnow 10 (.int .i64 (p4 : Int)) (some 23) ?_
 refine lnow 11 (.int .i64 (e4 : Int)) (some 24) ?_
 refine ldn 12 ?_
 generalize hact : Act.put _ (some 24) _ = act
 simp only [Act.put, sA, sC, sZ] at hact
 subst hact
 by_cases h3 : e3 = 0
 rotate_left
 ·skip
  go_upto_region 15 with (fail)
  refine lbeg (opsOf Try.f3 15) ?_
  refine lnow 0 (.int .i64 (e1 : Int)) (some 87) ?_
  refine lnow 1 (.int .i64 (e1 : Int)) (some 88) ?_
  refine lnow 2 (.bool (!decide ((e1 : Int) = (e1 : Int)))) (some 89) ?_
  rw [decide_eq_true (rfl)]
  rw [show (!true) = false from rfl]
  refine lnow 3 (.bool false) (some 90) ?_
  refine lnow 4 (.slice xa X xc) (some 91) ?_
  refine lnow 5 (.int .i64 (X : Int)) (some 92) ?_
  refine lnow 6 (.slice ya X yc) (some 93) ?_
  refine lnow 7 (.int .i64 (X : Int)) (some 94) ?_
  refine lnow 8 (.bool (!decide ((X : Int) = (X : Int)))) (some 95) ?_
  rw [decide_eq_true (rfl)]
  rw [show (!true) = false from rfl]
  refine lnow 9 (.bool false) (some 96) ?_
  refine lnow 10 (.bool false) (some 97) ?_
  refine lnow 11 (.int .i64 (e3 : Int)) (some 98) ?_
  refine lnow 12 (.bool (decide ((e3 : Int) = 0))) (some 99) ?_
  rw [decide_eq_false (by omega)]
  refine lnow 13 (.bool false) (some 100) ?_
  refine lpas 14 (some 101) ?_
  refine lpas 15 (some 102) ?_
  refine lpas 16 (some 103) ?_
  refine lpas 17 (some 104) ?_
  refine lpas 18 (some 105) ?_
  refine lpas 19 (some 106) ?_
  refine lpas 20 (some 107) ?_
  refine lpas 21 (some 108) ?_
  refine lnow 22 (.bool false) (some 109) ?_
  refine lnow 23 (.bool false) (some 110) ?_
  refine ldn 24 ?_
  generalize hact : Act.put _ (some 110) _ = act
  simp only [Act.put, sA, sC, sZ] at hact
  subst hact
  clear Tt Tu Lt Lu Bz1 Bz2 HT hR1 hR2 hR3 hR4
  go_upto_region 17 with (fail)
  refine lbeg (opsOf Try.f3 17) ?_
  refine lnow 0 (.int .i64 0) (some 25) ?_
  refine ldn 1 ?_
  generalize hact : Act.put _ (some 25) _ = act
  simp only [Act.put, sA, sC, sZ] at hact
  subst hact
  have XB : Hid (Hid (ds.length = X)) := hX
  go_wp2
  go_loopw [25] (fun kv wr => ∃ k : Nat, k ≤ X ∧ kv = .int .i64 (k : Int) ∧ Hid (Below w9.heap.size w9 wr)) (fun kv _ => X - (intOf kv).toNat)
  case atStart => exact ⟨0, Nat.zero_le _, rfl, Below.refl _ _⟩
  case round =>
   obtain ⟨k, hk, rfl, BR⟩ := hrel
   by_cases hlt : (k : Int) < (X : Int)
   rotate_left
   ·skip
    go_upto_region 18 with (fail)
    refine lbeg (opsOf Try.f3 18) ?_
    refine lnow 0 (.int .i64 (k : Int)) (some 111) ?_
    refine lnow 1 (.slice xa X xc) (some 112) ?_
    refine lnow 2 (.int .i64 (X : Int)) (some 113) ?_
    refine lnow 3 (.bool (decide ((k : Int) < (X : Int)))) (some 114) ?_
    rw [decide_eq_false (hlt)]
    refine ldn 4 ?_
    generalize hact : Act.put _ (some 114) _ = act
    simp only [Act.put, sA, sC, sZ] at hact
    subst hact
    go_upto_region 22 with (fail)
    refine lbeg (opsOf Try.f3 22) ?_
    refine lnow 0 (.bool true) (some 2) ?_
    refine ldn 1 ?_
    generalize hact : Act.put _ (some 2) _ = act
    simp only [Act.put, sA, sC, sZ] at hact
    subst hact
    have FIN : Hid (Below q w wr) := BE.out.trans (BR.out.mono SQ.out)
    go_wp2
    go_ret
    exact ⟨rfl, FIN.out⟩
   go_upto_region 18 with (fail)
   refine lbeg (opsOf Try.f3 18) ?_
   refine lnow 0 (.int .i64 (k : Int)) (some 111) ?_
   refine lnow 1 (.slice xa X xc) (some 112) ?_
   refine lnow 2 (.int .i64 (X : Int)) (some 113) ?_
   refine lnow 3 (.bool (decide ((k : Int) < (X : Int)))) (some 114) ?_
   rw [decide_eq_true (hlt)]
   refine ldn 4 ?_
   generalize hact : Act.put _ (some 114) _ = act
   simp only [Act.put, sA, sC, sZ] at hact
   subst hact
   obtain ⟨d, hd⟩ : ∃ d, Hid (ds[k]? = some d) := ⟨_, List.getElem?_eq_getElem (by rw [hX.out]; omega)⟩
   have nd := ND.out d (List.mem_of_getElem? hd.out)
   have N1 := Lib.hid nd.1
   have N2 := Lib.hid nd.2
   clear nd
   obtain ⟨g1, u1, k1, tc1, vc1, ca1, cc1, hv1, hl, h0, h4, h5, h5t, h11, h11t, h17⟩ := dl_facts (SlG.below (dlG _) Sx.out BR.out) hd.out
   rw [hX.out] at hv1
   obtain ⟨rfl, -, rfl⟩ := Value.slice.inj hv1
   have GL1 := Lib.hid hl
   have P01 := Lib.hid h0
   have P41 := Lib.hid h4
   have P51 := Lib.hid h5
   have P61 := Lib.hid h11
   have P71 := Lib.hid h17
   have A51 := Lib.hid h5t
   have A61 := Lib.hid h11t
   have L51 := Lib.hid h5t.len
   have L61 := Lib.hid h11t.len
   clear hv1 hl h0 h4 h5 h5t h11 h11t h17
   obtain ⟨g2, u2, k2, tc2, vc2, ca2, cc2, hv1, hl, h0, h4, h5, h5t, h11, h11t, h17⟩ := dl_facts (SlG.below (dlG _) Sy.out BR.out) hd.out
   rw [hX.out] at hv1
   obtain ⟨rfl, -, rfl⟩ := Value.slice.inj hv1
   have GL2 := Lib.hid hl
   have P02 := Lib.hid h0
   have P42 := Lib.hid h4
   have P52 := Lib.hid h5
   have P62 := Lib.hid h11
   have P72 := Lib.hid h17
   have A52 := Lib.hid h5t
   have A62 := Lib.hid h11t
   have L52 := Lib.hid h5t.len
   have L62 := Lib.hid h11t.len
   clear hv1 hl h0 h4 h5 h5t h11 h11t h17
   go_upto_region 20 with (fail)
   refine region_begin (opsOf Try.f3 20) (fun w' => Below wr.heap.size wr w') (by kernel_rfl) (by kernel_rfl) 67 (by kernel_rfl) ?_
   intro Q' hQN hN
   have HS : Below wr.heap.size wr (World.drew wr) := (Below.refl _ _).drew
   refine reg_now 0 (.slice (some ⟨g1, u1, none⟩) X xc) (some 117) hQN HS (by kernel_rfl) (by kernel_rfl) (fun w => by kernel_rfl) ?_
   refine reg_now 1 (.int .i64 (k : Int)) (some 118) hQN HS (by kernel_rfl) (by kernel_rfl) (fun w => by kernel_rfl) ?_
   refine reg_now 2 (.pointer (some ⟨g1, u1 + 18 * k, none⟩)) (some 119) hQN HS (by kernel_rfl) (by kernel_rfl) (fun w' => exec_indexAt 27 (.tmp 117) (.tmp 118) (by kernel_rfl) _ _ _ (by kernel_rfl) (by kernel_rfl) (run_at_dl g1 u1 X xc k (by omega) _)) ?_
   refine reg_now 3 (.pointer (some ⟨g1, u1 + 18 * k, none⟩)) (some 120) hQN HS (by kernel_rfl) (by kernel_rfl) (fun w => by kernel_rfl) ?_
   refine reg_nowIf 4 (.int .i64 (d.kind : Int)) (some 121) hQN HS (by kernel_rfl) (by kernel_rfl) (fun w' hw => exec_load_cell 3 (.tmp 120) (by kernel_rfl) g1 (u1 + 18 * k) (by kernel_rfl) _ (cell_low P01.out GL1.out hw) _ Try.underlying3 rfl) ?_
   refine reg_now 5 (.slice (some ⟨g2, u2, none⟩) X yc) (some 122) hQN HS (by kernel_rfl) (by kernel_rfl) (fun w => by kernel_rfl) ?_
   refine reg_now 6 (.int .i64 (k : Int)) (some 123) hQN HS (by kernel_rfl) (by kernel_rfl) (fun w => by kernel_rfl) ?_
   refine reg_now 7 (.pointer (some ⟨g2, u2 + 18 * k, none⟩)) (some 124) hQN HS (by kernel_rfl) (by kernel_rfl) (fun w' => exec_indexAt 27 (.tmp 122) (.tmp 123) (by kernel_rfl) _ _ _ (by kernel_rfl) (by kernel_rfl) (run_at_dl g2 u2 X yc k (by omega) _)) ?_
   refine reg_now 8 (.pointer (some ⟨g2, u2 + 18 * k, none⟩)) (some 125) hQN HS (by kernel_rfl) (by kernel_rfl) (fun w => by kernel_rfl) ?_
   refine reg_nowIf 9 (.int .i64 (d.kind : Int)) (some 126) hQN HS (by kernel_rfl) (by kernel_rfl) (fun w' hw => exec_load_cell 3 (.tmp 125) (by kernel_rfl) g2 (u2 + 18 * k) (by kernel_rfl) _ (cell_low P02.out GL2.out hw) _ Try.underlying3 rfl) ?_
   refine reg_now 10 (.bool (!decide ((d.kind : Int) = (d.kind : Int)))) (some 127) hQN HS (by kernel_rfl) (by kernel_rfl) (fun w => by kernel_rfl) ?_
   rw [decide_eq_true (rfl)]
   rw [show (!true) = false from rfl]
   refine reg_now 11 (.bool false) (some 128) hQN HS (by kernel_rfl) (by kernel_rfl) (fun w => by kernel_rfl) ?_
   refine reg_now 12 (.slice (some ⟨g1, u1, none⟩) X xc) (some 129) hQN HS (by kernel_rfl) (by kernel_rfl) (fun w => by kernel_rfl) ?_
   refine reg_now 13 (.int .i64 (k : Int)) (some 130) hQN HS (by kernel_rfl) (by kernel_rfl) (fun w => by kernel_rfl) ?_
   refine reg_now 14 (.pointer (some ⟨g1, u1 + 18 * k, none⟩)) (some 131) hQN HS (by kernel_rfl) (by kernel_rfl) (fun w' => exec_indexAt 27 (.tmp 129) (.tmp 130) (by kernel_rfl) _ _ _ (by kernel_rfl) (by kernel_rfl) (run_at_dl g1 u1 X xc k (by omega) _)) ?_
   refine reg_now 15 (.pointer (some ⟨g1, u1 + 18 * k + 4, none⟩)) (some 132) hQN HS (by kernel_rfl) (by kernel_rfl) (fun w => by kernel_rfl) ?_
   refine reg_nowIf 16 (sT (d.name)) (some 133) hQN HS (by kernel_rfl) (by kernel_rfl) (fun w' hw => exec_load_cell 9 (.tmp 132) (by kernel_rfl) g1 (u1 + 18 * k + 4) (by kernel_rfl) _ (cell_low P41.out GL1.out hw) _ Try.underlying9 rfl) ?_
   refine reg_now 17 (.slice (some ⟨g2, u2, none⟩) X yc) (some 134) hQN HS (by kernel_rfl) (by kernel_rfl) (fun w => by kernel_rfl) ?_
   refine reg_now 18 (.int .i64 (k : Int)) (some 135) hQN HS (by kernel_rfl) (by kernel_rfl) (fun w => by kernel_rfl) ?_
   refine reg_now 19 (.pointer (some ⟨g2, u2 + 18 * k, none⟩)) (some 136) hQN HS (by kernel_rfl) (by kernel_rfl) (fun w' => exec_indexAt 27 (.tmp 134) (.tmp 135) (by kernel_rfl) _ _ _ (by kernel_rfl) (by kernel_rfl) (run_at_dl g2 u2 X yc k (by omega) _)) ?_
   refine reg_now 20 (.pointer (some ⟨g2, u2 + 18 * k + 4, none⟩)) (some 137) hQN HS (by kernel_rfl) (by kernel_rfl) (fun w => by kernel_rfl) ?_
   refine reg_nowIf 21 (sT (d.name)) (some 138) hQN HS (by kernel_rfl) (by kernel_rfl) (fun w' hw => exec_load_cell 9 (.tmp 137) (by kernel_rfl) g2 (u2 + 18 * k + 4) (by kernel_rfl) _ (cell_low P42.out GL2.out hw) _ Try.underlying9 rfl) ?_
   refine reg_now 22 (.bool (!decide (d.name = d.name))) (some 139) hQN HS (by kernel_rfl) (by kernel_rfl) (fun w' => exec_sNe 9 9 (.tmp 133) (.tmp 138) (by kernel_rfl) (d.name) (d.name) (by kernel_rfl) (by kernel_rfl) (fun _ => rfl)) ?_
   rw [decide_eq_true rfl]
   rw [show (!true) = false from rfl]
   refine reg_now 23 (.bool false) (some 140) hQN HS (by kernel_rfl) (by kernel_rfl) (fun w => by kernel_rfl) ?_
   refine reg_now 24 (.bool false) (some 141) hQN HS (by kernel_rfl) (by kernel_rfl) (fun w => by kernel_rfl) ?_
   refine reg_now 25 (.slice (some ⟨g1, u1, none⟩) X xc) (some 142) hQN HS (by kernel_rfl) (by kernel_rfl) (fun w => by kernel_rfl) ?_
   refine reg_now 26 (.int .i64 (k : Int)) (some 143) hQN HS (by kernel_rfl) (by kernel_rfl) (fun w => by kernel_rfl) ?_
   refine reg_now 27 (.pointer (some ⟨g1, u1 + 18 * k, none⟩)) (some 144) hQN HS (by kernel_rfl) (by kernel_rfl) (fun w' => exec_indexAt 27 (.tmp 142) (.tmp 143) (by kernel_rfl) _ _ _ (by kernel_rfl) (by kernel_rfl) (run_at_dl g1 u1 X xc k (by omega) _)) ?_
   refine reg_now 28 (.pointer (some ⟨g1, u1 + 18 * k + 5, none⟩)) (some 145) hQN HS (by kernel_rfl) (by kernel_rfl) (fun w => by kernel_rfl) ?_
   refine reg_nowIf 29 (.agg tc1.toArray) (some 146) hQN HS (by kernel_rfl) (by kernel_rfl) (fun w' hw => exec_load_mid 33 (.tmp 145) (by kernel_rfl) g1 (u1 + 18 * k + 5) (by kernel_rfl) tc1 _ (rng_low P51.out hw GL1.out) Try.underlying33 rfl (rwSize L51.out)) ?_
   refine reg_now 30 (.slice (some ⟨g2, u2, none⟩) X yc) (some 147) hQN HS (by kernel_rfl) (by kernel_rfl) (fun w => by kernel_rfl) ?_
   refine reg_now 31 (.int .i64 (k : Int)) (some 148) hQN HS (by kernel_rfl) (by kernel_rfl) (fun w => by kernel_rfl) ?_
   refine reg_now 32 (.pointer (some ⟨g2, u2 + 18 * k, none⟩)) (some 149) hQN HS (by kernel_rfl) (by kernel_rfl) (fun w' => exec_indexAt 27 (.tmp 147) (.tmp 148) (by kernel_rfl) _ _ _ (by kernel_rfl) (by kernel_rfl) (run_at_dl g2 u2 X yc k (by omega) _)) ?_
   refine reg_now 33 (.pointer (some ⟨g2, u2 + 18 * k + 5, none⟩)) (some 150) hQN HS (by kernel_rfl) (by kernel_rfl) (fun w => by kernel_rfl) ?_
   refine reg_nowIf 34 (.agg tc2.toArray) (some 151) hQN HS (by kernel_rfl) (by kernel_rfl) (fun w' hw => exec_load_mid 33 (.tmp 150) (by kernel_rfl) g2 (u2 + 18 * k + 5) (by kernel_rfl) tc2 _ (rng_low P52.out hw GL2.out) Try.underlying33 rfl (rwSize L52.out)) ?_
   have C := alike_walk (lookK s) (lookK JT) 0 d.ty [] [] tc1 tc2 (World.drew wr) (RwAt.below A51.out HS) (by rw [shR_zero]; exact RwAt.below A52.out HS) (by have := N1.out; omega)
   refine reg_call 35 10 #[.agg tc1.toArray, .agg tc2.toArray] (some 152) _ (by kernel_rfl) (by kernel_rfl) (by kernel_rfl) (C) ?_
   rintro e wc ⟨rfl, hb5⟩
   have Hwc : Below wr.heap.size wr wc := HS.trans (hb5.mono HS.size)
   refine ⟨_, rfl, Hwc, ?_⟩
   clear hb5 C
   refine reg_now 36 (.bool false) (some 153) hQN Hwc (by kernel_rfl) (by kernel_rfl) (fun w => by kernel_rfl) ?_
   refine reg_now 37 (.bool false) (some 154) hQN Hwc (by kernel_rfl) (by kernel_rfl) (fun w => by kernel_rfl) ?_
   refine reg_now 38 (.bool false) (some 155) hQN Hwc (by kernel_rfl) (by kernel_rfl) (fun w => by kernel_rfl) ?_
   refine reg_now 39 (.slice (some ⟨g1, u1, none⟩) X xc) (some 156) hQN Hwc (by kernel_rfl) (by kernel_rfl) (fun w => by kernel_rfl) ?_
   refine reg_now 40 (.int .i64 (k : Int)) (some 157) hQN Hwc (by kernel_rfl) (by kernel_rfl) (fun w => by kernel_rfl) ?_
   refine reg_now 41 (.pointer (some ⟨g1, u1 + 18 * k, none⟩)) (some 158) hQN Hwc (by kernel_rfl) (by kernel_rfl) (fun w' => exec_indexAt 27 (.tmp 156) (.tmp 157) (by kernel_rfl) _ _ _ (by kernel_rfl) (by kernel_rfl) (run_at_dl g1 u1 X xc k (by omega) _)) ?_
   refine reg_now 42 (.pointer (some ⟨g1, u1 + 18 * k + 11, none⟩)) (some 159) hQN Hwc (by kernel_rfl) (by kernel_rfl) (fun w => by kernel_rfl) ?_
   refine reg_nowIf 43 (.agg vc1.toArray) (some 160) hQN Hwc (by kernel_rfl) (by kernel_rfl) (fun w' hw => exec_load_mid 33 (.tmp 159) (by kernel_rfl) g1 (u1 + 18 * k + 11) (by kernel_rfl) vc1 _ (rng_low P61.out hw GL1.out) Try.underlying33 rfl (rwSize L61.out)) ?_
   refine reg_now 44 (.slice (some ⟨g2, u2, none⟩) X yc) (some 161) hQN Hwc (by kernel_rfl) (by kernel_rfl) (fun w => by kernel_rfl) ?_
   refine reg_now 45 (.int .i64 (k : Int)) (some 162) hQN Hwc (by kernel_rfl) (by kernel_rfl) (fun w => by kernel_rfl) ?_
   refine reg_now 46 (.pointer (some ⟨g2, u2 + 18 * k, none⟩)) (some 163) hQN Hwc (by kernel_rfl) (by kernel_rfl) (fun w' => exec_indexAt 27 (.tmp 161) (.tmp 162) (by kernel_rfl) _ _ _ (by kernel_rfl) (by kernel_rfl) (run_at_dl g2 u2 X yc k (by omega) _)) ?_
   refine reg_now 47 (.pointer (some ⟨g2, u2 + 18 * k + 11, none⟩)) (some 164) hQN Hwc (by kernel_rfl) (by kernel_rfl) (fun w => by kernel_rfl) ?_
   refine reg_nowIf 48 (.agg vc2.toArray) (some 165) hQN Hwc (by kernel_rfl) (by kernel_rfl) (fun w' hw => exec_load_mid 33 (.tmp 164) (by kernel_rfl) g2 (u2 + 18 * k + 11) (by kernel_rfl) vc2 _ (rng_low P62.out hw GL2.out) Try.underlying33 rfl (rwSize L62.out)) ?_
   have C := alike_walk (lookK s) (lookK JT) 0 d.val [] [] vc1 vc2 wc (RwAt.below A61.out Hwc) (by rw [shR_zero]; exact RwAt.below A62.out Hwc) (by have := N2.out; omega)
   refine reg_call 49 10 #[.agg vc1.toArray, .agg vc2.toArray] (some 166) _ (by kernel_rfl) (by kernel_rfl) (by kernel_rfl) (C) ?_
   rintro e wd ⟨rfl, hb5⟩
   have Hwd : Below wr.heap.size wr wd := Hwc.trans (hb5.mono Hwc.size)
   refine ⟨_, rfl, Hwd, ?_⟩
   clear hb5 C
   refine reg_now 50 (.bool false) (some 167) hQN Hwd (by kernel_rfl) (by kernel_rfl) (fun w => by kernel_rfl) ?_
   refine reg_now 51 (.bool false) (some 168) hQN Hwd (by kernel_rfl) (by kernel_rfl) (fun w => by kernel_rfl) ?_
   refine reg_now 52 (.bool false) (some 169) hQN Hwd (by kernel_rfl) (by kernel_rfl) (fun w => by kernel_rfl) ?_
   refine reg_now 53 (.slice (some ⟨g1, u1, none⟩) X xc) (some 170) hQN Hwd (by kernel_rfl) (by kernel_rfl) (fun w => by kernel_rfl) ?_
   refine reg_now 54 (.int .i64 (k : Int)) (some 171) hQN Hwd (by kernel_rfl) (by kernel_rfl) (fun w => by kernel_rfl) ?_
   refine reg_now 55 (.pointer (some ⟨g1, u1 + 18 * k, none⟩)) (some 172) hQN Hwd (by kernel_rfl) (by kernel_rfl) (fun w' => exec_indexAt 27 (.tmp 170) (.tmp 171) (by kernel_rfl) _ _ _ (by kernel_rfl) (by kernel_rfl) (run_at_dl g1 u1 X xc k (by omega) _)) ?_
   refine reg_now 56 (.pointer (some ⟨g1, u1 + 18 * k + 17, none⟩)) (some 173) hQN Hwd (by kernel_rfl) (by kernel_rfl) (fun w => by kernel_rfl) ?_
   refine reg_nowIf 57 (.slice ca1 d.ctors.length cc1) (some 174) hQN Hwd (by kernel_rfl) (by kernel_rfl) (fun w' hw => exec_load_cell 38 (.tmp 173) (by kernel_rfl) g1 (u1 + 18 * k + 17) (by kernel_rfl) _ (cell_low P71.out GL1.out hw) _ Try.underlying38 rfl) ?_
   refine reg_now 58 (.int .i64 (d.ctors.length : Int)) (some 175) hQN Hwd (by kernel_rfl) (by kernel_rfl) (fun w => by kernel_rfl) ?_
   refine reg_now 59 (.slice (some ⟨g2, u2, none⟩) X yc) (some 176) hQN Hwd (by kernel_rfl) (by kernel_rfl) (fun w => by kernel_rfl) ?_
   refine reg_now 60 (.int .i64 (k : Int)) (some 177) hQN Hwd (by kernel_rfl) (by kernel_rfl) (fun w => by kernel_rfl) ?_
   refine reg_now 61 (.pointer (some ⟨g2, u2 + 18 * k, none⟩)) (some 178) hQN Hwd (by kernel_rfl) (by kernel_rfl) (fun w' => exec_indexAt 27 (.tmp 176) (.tmp 177) (by kernel_rfl) _ _ _ (by kernel_rfl) (by kernel_rfl) (run_at_dl g2 u2 X yc k (by omega) _)) ?_
   refine reg_now 62 (.pointer (some ⟨g2, u2 + 18 * k + 17, none⟩)) (some 179) hQN Hwd (by kernel_rfl) (by kernel_rfl) (fun w => by kernel_rfl) ?_
   refine reg_nowIf 63 (.slice ca2 d.ctors.length cc2) (some 180) hQN Hwd (by kernel_rfl) (by kernel_rfl) (fun w' hw => exec_load_cell 38 (.tmp 179) (by kernel_rfl) g2 (u2 + 18 * k + 17) (by kernel_rfl) _ (cell_low P72.out GL2.out hw) _ Try.underlying38 rfl) ?_
   refine reg_now 64 (.int .i64 (d.ctors.length : Int)) (some 181) hQN Hwd (by kernel_rfl) (by kernel_rfl) (fun w => by kernel_rfl) ?_
   refine reg_now 65 (.bool (!decide ((d.ctors.length : Int) = (d.ctors.length : Int)))) (some 182) hQN Hwd (by kernel_rfl) (by kernel_rfl) (fun w => by kernel_rfl) ?_
   rw [decide_eq_true (rfl)]
   rw [show (!true) = false from rfl]
   refine reg_now 66 (.bool false) (some 183) hQN Hwd (by kernel_rfl) (by kernel_rfl) (fun w => by kernel_rfl) ?_
   refine reg_done (by kernel_rfl) (hN _ _ ?_)
   generalize hact : Act.put _ (some 183) _ = act
   simp only [Act.put, sA, sC, sZ] at hact
   subst hact
   have BR5 : Hid (Below w9.heap.size w9 wd) := BR.out.trans (Hwd.mono BR.out.size)
   clear hQN hN HS Hwc Hwd BR GL1 P01 P41 P51 P61 P71 A51 A61 L51 L61 GL2 P02 P42 P52 P62 P72 A52 A62 L52 L62
   have XS : Hid (X ≤ 65536) := BIG.out
   have xs := XS.out
   go_upto_region 19 with (fail)
   refine lbeg (opsOf Try.f3 19) ?_
   refine lnow 0 (.int .i64 (k : Int)) (some 115) ?_
   refine lnow 1 (.int .i64 (IntKind.i64.wrap ((k : Int) + 1))) (some 116) ?_
   rw [show IntKind.i64.wrap ((k : Int) + 1) = ((k + 1 : Nat) : Int) from (IntWalk.i64_in _ (by omega)).trans (by omega)]
   refine lnow 2 (.int .i64 ((k + 1 : Nat) : Int)) (some 25) ?_
   refine ldn 3 ?_
   generalize hact : Act.put _ (some 25) _ = act
   simp only [Act.put, sA, sC, sZ] at hact
   subst hact
   go_wp2
   go_roundw
   case rel => exact ⟨k + 1, by omega, by go_num, BR5⟩
   case measure => simp [intOf]; omega
 subst h3
 obtain ⟨h4, h5⟩ := HT.out rfl
 subst h4
 subst h5
 go_upto_region 15 with (fail)
 refine lbeg (opsOf Try.f3 15) ?_
 refine lnow 0 (.int .i64 (e1 : Int)) (some 87) ?_
 refine lnow 1 (.int .i64 (e1 : Int)) (some 88) ?_
 refine lnow 2 (.bool (!decide ((e1 : Int) = (e1 : Int)))) (some 89) ?_
 rw [decide_eq_true (rfl)]
 rw [show (!true) = false from rfl]
 refine lnow 3 (.bool false) (some 90) ?_
 refine lnow 4 (.slice xa X xc) (some 91) ?_
 refine lnow 5 (.int .i64 (X : Int)) (some 92) ?_
 refine lnow 6 (.slice ya X yc) (some 93) ?_
 refine lnow 7 (.int .i64 (X : Int)) (some 94) ?_
 refine lnow 8 (.bool (!decide ((X : Int) = (X : Int)))) (some 95) ?_
 rw [decide_eq_true (rfl)]
 rw [show (!true) = false from rfl]
 refine lnow 9 (.bool false) (some 96) ?_
 refine lnow 10 (.bool false) (some 97) ?_
 refine lnow 11 (.int .i64 0) (some 98) ?_
 refine lnow 12 (.bool true) (some 99) ?_
 refine lnow 13 (.bool true) (some 100) ?_
 refine lnow 14 (.int .i64 0) (some 101) ?_
 refine lnow 15 (.bool false) (some 102) ?_
 refine lnow 16 (.bool false) (some 103) ?_
 refine lrl 17 ct (some 104) 33 19 z1 0 Bz1.out.whole Try.underlying33 (rwSize Lt.out) ?_
 refine lrl 18 cu (some 105) 33 22 z2 0 Bz2.out.whole Try.underlying33 (rwSize Lu.out) ?_
 have C := alike_walk (lookK s) (lookK (40 :: (JT ++ [41]))) 1 t1 [] [] ct cu w9 Tt.out Tu.out (by have := NT.out; omega)
 refine lcal 19 10 #[.agg ct.toArray, .agg cu.toArray] (some 106) _ (C) ?_
 rintro e w10 ⟨rfl, hb2⟩
 refine ⟨_, rfl, ?_⟩
 replace BE : Hid (Below q w w10) := BE.out.trans (hb2.mono SQ.out)
 replace SQ : Hid (q ≤ w10.heap.size) := Nat.le_trans SQ.out hb2.size
 replace Sx := Lib.hid (SlG.below (dlG _) Sx.out hb2)
 replace Sy := Lib.hid (SlG.below (dlG _) Sy.out hb2)
 clear hb2 C
 refine lnow 20 (.bool false) (some 107) ?_
 refine lnow 21 (.bool false) (some 108) ?_
 refine lnow 22 (.bool false) (some 109) ?_
 refine lnow 23 (.bool false) (some 110) ?_
 refine ldn 24 ?_
 generalize hact : Act.put _ (some 110) _ = act
 simp only [Act.put, sA, sC, sZ] at hact
 subst hact
 clear Tt Tu Lt Lu Bz1 Bz2 HT hR1 hR2 hR3 hR4
 go_upto_region 17 with (fail)
 refine lbeg (opsOf Try.f3 17) ?_
 refine lnow 0 (.int .i64 0) (some 25) ?_
 refine ldn 1 ?_
 generalize hact : Act.put _ (some 25) _ = act
 simp only [Act.put, sA, sC, sZ] at hact
 subst hact
 have XB : Hid (Hid (ds.length = X)) := hX
 go_wp2
 go_loopw [25] (fun kv wr => ∃ k : Nat, k ≤ X ∧ kv = .int .i64 (k : Int) ∧ Hid (Below w10.heap.size w10 wr)) (fun kv _ => X - (intOf kv).toNat)
 case atStart => exact ⟨0, Nat.zero_le _, rfl, Below.refl _ _⟩
 case round =>
  obtain ⟨k, hk, rfl, BR⟩ := hrel
  by_cases hlt : (k : Int) < (X : Int)
  rotate_left
  ·skip
   go_upto_region 18 with (fail)
   refine lbeg (opsOf Try.f3 18) ?_
   refine lnow 0 (.int .i64 (k : Int)) (some 111) ?_
   refine lnow 1 (.slice xa X xc) (some 112) ?_
   refine lnow 2 (.int .i64 (X : Int)) (some 113) ?_
   refine lnow 3 (.bool (decide ((k : Int) < (X : Int)))) (some 114) ?_
   rw [decide_eq_false (hlt)]
   refine ldn 4 ?_
   generalize hact : Act.put _ (some 114) _ = act
   simp only [Act.put, sA, sC, sZ] at hact
   subst hact
   go_upto_region 22 with (fail)
   refine lbeg (opsOf Try.f3 22) ?_
   refine lnow 0 (.bool true) (some 2) ?_
   refine ldn 1 ?_
   generalize hact : Act.put _ (some 2) _ = act
   simp only [Act.put, sA, sC, sZ] at hact
   subst hact
   have FIN : Hid (Below q w wr) := BE.out.trans (BR.out.mono SQ.out)
   go_wp2
   go_ret
   exact ⟨rfl, FIN.out⟩
  go_upto_region 18 with (fail)
  refine lbeg (opsOf Try.f3 18) ?_
  refine lnow 0 (.int .i64 (k : Int)) (some 111) ?_
  refine lnow 1 (.slice xa X xc) (some 112) ?_
  refine lnow 2 (.int .i64 (X : Int)) (some 113) ?_
  refine lnow 3 (.bool (decide ((k : Int) < (X : Int)))) (some 114) ?_
  rw [decide_eq_true (hlt)]
  refine ldn 4 ?_
  generalize hact : Act.put _ (some 114) _ = act
  simp only [Act.put, sA, sC, sZ] at hact
  subst hact
  obtain ⟨d, hd⟩ : ∃ d, Hid (ds[k]? = some d) := ⟨_, List.getElem?_eq_getElem (by rw [hX.out]; omega)⟩
  have nd := ND.out d (List.mem_of_getElem? hd.out)
  have N1 := Lib.hid nd.1
  have N2 := Lib.hid nd.2
  clear nd
  obtain ⟨g1, u1, k1, tc1, vc1, ca1, cc1, hv1, hl, h0, h4, h5, h5t, h11, h11t, h17⟩ := dl_facts (SlG.below (dlG _) Sx.out BR.out) hd.out
  rw [hX.out] at hv1
  obtain ⟨rfl, -, rfl⟩ := Value.slice.inj hv1
  have GL1 := Lib.hid hl
  have P01 := Lib.hid h0
  have P41 := Lib.hid h4
  have P51 := Lib.hid h5
  have P61 := Lib.hid h11
  have P71 := Lib.hid h17
  have A51 := Lib.hid h5t
  have A61 := Lib.hid h11t
  have L51 := Lib.hid h5t.len
  have L61 := Lib.hid h11t.len
  clear hv1 hl h0 h4 h5 h5t h11 h11t h17
  obtain ⟨g2, u2, k2, tc2, vc2, ca2, cc2, hv1, hl, h0, h4, h5, h5t, h11, h11t, h17⟩ := dl_facts (SlG.below (dlG _) Sy.out BR.out) hd.out
  rw [hX.out] at hv1
  obtain ⟨rfl, -, rfl⟩ := Value.slice.inj hv1
  have GL2 := Lib.hid hl
  have P02 := Lib.hid h0
  have P42 := Lib.hid h4
  have P52 := Lib.hid h5
  have P62 := Lib.hid h11
  have P72 := Lib.hid h17
  have A52 := Lib.hid h5t
  have A62 := Lib.hid h11t
  have L52 := Lib.hid h5t.len
  have L62 := Lib.hid h11t.len
  clear hv1 hl h0 h4 h5 h5t h11 h11t h17
  go_upto_region 20 with (fail)
  refine region_begin (opsOf Try.f3 20) (fun w' => Below wr.heap.size wr w') (by kernel_rfl) (by kernel_rfl) 67 (by kernel_rfl) ?_
  intro Q' hQN hN
  have HS : Below wr.heap.size wr (World.drew wr) := (Below.refl _ _).drew
  refine reg_now 0 (.slice (some ⟨g1, u1, none⟩) X xc) (some 117) hQN HS (by kernel_rfl) (by kernel_rfl) (fun w => by kernel_rfl) ?_
  refine reg_now 1 (.int .i64 (k : Int)) (some 118) hQN HS (by kernel_rfl) (by kernel_rfl) (fun w => by kernel_rfl) ?_
  refine reg_now 2 (.pointer (some ⟨g1, u1 + 18 * k, none⟩)) (some 119) hQN HS (by kernel_rfl) (by kernel_rfl) (fun w' => exec_indexAt 27 (.tmp 117) (.tmp 118) (by kernel_rfl) _ _ _ (by kernel_rfl) (by kernel_rfl) (run_at_dl g1 u1 X xc k (by omega) _)) ?_
  refine reg_now 3 (.pointer (some ⟨g1, u1 + 18 * k, none⟩)) (some 120) hQN HS (by kernel_rfl) (by kernel_rfl) (fun w => by kernel_rfl) ?_
  refine reg_nowIf 4 (.int .i64 (d.kind : Int)) (some 121) hQN HS (by kernel_rfl) (by kernel_rfl) (fun w' hw => exec_load_cell 3 (.tmp 120) (by kernel_rfl) g1 (u1 + 18 * k) (by kernel_rfl) _ (cell_low P01.out GL1.out hw) _ Try.underlying3 rfl) ?_
  refine reg_now 5 (.slice (some ⟨g2, u2, none⟩) X yc) (some 122) hQN HS (by kernel_rfl) (by kernel_rfl) (fun w => by kernel_rfl) ?_
  refine reg_now 6 (.int .i64 (k : Int)) (some 123) hQN HS (by kernel_rfl) (by kernel_rfl) (fun w => by kernel_rfl) ?_
  refine reg_now 7 (.pointer (some ⟨g2, u2 + 18 * k, none⟩)) (some 124) hQN HS (by kernel_rfl) (by kernel_rfl) (fun w' => exec_indexAt 27 (.tmp 122) (.tmp 123) (by kernel_rfl) _ _ _ (by kernel_rfl) (by kernel_rfl) (run_at_dl g2 u2 X yc k (by omega) _)) ?_
  refine reg_now 8 (.pointer (some ⟨g2, u2 + 18 * k, none⟩)) (some 125) hQN HS (by kernel_rfl) (by kernel_rfl) (fun w => by kernel_rfl) ?_
  refine reg_nowIf 9 (.int .i64 (d.kind : Int)) (some 126) hQN HS (by kernel_rfl) (by kernel_rfl) (fun w' hw => exec_load_cell 3 (.tmp 125) (by kernel_rfl) g2 (u2 + 18 * k) (by kernel_rfl) _ (cell_low P02.out GL2.out hw) _ Try.underlying3 rfl) ?_
  refine reg_now 10 (.bool (!decide ((d.kind : Int) = (d.kind : Int)))) (some 127) hQN HS (by kernel_rfl) (by kernel_rfl) (fun w => by kernel_rfl) ?_
  rw [decide_eq_true (rfl)]
  rw [show (!true) = false from rfl]
  refine reg_now 11 (.bool false) (some 128) hQN HS (by kernel_rfl) (by kernel_rfl) (fun w => by kernel_rfl) ?_
  refine reg_now 12 (.slice (some ⟨g1, u1, none⟩) X xc) (some 129) hQN HS (by kernel_rfl) (by kernel_rfl) (fun w => by kernel_rfl) ?_
  refine reg_now 13 (.int .i64 (k : Int)) (some 130) hQN HS (by kernel_rfl) (by kernel_rfl) (fun w => by kernel_rfl) ?_
  refine reg_now 14 (.pointer (some ⟨g1, u1 + 18 * k, none⟩)) (some 131) hQN HS (by kernel_rfl) (by kernel_rfl) (fun w' => exec_indexAt 27 (.tmp 129) (.tmp 130) (by kernel_rfl) _ _ _ (by kernel_rfl) (by kernel_rfl) (run_at_dl g1 u1 X xc k (by omega) _)) ?_
  refine reg_now 15 (.pointer (some ⟨g1, u1 + 18 * k + 4, none⟩)) (some 132) hQN HS (by kernel_rfl) (by kernel_rfl) (fun w => by kernel_rfl) ?_
  refine reg_nowIf 16 (sT (d.name)) (some 133) hQN HS (by kernel_rfl) (by kernel_rfl) (fun w' hw => exec_load_cell 9 (.tmp 132) (by kernel_rfl) g1 (u1 + 18 * k + 4) (by kernel_rfl) _ (cell_low P41.out GL1.out hw) _ Try.underlying9 rfl) ?_
  refine reg_now 17 (.slice (some ⟨g2, u2, none⟩) X yc) (some 134) hQN HS (by kernel_rfl) (by kernel_rfl) (fun w => by kernel_rfl) ?_
  refine reg_now 18 (.int .i64 (k : Int)) (some 135) hQN HS (by kernel_rfl) (by kernel_rfl) (fun w => by kernel_rfl) ?_
  refine reg_now 19 (.pointer (some ⟨g2, u2 + 18 * k, none⟩)) (some 136) hQN HS (by kernel_rfl) (by kernel_rfl) (fun w' => exec_indexAt 27 (.tmp 134) (.tmp 135) (by kernel_rfl) _ _ _ (by kernel_rfl) (by kernel_rfl) (run_at_dl g2 u2 X yc k (by omega) _)) ?_
  refine reg_now 20 (.pointer (some ⟨g2, u2 + 18 * k + 4, none⟩)) (some 137) hQN HS (by kernel_rfl) (by kernel_rfl) (fun w => by kernel_rfl) ?_
  refine reg_nowIf 21 (sT (d.name)) (some 138) hQN HS (by kernel_rfl) (by kernel_rfl) (fun w' hw => exec_load_cell 9 (.tmp 137) (by kernel_rfl) g2 (u2 + 18 * k + 4) (by kernel_rfl) _ (cell_low P42.out GL2.out hw) _ Try.underlying9 rfl) ?_
  refine reg_now 22 (.bool (!decide (d.name = d.name))) (some 139) hQN HS (by kernel_rfl) (by kernel_rfl) (fun w' => exec_sNe 9 9 (.tmp 133) (.tmp 138) (by kernel_rfl) (d.name) (d.name) (by kernel_rfl) (by kernel_rfl) (fun _ => rfl)) ?_
  rw [decide_eq_true rfl]
  rw [show (!true) = false from rfl]
  refine reg_now 23 (.bool false) (some 140) hQN HS (by kernel_rfl) (by kernel_rfl) (fun w => by kernel_rfl) ?_
  refine reg_now 24 (.bool false) (some 141) hQN HS (by kernel_rfl) (by kernel_rfl) (fun w => by kernel_rfl) ?_
  refine reg_now 25 (.slice (some ⟨g1, u1, none⟩) X xc) (some 142) hQN HS (by kernel_rfl) (by kernel_rfl) (fun w => by kernel_rfl) ?_
  refine reg_now 26 (.int .i64 (k : Int)) (some 143) hQN HS (by kernel_rfl) (by kernel_rfl) (fun w => by kernel_rfl) ?_
  refine reg_now 27 (.pointer (some ⟨g1, u1 + 18 * k, none⟩)) (some 144) hQN HS (by kernel_rfl) (by kernel_rfl) (fun w' => exec_indexAt 27 (.tmp 142) (.tmp 143) (by kernel_rfl) _ _ _ (by kernel_rfl) (by kernel_rfl) (run_at_dl g1 u1 X xc k (by omega) _)) ?_
  refine reg_now 28 (.pointer (some ⟨g1, u1 + 18 * k + 5, none⟩)) (some 145) hQN HS (by kernel_rfl) (by kernel_rfl) (fun w => by kernel_rfl) ?_
  refine reg_nowIf 29 (.agg tc1.toArray) (some 146) hQN HS (by kernel_rfl) (by kernel_rfl) (fun w' hw => exec_load_mid 33 (.tmp 145) (by kernel_rfl) g1 (u1 + 18 * k + 5) (by kernel_rfl) tc1 _ (rng_low P51.out hw GL1.out) Try.underlying33 rfl (rwSize L51.out)) ?_
  refine reg_now 30 (.slice (some ⟨g2, u2, none⟩) X yc) (some 147) hQN HS (by kernel_rfl) (by kernel_rfl) (fun w => by kernel_rfl) ?_
  refine reg_now 31 (.int .i64 (k : Int)) (some 148) hQN HS (by kernel_rfl) (by kernel_rfl) (fun w => by kernel_rfl) ?_
  refine reg_now 32 (.pointer (some ⟨g2, u2 + 18 * k, none⟩)) (some 149) hQN HS (by kernel_rfl) (by kernel_rfl) (fun w' => exec_indexAt 27 (.tmp 147) (.tmp 148) (by kernel_rfl) _ _ _ (by kernel_rfl) (by kernel_rfl) (run_at_dl g2 u2 X yc k (by omega) _)) ?_
  refine reg_now 33 (.pointer (some ⟨g2, u2 + 18 * k + 5, none⟩)) (some 150) hQN HS (by kernel_rfl) (by kernel_rfl) (fun w => by kernel_rfl) ?_
  refine reg_nowIf 34 (.agg tc2.toArray) (some 151) hQN HS (by kernel_rfl) (by kernel_rfl) (fun w' hw => exec_load_mid 33 (.tmp 150) (by kernel_rfl) g2 (u2 + 18 * k + 5) (by kernel_rfl) tc2 _ (rng_low P52.out hw GL2.out) Try.underlying33 rfl (rwSize L52.out)) ?_
  have C := alike_walk (lookK s) (lookK JT) 0 d.ty [] [] tc1 tc2 (World.drew wr) (RwAt.below A51.out HS) (by rw [shR_zero]; exact RwAt.below A52.out HS) (by have := N1.out; omega)
  refine reg_call 35 10 #[.agg tc1.toArray, .agg tc2.toArray] (some 152) _ (by kernel_rfl) (by kernel_rfl) (by kernel_rfl) (C) ?_
  rintro e wc ⟨rfl, hb5⟩
  have Hwc : Below wr.heap.size wr wc := HS.trans (hb5.mono HS.size)
  refine ⟨_, rfl, Hwc, ?_⟩
  clear hb5 C
  refine reg_now 36 (.bool false) (some 153) hQN Hwc (by kernel_rfl) (by kernel_rfl) (fun w => by kernel_rfl) ?_
  refine reg_now 37 (.bool false) (some 154) hQN Hwc (by kernel_rfl) (by kernel_rfl) (fun w => by kernel_rfl) ?_
  refine reg_now 38 (.bool false) (some 155) hQN Hwc (by kernel_rfl) (by kernel_rfl) (fun w => by kernel_rfl) ?_
  refine reg_now 39 (.slice (some ⟨g1, u1, none⟩) X xc) (some 156) hQN Hwc (by kernel_rfl) (by kernel_rfl) (fun w => by kernel_rfl) ?_
  refine reg_now 40 (.int .i64 (k : Int)) (some 157) hQN Hwc (by kernel_rfl) (by kernel_rfl) (fun w => by kernel_rfl) ?_
  refine reg_now 41 (.pointer (some ⟨g1, u1 + 18 * k, none⟩)) (some 158) hQN Hwc (by kernel_rfl) (by kernel_rfl) (fun w' => exec_indexAt 27 (.tmp 156) (.tmp 157) (by kernel_rfl) _ _ _ (by kernel_rfl) (by kernel_rfl) (run_at_dl g1 u1 X xc k (by omega) _)) ?_
  refine reg_now 42 (.pointer (some ⟨g1, u1 + 18 * k + 11, none⟩)) (some 159) hQN Hwc (by kernel_rfl) (by kernel_rfl) (fun w => by kernel_rfl) ?_
  refine reg_nowIf 43 (.agg vc1.toArray) (some 160) hQN Hwc (by kernel_rfl) (by kernel_rfl) (fun w' hw => exec_load_mid 33 (.tmp 159) (by kernel_rfl) g1 (u1 + 18 * k + 11) (by kernel_rfl) vc1 _ (rng_low P61.out hw GL1.out) Try.underlying33 rfl (rwSize L61.out)) ?_
  refine reg_now 44 (.slice (some ⟨g2, u2, none⟩) X yc) (some 161) hQN Hwc (by kernel_rfl) (by kernel_rfl) (fun w => by kernel_rfl) ?_
  refine reg_now 45 (.int .i64 (k : Int)) (some 162) hQN Hwc (by kernel_rfl) (by kernel_rfl) (fun w => by kernel_rfl) ?_
  refine reg_now 46 (.pointer (some ⟨g2, u2 + 18 * k, none⟩)) (some 163) hQN Hwc (by kernel_rfl) (by kernel_rfl) (fun w' => exec_indexAt 27 (.tmp 161) (.tmp 162) (by kernel_rfl) _ _ _ (by kernel_rfl) (by kernel_rfl) (run_at_dl g2 u2 X yc k (by omega) _)) ?_
  refine reg_now 47 (.pointer (some ⟨g2, u2 + 18 * k + 11, none⟩)) (some 164) hQN Hwc (by kernel_rfl) (by kernel_rfl) (fun w => by kernel_rfl) ?_
  refine reg_nowIf 48 (.agg vc2.toArray) (some 165) hQN Hwc (by kernel_rfl) (by kernel_rfl) (fun w' hw => exec_load_mid 33 (.tmp 164) (by kernel_rfl) g2 (u2 + 18 * k + 11) (by kernel_rfl) vc2 _ (rng_low P62.out hw GL2.out) Try.underlying33 rfl (rwSize L62.out)) ?_
  have C := alike_walk (lookK s) (lookK JT) 0 d.val [] [] vc1 vc2 wc (RwAt.below A61.out Hwc) (by rw [shR_zero]; exact RwAt.below A62.out Hwc) (by have := N2.out; omega)
  refine reg_call 49 10 #[.agg vc1.toArray, .agg vc2.toArray] (some 166) _ (by kernel_rfl) (by kernel_rfl) (by kernel_rfl) (C) ?_
  rintro e wd ⟨rfl, hb5⟩
  have Hwd : Below wr.heap.size wr wd := Hwc.trans (hb5.mono Hwc.size)
  refine ⟨_, rfl, Hwd, ?_⟩
  clear hb5 C
  refine reg_now 50 (.bool false) (some 167) hQN Hwd (by kernel_rfl) (by kernel_rfl) (fun w => by kernel_rfl) ?_
  refine reg_now 51 (.bool false) (some 168) hQN Hwd (by kernel_rfl) (by kernel_rfl) (fun w => by kernel_rfl) ?_
  refine reg_now 52 (.bool false) (some 169) hQN Hwd (by kernel_rfl) (by kernel_rfl) (fun w => by kernel_rfl) ?_
  refine reg_now 53 (.slice (some ⟨g1, u1, none⟩) X xc) (some 170) hQN Hwd (by kernel_rfl) (by kernel_rfl) (fun w => by kernel_rfl) ?_
  refine reg_now 54 (.int .i64 (k : Int)) (some 171) hQN Hwd (by kernel_rfl) (by kernel_rfl) (fun w => by kernel_rfl) ?_
  refine reg_now 55 (.pointer (some ⟨g1, u1 + 18 * k, none⟩)) (some 172) hQN Hwd (by kernel_rfl) (by kernel_rfl) (fun w' => exec_indexAt 27 (.tmp 170) (.tmp 171) (by kernel_rfl) _ _ _ (by kernel_rfl) (by kernel_rfl) (run_at_dl g1 u1 X xc k (by omega) _)) ?_
  refine reg_now 56 (.pointer (some ⟨g1, u1 + 18 * k + 17, none⟩)) (some 173) hQN Hwd (by kernel_rfl) (by kernel_rfl) (fun w => by kernel_rfl) ?_
  refine reg_nowIf 57 (.slice ca1 d.ctors.length cc1) (some 174) hQN Hwd (by kernel_rfl) (by kernel_rfl) (fun w' hw => exec_load_cell 38 (.tmp 173) (by kernel_rfl) g1 (u1 + 18 * k + 17) (by kernel_rfl) _ (cell_low P71.out GL1.out hw) _ Try.underlying38 rfl) ?_
  refine reg_now 58 (.int .i64 (d.ctors.length : Int)) (some 175) hQN Hwd (by kernel_rfl) (by kernel_rfl) (fun w => by kernel_rfl) ?_
  refine reg_now 59 (.slice (some ⟨g2, u2, none⟩) X yc) (some 176) hQN Hwd (by kernel_rfl) (by kernel_rfl) (fun w => by kernel_rfl) ?_
  refine reg_now 60 (.int .i64 (k : Int)) (some 177) hQN Hwd (by kernel_rfl) (by kernel_rfl) (fun w => by kernel_rfl) ?_
  refine reg_now 61 (.pointer (some ⟨g2, u2 + 18 * k, none⟩)) (some 178) hQN Hwd (by kernel_rfl) (by kernel_rfl) (fun w' => exec_indexAt 27 (.tmp 176) (.tmp 177) (by kernel_rfl) _ _ _ (by kernel_rfl) (by kernel_rfl) (run_at_dl g2 u2 X yc k (by omega) _)) ?_
  refine reg_now 62 (.pointer (some ⟨g2, u2 + 18 * k + 17, none⟩)) (some 179) hQN Hwd (by kernel_rfl) (by kernel_rfl) (fun w => by kernel_rfl) ?_
  refine reg_nowIf 63 (.slice ca2 d.ctors.length cc2) (some 180) hQN Hwd (by kernel_rfl) (by kernel_rfl) (fun w' hw => exec_load_cell 38 (.tmp 179) (by kernel_rfl) g2 (u2 + 18 * k + 17) (by kernel_rfl) _ (cell_low P72.out GL2.out hw) _ Try.underlying38 rfl) ?_
  refine reg_now 64 (.int .i64 (d.ctors.length : Int)) (some 181) hQN Hwd (by kernel_rfl) (by kernel_rfl) (fun w => by kernel_rfl) ?_
  refine reg_now 65 (.bool (!decide ((d.ctors.length : Int) = (d.ctors.length : Int)))) (some 182) hQN Hwd (by kernel_rfl) (by kernel_rfl) (fun w => by kernel_rfl) ?_
  rw [decide_eq_true (rfl)]
  rw [show (!true) = false from rfl]
  refine reg_now 66 (.bool false) (some 183) hQN Hwd (by kernel_rfl) (by kernel_rfl) (fun w => by kernel_rfl) ?_
  refine reg_done (by kernel_rfl) (hN _ _ ?_)
  generalize hact : Act.put _ (some 183) _ = act
  simp only [Act.put, sA, sC, sZ] at hact
  subst hact
  have BR5 : Hid (Below w10.heap.size w10 wd) := BR.out.trans (Hwd.mono BR.out.size)
  clear hQN hN HS Hwc Hwd BR GL1 P01 P41 P51 P61 P71 A51 A61 L51 L61 GL2 P02 P42 P52 P62 P72 A52 A62 L52 L62
  have XS : Hid (X ≤ 65536) := BIG.out
  have xs := XS.out
  go_upto_region 19 with (fail)
  refine lbeg (opsOf Try.f3 19) ?_
  refine lnow 0 (.int .i64 (k : Int)) (some 115) ?_
  refine lnow 1 (.int .i64 (IntKind.i64.wrap ((k : Int) + 1))) (some 116) ?_
  rw [show IntKind.i64.wrap ((k : Int) + 1) = ((k + 1 : Nat) : Int) from (IntWalk.i64_in _ (by omega)).trans (by omega)]
  refine lnow 2 (.int .i64 ((k + 1 : Nat) : Int)) (some 25) ?_
  refine ldn 3 ?_
  generalize hact : Act.put _ (some 25) _ = act
  simp only [Act.put, sA, sC, sZ] at hact
  subst hact
  go_wp2
  go_roundw
  case rel => exact ⟨k + 1, by omega, by go_num, BR5⟩
  case measure => simp [intOf]; omega
end Go.Proofs.Ytdacmogedchnaaa
