/- What the laws of package move try first. -/
import Derived.Test.YtndbpmkglddjjaaQGenT
import Derived.Test.YtndbpmkglddjjaaQMovO
namespace Go.Proofs.Ytndbpmkglddjjaa
open Go Go.RowKit
set_option maxRecDepth 100000
theorem lvs_one9 {w : World} {g : Nat} {l : Lv} (hb : Blk w g 49 (ints .i64 l.zs)) (hl : l.p.length = 4 := by rfl) : LvsOff [] w (.slice (some ⟨g, 0, none⟩) 1 1) [l] :=
  ⟨_, _, rfl, Nat.le_refl _, (by decide : 1 ≤ 9223372036854775807), fun x hx => by rw [List.mem_singleton.1 hx]; exact hl, fun _ => ⟨g, 0, rfl, by simp, hb.lt, fun i x hx => by
    match i, hx with
    | 0, hx => cases hx; exact hb.whole
    | n + 1, hx => simp at hx⟩⟩
set_option maxHeartbeats 64000000 in
theorem alive9_walk (w : World) : Calls Try.prog 16 #[] w fun e w' => e = .returned (.bool true) ∧ Below w.heap.size w w' := by
  have BE : Hid (Below w.heap.size w w) := Below.refl _ _
  go_enter Try.func16, Try.ntmps16
  go_upto_region 0 with (fail)
  refine lbeg (opsOf Try.f16 0) ?_
  refine lnow 0 (.bool false) (some 0) ?_
  refine ldn 1 ?_
  generalize hact : Act.put _ (some 0) _ = act
  simp only [Act.put, List.setIfInBounds_toArray, List.set_cons_zero] at hact
  subst hact
  go_upto_region 1 with (fail)
  refine lbeg (opsOf Try.f16 1) ?_
  refine lcal 0 43 #[.int .i64 1] (some 22) _ (var9_walk 1 w) ?_
  rintro e w1 ⟨rfl, hb⟩
  refine ⟨_, rfl, ?_⟩
  have BE := Lib.hid (BE.out.trans (hb.mono BE.out.size))
  clear hb
  refine lcal 1 43 #[.int .i64 0] (some 23) _ (var9_walk 0 w1) ?_
  rintro e w2 ⟨rfl, hb⟩
  refine ⟨_, rfl, ?_⟩
  have BE := Lib.hid (BE.out.trans (hb.mono BE.out.size))
  clear hb
  obtain ⟨g4, hgg4⟩ : ∃ y, Hid (w2.heap.size = y) := ⟨_, rfl⟩
  refine lin_rowC 2 g4 1 25 (varC 0) (some 24) (by kernel_rfl) (by kernel_rfl) hgg4 (exec_of _ _ (by kernel_rfl) (run_build_tm1 (var_at [] w2 0) w2)) ?_
  intro w3 bw hb
  have BE := Lib.hid (BE.out.trans (hb.mono BE.out.size))
  have Rg4 := Lib.hid bw
  clear bw hb
  refine lcal 3 14 #[.agg (varC 1).toArray, .slice (some ⟨g4, 0, none⟩) 1 1] (some 25) _ (app_walk (F := []) (varT 1) [varT 0] (varC 1) _ w3 (var_at [] w3 1) (sm_v 1) (one_tms9 Rg4.out (var_at [] w3 0) (by simp)) (by rw [SmTs, SmTs]; exact ⟨sm_v 0, trivial⟩) (by decide)) ?_
  rintro e w5 ⟨cx, rfl, hc, hb⟩
  refine ⟨_, rfl, ?_⟩
  have BE := Lib.hid (BE.out.trans (hb.mono BE.out.size))
  have Rg4 := Lib.hid (Rg4.out.below hb Rg4.out.lt)
  clear hb
  have TX : Hid (TmAt [] w5 x9 cx) := TmAt.sub (fun k hk => by cases hk) _ _ hc
  have TX5 := Lib.hid TX.out.len
  have TX1 := Lib.hid TX.out.one
  clear hc
  obtain ⟨b6, hb6⟩ : ∃ y, Hid (w5.heap.size = y) := ⟨_, rfl⟩
  refine lall 4 25 z5T (b6) (some 1) hb6 ?_
  intro w7 bw7 bew7 hsw7
  refine lin_put 5 25 (.tmp 1) (.tmp 25) (b6) _ (z5T) (cx) (by kernel_rfl) (by kernel_rfl) (by kernel_rfl) (by kernel_rfl) (by kernel_rfl) bw7 (TX5.out.trans (rfl : z5T.length = 5).symm) (t5Size TX5.out) (by simpa using TX1.out) ?_
  intro w8 bw8 uw8
  have hb : Below w5.heap.size w5 w8 := by rw [hb6.out]; exact uw8.below bew7 (Nat.le_refl _) (by have := bew7.size; have := hb6.out; omega)
  have BE := Lib.hid (BE.out.trans (hb.mono BE.out.size))
  have Rg4 := Lib.hid (Rg4.out.below hb Rg4.out.lt)
  have TX := Lib.hid (TX.out.below hb)
  have BX := Lib.hid bw8
  clear hb bw7 bew7 hsw7 bw8 uw8
  clear Rg4
  refine ldn 6 ?_
  generalize hact : Act.put _ none _ = act
  simp only [Act.put, sA, sC, sZ] at hact
  subst hact
  go_upto_region 2 with (fail)
  refine lbeg (opsOf Try.f16 2) ?_
  refine lcal 0 44 #[strT [97]] (some 26) _ (con9_walk [97] w8) ?_
  rintro e w9 ⟨rfl, hb⟩
  refine ⟨_, rfl, ?_⟩
  have BE := Lib.hid (BE.out.trans (hb.mono BE.out.size))
  have TX := Lib.hid (TX.out.below hb)
  have BX := Lib.hid (BX.out.below hb BX.out.lt)
  clear hb
  obtain ⟨b10, hb10⟩ : ∃ y, Hid (w9.heap.size = y) := ⟨_, rfl⟩
  refine lall 1 25 z5T (b10) (some 2) hb10 ?_
  intro w11 bw11 bew11 hsw11
  refine lin_put 2 25 (.tmp 2) (.tmp 26) (b10) _ (z5T) (conC [97]) (by kernel_rfl) (by kernel_rfl) (by kernel_rfl) (by kernel_rfl) (by kernel_rfl) bw11 ((rfl : (conC [97]).length = 5).trans (rfl : z5T.length = 5).symm) (t5Size (rfl : (conC [97]).length = 5)) (by simpa using (ones_con [97])) ?_
  intro w12 bw12 uw12
  have hb : Below w9.heap.size w9 w12 := by rw [hb10.out]; exact uw12.below bew11 (Nat.le_refl _) (by have := bew11.size; have := hb10.out; omega)
  have BE := Lib.hid (BE.out.trans (hb.mono BE.out.size))
  have TX := Lib.hid (TX.out.below hb)
  have BX := Lib.hid (BX.out.below hb BX.out.lt)
  have BA := Lib.hid bw12
  clear hb bw11 bew11 hsw11 bw12 uw12
  refine ldn 3 ?_
  generalize hact : Act.put _ none _ = act
  simp only [Act.put, sA, sC, sZ] at hact
  subst hact
  go_upto_region 3 with (fail)
  refine lbeg (opsOf Try.f16 3) ?_
  refine lcal 0 44 #[strT [98]] (some 27) _ (con9_walk [98] w12) ?_
  rintro e w13 ⟨rfl, hb⟩
  refine ⟨_, rfl, ?_⟩
  have BE := Lib.hid (BE.out.trans (hb.mono BE.out.size))
  have TX := Lib.hid (TX.out.below hb)
  have BX := Lib.hid (BX.out.below hb BX.out.lt)
  have BA := Lib.hid (BA.out.below hb BA.out.lt)
  clear hb
  obtain ⟨b14, hb14⟩ : ∃ y, Hid (w13.heap.size = y) := ⟨_, rfl⟩
  refine lall 1 25 z5T (b14) (some 3) hb14 ?_
  intro w15 bw15 bew15 hsw15
  refine lin_put 2 25 (.tmp 3) (.tmp 27) (b14) _ (z5T) (conC [98]) (by kernel_rfl) (by kernel_rfl) (by kernel_rfl) (by kernel_rfl) (by kernel_rfl) bw15 ((rfl : (conC [98]).length = 5).trans (rfl : z5T.length = 5).symm) (t5Size (rfl : (conC [98]).length = 5)) (by simpa using (ones_con [98])) ?_
  intro w16 bw16 uw16
  have hb : Below w13.heap.size w13 w16 := by rw [hb14.out]; exact uw16.below bew15 (Nat.le_refl _) (by have := bew15.size; have := hb14.out; omega)
  have BE := Lib.hid (BE.out.trans (hb.mono BE.out.size))
  have TX := Lib.hid (TX.out.below hb)
  have BX := Lib.hid (BX.out.below hb BX.out.lt)
  have BA := Lib.hid (BA.out.below hb BA.out.lt)
  have BB := Lib.hid bw16
  clear hb bw15 bew15 hsw15 bw16 uw16
  refine ldn 3 ?_
  generalize hact : Act.put _ none _ = act
  simp only [Act.put, sA, sC, sZ] at hact
  subst hact
  go_upto_region 4 with (fail)
  refine lbeg (opsOf Try.f16 4) ?_
  refine lrl 0 (cx) (some 29) 25 1 (b6) 0 (BX.out).whole Try.underlying25 (t5Size TX5.out) ?_
  refine lrl 1 (conC [97]) (some 30) 25 2 (b10) 0 (BA.out).whole Try.underlying25 (t5Size (rfl : (conC [97]).length = 5)) ?_
  refine lrl 2 (conC [98]) (some 31) 25 3 (b14) 0 (BB.out).whole Try.underlying25 (t5Size (rfl : (conC [98]).length = 5)) ?_
  obtain ⟨g18, hgg18⟩ : ∃ y, Hid (w16.heap.size = y) := ⟨_, rfl⟩
  refine lin_rowC 3 g18 2 25 (conC [97] ++ conC [98]) (some 32) (by kernel_rfl) (by kernel_rfl) hgg18 (exec_of _ _ (by kernel_rfl) (run_build_tm2 (con_at [] w16 [97]) (con_at [] w16 [98]) w16)) ?_
  intro w17 bw hb
  have BE := Lib.hid (BE.out.trans (hb.mono BE.out.size))
  have TX := Lib.hid (TX.out.below hb)
  have BX := Lib.hid (BX.out.below hb BX.out.lt)
  have BA := Lib.hid (BA.out.below hb BA.out.lt)
  have BB := Lib.hid (BB.out.below hb BB.out.lt)
  have Rg18 := Lib.hid bw
  clear bw hb
  refine lcal 4 20 #[.agg cx.toArray, .slice (some ⟨g18, 0, none⟩) 2 2] (some 33) _ (put_walk (F := []) [aT, bT] 2 _ 2 x9 cx w17 TX.out (pair_tms Rg18.out (con_at [] w17 [97]) (con_at [] w17 [98]) (by simp)) (by rw [SmTs, SmTs, SmTs]; exact ⟨sm_c 97, sm_c 98, trivial⟩) (by decide) rfl (by omega) sm_x9 (by decide)) ?_
  rintro e w19 ⟨cy, rfl, hc, hb⟩
  rw [f9_put] at hc ⊢
  dsimp only [Option.getD_some, Option.isSome_some] at hc ⊢
  refine ⟨_, rfl, ?_⟩
  have BE := Lib.hid (BE.out.trans (hb.mono BE.out.size))
  have TX := Lib.hid (TX.out.below hb)
  have BX := Lib.hid (BX.out.below hb BX.out.lt)
  have BA := Lib.hid (BA.out.below hb BA.out.lt)
  have BB := Lib.hid (BB.out.below hb BB.out.lt)
  have Rg18 := Lib.hid (Rg18.out.below hb Rg18.out.lt)
  clear hb
  have TY : Hid (TmAt [] w19 y9 cy) := TmAt.sub (fun k hk => by cases hk) _ _ hc
  have TY5 := Lib.hid TY.out.len
  have TY1 := Lib.hid TY.out.one
  clear hc
  refine lnow 5 (.tuple #[.agg cy.toArray, .bool true]) (some 28) ?_
  refine lnow 6 (.agg cy.toArray) (some 34) ?_
  refine lnow 7 (.bool true) (some 35) ?_
  obtain ⟨b20, hb20⟩ : ∃ y, Hid (w19.heap.size = y) := ⟨_, rfl⟩
  refine lall 8 25 z5T (b20) (some 4) hb20 ?_
  intro w21 bw21 bew21 hsw21
  refine lin_put 9 25 (.tmp 4) (.tmp 34) (b20) _ (z5T) (cy) (by kernel_rfl) (by kernel_rfl) (by kernel_rfl) (by kernel_rfl) (by kernel_rfl) bw21 (TY5.out.trans (rfl : z5T.length = 5).symm) (t5Size TY5.out) (by simpa using TY1.out) ?_
  intro w22 bw22 uw22
  have hb : Below w19.heap.size w19 w22 := by rw [hb20.out]; exact uw22.below bew21 (Nat.le_refl _) (by have := bew21.size; have := hb20.out; omega)
  have BE := Lib.hid (BE.out.trans (hb.mono BE.out.size))
  have TX := Lib.hid (TX.out.below hb)
  have BX := Lib.hid (BX.out.below hb BX.out.lt)
  have BA := Lib.hid (BA.out.below hb BA.out.lt)
  have BB := Lib.hid (BB.out.below hb BB.out.lt)
  have Rg18 := Lib.hid (Rg18.out.below hb Rg18.out.lt)
  have TY := Lib.hid (TY.out.below hb)
  have BY := Lib.hid bw22
  clear hb bw21 bew21 hsw21 bw22 uw22
  refine lnow 10 (.bool true) (some 5) ?_
  clear Rg18
  refine ldn 11 ?_
  generalize hact : Act.put _ (some 5) _ = act
  simp only [Act.put, sA, sC, sZ] at hact
  subst hact
  go_upto_region 5 with (fail)
  refine lbeg (opsOf Try.f16 5) ?_
  refine lrl 0 (cy) (some 37) 25 4 (b20) 0 (BY.out).whole Try.underlying25 (t5Size TY5.out) ?_
  obtain ⟨g24, hgg24⟩ : ∃ y, Hid (w22.heap.size = y) := ⟨_, rfl⟩
  refine lin_rowC 1 g24 2 9 ([strT [97], strT [98]]) (some 38) (by kernel_rfl) (by kernel_rfl) hgg24 (exec_of _ _ (by kernel_rfl) (run_build_strs2' [97] [98] w22)) ?_
  intro w23 bw hb
  have BE := Lib.hid (BE.out.trans (hb.mono BE.out.size))
  have TX := Lib.hid (TX.out.below hb)
  have BX := Lib.hid (BX.out.below hb BX.out.lt)
  have BA := Lib.hid (BA.out.below hb BA.out.lt)
  have BB := Lib.hid (BB.out.below hb BB.out.lt)
  have TY := Lib.hid (TY.out.below hb)
  have BY := Lib.hid (BY.out.below hb BY.out.lt)
  have Rg24 := Lib.hid bw
  clear bw hb
  refine lcal 2 45 #[.agg cy.toArray, .slice (some ⟨g24, 0, none⟩) 2 2] (some 39) _ (pull_walk (F := []) [[97], [98]] 2 _ 2 y9 cy w23 TY.out rfl (by omega) (nms_two Rg24.out) sm_y9 (by decide)) ?_
  rintro e w25 ⟨cz, rfl, hc, hb⟩
  rw [f9_pull] at hc ⊢
  dsimp only [Option.getD_some, Option.isSome_some] at hc ⊢
  refine ⟨_, rfl, ?_⟩
  have BE := Lib.hid (BE.out.trans (hb.mono BE.out.size))
  have TX := Lib.hid (TX.out.below hb)
  have BX := Lib.hid (BX.out.below hb BX.out.lt)
  have BA := Lib.hid (BA.out.below hb BA.out.lt)
  have BB := Lib.hid (BB.out.below hb BB.out.lt)
  have TY := Lib.hid (TY.out.below hb)
  have BY := Lib.hid (BY.out.below hb BY.out.lt)
  have Rg24 := Lib.hid (Rg24.out.below hb Rg24.out.lt)
  clear hb
  have TZ : Hid (TmAt [] w25 x9 cz) := TmAt.sub (fun k hk => by cases hk) _ _ hc
  have TZ5 := Lib.hid TZ.out.len
  have TZ1 := Lib.hid TZ.out.one
  clear hc
  refine lnow 3 (.tuple #[.agg cz.toArray, .bool true]) (some 36) ?_
  refine lnow 4 (.agg cz.toArray) (some 40) ?_
  refine lnow 5 (.bool true) (some 41) ?_
  obtain ⟨b26, hb26⟩ : ∃ y, Hid (w25.heap.size = y) := ⟨_, rfl⟩
  refine lall 6 25 z5T (b26) (some 6) hb26 ?_
  intro w27 bw27 bew27 hsw27
  refine lin_put 7 25 (.tmp 6) (.tmp 40) (b26) _ (z5T) (cz) (by kernel_rfl) (by kernel_rfl) (by kernel_rfl) (by kernel_rfl) (by kernel_rfl) bw27 (TZ5.out.trans (rfl : z5T.length = 5).symm) (t5Size TZ5.out) (by simpa using TZ1.out) ?_
  intro w28 bw28 uw28
  have hb : Below w25.heap.size w25 w28 := by rw [hb26.out]; exact uw28.below bew27 (Nat.le_refl _) (by have := bew27.size; have := hb26.out; omega)
  have BE := Lib.hid (BE.out.trans (hb.mono BE.out.size))
  have TX := Lib.hid (TX.out.below hb)
  have BX := Lib.hid (BX.out.below hb BX.out.lt)
  have BA := Lib.hid (BA.out.below hb BA.out.lt)
  have BB := Lib.hid (BB.out.below hb BB.out.lt)
  have TY := Lib.hid (TY.out.below hb)
  have BY := Lib.hid (BY.out.below hb BY.out.lt)
  have Rg24 := Lib.hid (Rg24.out.below hb Rg24.out.lt)
  have TZ := Lib.hid (TZ.out.below hb)
  have BZ := Lib.hid bw28
  clear hb bw27 bew27 hsw27 bw28 uw28
  refine lnow 8 (.bool true) (some 7) ?_
  clear Rg24
  refine ldn 9 ?_
  generalize hact : Act.put _ (some 7) _ = act
  simp only [Act.put, sA, sC, sZ] at hact
  subst hact
  go_upto_region 6 with (fail)
  refine region_begin (opsOf Try.f16 6) (fun W' => Below w28.heap.size w28 W') (by kernel_rfl) (by kernel_rfl) 6 (by kernel_rfl) ?_
  intro Q' hQN hN
  have HS : Below w28.heap.size w28 w28.drew := (Below.refl _ _).drew
  refine reg_nowIf 1 (.agg (conC [97]).toArray) (some 43) hQN HS (by kernel_rfl) (by kernel_rfl) (fun w' hw => exec_load_mid 25 (.tmp 2) (by kernel_rfl) (b10) 0 (by kernel_rfl) (conC [97]) _ (BA.out.below hw BA.out.lt).whole Try.underlying25 rfl (t5Size (rfl : (conC [97]).length = 5))) ?_
  have FIN : Fin96 Q' (fun j => (#[.bool false, .pointer (some ⟨b6, 0, none⟩), .pointer (some ⟨b10, 0, none⟩), .pointer (some ⟨b14, 0, none⟩), .pointer (some ⟨b20, 0, none⟩), .bool true, .pointer (some ⟨b26, 0, none⟩), .bool true, undef, undef, undef, undef, undef, undef, undef, undef, undef, undef, undef, undef, undef, undef, .agg (varC 1).toArray, .agg (varC 0).toArray, .slice (some ⟨g4, 0, none⟩) 1 1, .agg cx.toArray, .agg (conC [97]).toArray, .agg (conC [98]).toArray, .tuple #[.agg cy.toArray, .bool true], .agg (cx).toArray, .agg (conC [97]).toArray, .agg (conC [98]).toArray, .slice (some ⟨g18, 0, none⟩) 2 2, .tuple #[.agg cy.toArray, .bool true], .agg cy.toArray, .bool true, .tuple #[.agg cz.toArray, .bool true], .agg (cy).toArray, .slice (some ⟨g24, 0, none⟩) 2 2, .tuple #[.agg cz.toArray, .bool true], .agg cz.toArray, .bool true, undef, undef, undef, undef, undef, undef, undef, undef, undef, undef, undef, undef, undef, undef, undef, undef, undef, undef, undef, undef, undef, undef, undef, undef, undef, undef, undef, undef, undef, undef, undef, undef, undef, undef, undef, undef, undef, undef, undef, undef, undef, undef, undef, undef, undef, undef, undef, undef, undef, undef, undef, undef, undef, undef, undef, undef, undef, undef, undef, undef, undef, undef, undef, undef, undef, undef, undef, undef, undef, undef, undef, undef, undef, undef, undef, undef, undef, undef, undef, undef, undef, undef, undef, undef, undef, undef, undef, undef, undef, undef, undef, undef, undef, undef, undef, undef, undef, undef, undef, undef, undef, undef, undef, undef, undef, undef, undef, undef, undef, undef, undef, undef, undef, undef, undef, undef, undef, undef, undef, undef, undef, undef, undef, undef, undef, undef, undef, undef, undef, undef, undef, undef, undef] : Array Value).getD j undef) w28 := by
    intro b30 gK cf w29 hb hbb BNW TNW
    apply hN
    clear hQN hN HS Q' hbb
    generalize hact : A96 _ _ _ _ _ = act
    obtain rfl : { tmps := #[.bool false, .pointer (some ⟨b6, 0, none⟩), .pointer (some ⟨b10, 0, none⟩), .pointer (some ⟨b14, 0, none⟩), .pointer (some ⟨b20, 0, none⟩), .bool true, .pointer (some ⟨b26, 0, none⟩), .bool true, .pointer (some ⟨b30, 0, none⟩), undef, undef, undef, undef, undef, undef, undef, undef, undef, undef, undef, undef, undef, .agg (varC 1).toArray, .agg (varC 0).toArray, .slice (some ⟨g4, 0, none⟩) 1 1, .agg cx.toArray, .agg (conC [97]).toArray, .agg (conC [98]).toArray, .tuple #[.agg cy.toArray, .bool true], .agg (cx).toArray, .agg (conC [97]).toArray, .agg (conC [98]).toArray, .slice (some ⟨g18, 0, none⟩) 2 2, .tuple #[.agg cy.toArray, .bool true], .agg cy.toArray, .bool true, .tuple #[.agg cz.toArray, .bool true], .agg (cy).toArray, .slice (some ⟨g24, 0, none⟩) 2 2, .tuple #[.agg cz.toArray, .bool true], .agg cz.toArray, .bool true, .agg (varC 1).toArray, .agg (conC [97]).toArray, .slice (some ⟨gK, 0, none⟩) 1 1, .agg cf.toArray, undef, undef, undef, undef, undef, undef, undef, undef, undef, undef, undef, undef, undef, undef, undef, undef, undef, undef, undef, undef, undef, undef, undef, undef, undef, undef, undef, undef, undef, undef, undef, undef, undef, undef, undef, undef, undef, undef, undef, undef, undef, undef, undef, undef, undef, undef, undef, undef, undef, undef, undef, undef, undef, undef, undef, undef, undef, undef, undef, undef, undef, undef, undef, undef, undef, undef, undef, undef, undef, undef, undef, undef, undef, undef, undef, undef, undef, undef, undef, undef, undef, undef, undef, undef, undef, undef, undef, undef, undef, undef, undef, undef, undef, undef, undef, undef, undef, undef, undef, undef, undef, undef, undef, undef, undef, undef, undef, undef, undef, undef, undef, undef, undef, undef, undef, undef, undef, undef, undef, undef, undef, undef, undef, undef, undef, undef, undef, undef, undef], defers := [] } = act := (show _ = _ from by kernel_rfl).trans hact
    clear hact
    have BE := Lib.hid (BE.out.trans (hb.mono BE.out.size))
    have TX := Lib.hid (TX.out.below hb)
    have BX := Lib.hid (BX.out.below hb BX.out.lt)
    have BA := Lib.hid (BA.out.below hb BA.out.lt)
    have BB := Lib.hid (BB.out.below hb BB.out.lt)
    have TY := Lib.hid (TY.out.below hb)
    have BY := Lib.hid (BY.out.below hb BY.out.lt)
    have TZ := Lib.hid (TZ.out.below hb)
    have BZ := Lib.hid (BZ.out.below hb BZ.out.lt)
    have BF := Lib.hid BNW
    have TF := Lib.hid TNW
    have TF5 := Lib.hid TNW.len
    clear BNW TNW hb
    go_upto_region 7 with (fail)
    refine lbeg (opsOf Try.f16 7) ?_
    refine lrl 0 (cf) (some 47) 25 8 (b30) 0 (BF.out).whole Try.underlying25 (t5Size TF5.out) ?_
    refine lcal 1 19 #[.agg cf.toArray, .int .i64 2, .int .i64 0] (some 48) _ (shift_walk (F := []) f9 2 0 cf w29 TF.out sm_f9 (by decide)) ?_
    rintro e w31 ⟨cg, rfl, hc, hb⟩
    rw [f9_shift] at hc ⊢
    dsimp only [Option.getD_some, Option.isSome_some] at hc ⊢
    refine ⟨_, rfl, ?_⟩
    have BE := Lib.hid (BE.out.trans (hb.mono BE.out.size))
    have TX := Lib.hid (TX.out.below hb)
    have BX := Lib.hid (BX.out.below hb BX.out.lt)
    have BA := Lib.hid (BA.out.below hb BA.out.lt)
    have BB := Lib.hid (BB.out.below hb BB.out.lt)
    have TY := Lib.hid (TY.out.below hb)
    have BY := Lib.hid (BY.out.below hb BY.out.lt)
    have TZ := Lib.hid (TZ.out.below hb)
    have BZ := Lib.hid (BZ.out.below hb BZ.out.lt)
    have BF := Lib.hid (BF.out.below hb BF.out.lt)
    have TF := Lib.hid (TF.out.below hb)
    clear hb
    have TG : Hid (TmAt [] w31 g9 cg) := TmAt.sub (fun k hk => by cases hk) _ _ hc
    have TG5 := Lib.hid TG.out.len
    have TG1 := Lib.hid TG.out.one
    clear hc
    refine lnow 2 (.tuple #[.agg cg.toArray, .bool true]) (some 46) ?_
    refine lnow 3 (.agg cg.toArray) (some 49) ?_
    refine lnow 4 (.bool true) (some 50) ?_
    obtain ⟨b32, hb32⟩ : ∃ y, Hid (w31.heap.size = y) := ⟨_, rfl⟩
    refine lall 5 25 z5T (b32) (some 9) hb32 ?_
    intro w33 bw33 bew33 hsw33
    refine lin_put 6 25 (.tmp 9) (.tmp 49) (b32) _ (z5T) (cg) (by kernel_rfl) (by kernel_rfl) (by kernel_rfl) (by kernel_rfl) (by kernel_rfl) bw33 (TG5.out.trans (rfl : z5T.length = 5).symm) (t5Size TG5.out) (by simpa using TG1.out) ?_
    intro w34 bw34 uw34
    have hb : Below w31.heap.size w31 w34 := by rw [hb32.out]; exact uw34.below bew33 (Nat.le_refl _) (by have := bew33.size; have := hb32.out; omega)
    have BE := Lib.hid (BE.out.trans (hb.mono BE.out.size))
    have TX := Lib.hid (TX.out.below hb)
    have BX := Lib.hid (BX.out.below hb BX.out.lt)
    have BA := Lib.hid (BA.out.below hb BA.out.lt)
    have BB := Lib.hid (BB.out.below hb BB.out.lt)
    have TY := Lib.hid (TY.out.below hb)
    have BY := Lib.hid (BY.out.below hb BY.out.lt)
    have TZ := Lib.hid (TZ.out.below hb)
    have BZ := Lib.hid (BZ.out.below hb BZ.out.lt)
    have BF := Lib.hid (BF.out.below hb BF.out.lt)
    have TF := Lib.hid (TF.out.below hb)
    have TG := Lib.hid (TG.out.below hb)
    have BG := Lib.hid bw34
    clear hb bw33 bew33 hsw33 bw34 uw34
    refine lnow 7 (.bool true) (some 10) ?_
    refine ldn 8 ?_
    generalize hact : Act.put _ (some 10) _ = act
    simp only [Act.put, sA, sC, sZ] at hact
    subst hact
    go_upto_region 8 with (fail)
    refine lbeg (opsOf Try.f16 8) ?_
    refine lcal 0 43 #[.int .i64 1] (some 52) _ (var9_walk 1 w34) ?_
    rintro e w35 ⟨rfl, hb⟩
    refine ⟨_, rfl, ?_⟩
    have BE := Lib.hid (BE.out.trans (hb.mono BE.out.size))
    have TX := Lib.hid (TX.out.below hb)
    have BX := Lib.hid (BX.out.below hb BX.out.lt)
    have BA := Lib.hid (BA.out.below hb BA.out.lt)
    have BB := Lib.hid (BB.out.below hb BB.out.lt)
    have TY := Lib.hid (TY.out.below hb)
    have BY := Lib.hid (BY.out.below hb BY.out.lt)
    have TZ := Lib.hid (TZ.out.below hb)
    have BZ := Lib.hid (BZ.out.below hb BZ.out.lt)
    have BF := Lib.hid (BF.out.below hb BF.out.lt)
    have TF := Lib.hid (TF.out.below hb)
    have TG := Lib.hid (TG.out.below hb)
    have BG := Lib.hid (BG.out.below hb BG.out.lt)
    clear hb
    refine lcal 1 19 #[.agg (varC 1).toArray, .int .i64 (-2), .int .i64 0] (some 53) _ (shift_walk (F := []) (varT 1) (-2) 0 (varC 1) w35 (var_at [] w35 1) (sm_v 1) (by decide)) ?_
    rintro e w36 ⟨cn, rfl, hc, hb⟩
    rw [f9_no] at hc ⊢
    dsimp only [Option.getD_none, Option.isSome_none] at hc ⊢
    refine ⟨_, rfl, ?_⟩
    have BE := Lib.hid (BE.out.trans (hb.mono BE.out.size))
    have TX := Lib.hid (TX.out.below hb)
    have BX := Lib.hid (BX.out.below hb BX.out.lt)
    have BA := Lib.hid (BA.out.below hb BA.out.lt)
    have BB := Lib.hid (BB.out.below hb BB.out.lt)
    have TY := Lib.hid (TY.out.below hb)
    have BY := Lib.hid (BY.out.below hb BY.out.lt)
    have TZ := Lib.hid (TZ.out.below hb)
    have BZ := Lib.hid (BZ.out.below hb BZ.out.lt)
    have BF := Lib.hid (BF.out.below hb BF.out.lt)
    have TF := Lib.hid (TF.out.below hb)
    have TG := Lib.hid (TG.out.below hb)
    have BG := Lib.hid (BG.out.below hb BG.out.lt)
    clear hb
    have TN : Hid (TmAt [] w36 zT cn) := TmAt.sub (fun k hk => by cases hk) _ _ hc
    have TN5 := Lib.hid TN.out.len
    have TN1 := Lib.hid TN.out.one
    clear hc
    refine lnow 2 (.tuple #[.agg cn.toArray, .bool false]) (some 51) ?_
    refine lnow 3 (.agg cn.toArray) (some 54) ?_
    refine lnow 4 (.bool false) (some 55) ?_
    obtain ⟨b37, hb37⟩ : ∃ y, Hid (w36.heap.size = y) := ⟨_, rfl⟩
    refine lall 5 25 z5T (b37) (some 11) hb37 ?_
    intro w38 bw38 bew38 hsw38
    refine lin_put 6 25 (.tmp 11) (.tmp 54) (b37) _ (z5T) (cn) (by kernel_rfl) (by kernel_rfl) (by kernel_rfl) (by kernel_rfl) (by kernel_rfl) bw38 (TN5.out.trans (rfl : z5T.length = 5).symm) (t5Size TN5.out) (by simpa using TN1.out) ?_
    intro w39 bw39 uw39
    have hb : Below w36.heap.size w36 w39 := by rw [hb37.out]; exact uw39.below bew38 (Nat.le_refl _) (by have := bew38.size; have := hb37.out; omega)
    have BE := Lib.hid (BE.out.trans (hb.mono BE.out.size))
    have TX := Lib.hid (TX.out.below hb)
    have BX := Lib.hid (BX.out.below hb BX.out.lt)
    have BA := Lib.hid (BA.out.below hb BA.out.lt)
    have BB := Lib.hid (BB.out.below hb BB.out.lt)
    have TY := Lib.hid (TY.out.below hb)
    have BY := Lib.hid (BY.out.below hb BY.out.lt)
    have TZ := Lib.hid (TZ.out.below hb)
    have BZ := Lib.hid (BZ.out.below hb BZ.out.lt)
    have BF := Lib.hid (BF.out.below hb BF.out.lt)
    have TF := Lib.hid (TF.out.below hb)
    have TG := Lib.hid (TG.out.below hb)
    have BG := Lib.hid (BG.out.below hb BG.out.lt)
    have TN := Lib.hid (TN.out.below hb)
    have BN := Lib.hid bw39
    clear hb bw38 bew38 hsw38 bw39 uw39
    refine lnow 7 (.bool false) (some 12) ?_
    clear BN TN
    refine ldn 8 ?_
    generalize hact : Act.put _ (some 12) _ = act
    simp only [Act.put, sA, sC, sZ] at hact
    subst hact
    go_upto_region 9 with (fail)
    refine region_begin (opsOf Try.f16 9) (fun W' => Below w39.heap.size w39 W') (by kernel_rfl) (by kernel_rfl) 15 (by kernel_rfl) ?_
    intro Q' hQN hN
    have HS : Below w39.heap.size w39 w39.drew := (Below.refl _ _).drew
    refine reg_nowIf 1 (.agg (conC [97]).toArray) (some 58) hQN HS (by kernel_rfl) (by kernel_rfl) (fun w' hw => exec_load_mid 25 (.tmp 2) (by kernel_rfl) (b10) 0 (by kernel_rfl) (conC [97]) _ (BA.out.below hw BA.out.lt).whole Try.underlying25 rfl (t5Size (rfl : (conC [97]).length = 5))) ?_
    have FIN : Fin99 Q' (fun j => (#[.bool false, .pointer (some ⟨b6, 0, none⟩), .pointer (some ⟨b10, 0, none⟩), .pointer (some ⟨b14, 0, none⟩), .pointer (some ⟨b20, 0, none⟩), .bool true, .pointer (some ⟨b26, 0, none⟩), .bool true, .pointer (some ⟨b30, 0, none⟩), .pointer (some ⟨b32, 0, none⟩), .bool true, .pointer (some ⟨b37, 0, none⟩), .bool false, undef, undef, undef, undef, undef, undef, undef, undef, undef, .agg (varC 1).toArray, .agg (varC 0).toArray, .slice (some ⟨g4, 0, none⟩) 1 1, .agg cx.toArray, .agg (conC [97]).toArray, .agg (conC [98]).toArray, .tuple #[.agg cy.toArray, .bool true], .agg (cx).toArray, .agg (conC [97]).toArray, .agg (conC [98]).toArray, .slice (some ⟨g18, 0, none⟩) 2 2, .tuple #[.agg cy.toArray, .bool true], .agg cy.toArray, .bool true, .tuple #[.agg cz.toArray, .bool true], .agg (cy).toArray, .slice (some ⟨g24, 0, none⟩) 2 2, .tuple #[.agg cz.toArray, .bool true], .agg cz.toArray, .bool true, .agg (varC 1).toArray, .agg (conC [97]).toArray, .slice (some ⟨gK, 0, none⟩) 1 1, .agg cf.toArray, .tuple #[.agg cg.toArray, .bool true], .agg (cf).toArray, .tuple #[.agg cg.toArray, .bool true], .agg cg.toArray, .bool true, .tuple #[.agg cn.toArray, .bool false], .agg (varC 1).toArray, .tuple #[.agg cn.toArray, .bool false], .agg cn.toArray, .bool false, undef, undef, undef, undef, undef, undef, undef, undef, undef, undef, undef, undef, undef, undef, undef, undef, undef, undef, undef, undef, undef, undef, undef, undef, undef, undef, undef, undef, undef, undef, undef, undef, undef, undef, undef, undef, undef, undef, undef, undef, undef, undef, undef, undef, undef, undef, undef, undef, undef, undef, undef, undef, undef, undef, undef, undef, undef, undef, undef, undef, undef, undef, undef, undef, undef, undef, undef, undef, undef, undef, undef, undef, undef, undef, undef, undef, undef, undef, undef, undef, undef, undef, undef, undef, undef, undef, undef, undef, undef, undef, undef, undef, undef, undef, undef, undef, undef, undef, undef, undef, undef, undef, undef, undef, undef, undef, undef, undef, undef, undef, undef, undef, undef, undef, undef, undef, undef, undef, undef] : Array Value).getD j undef) w39 := by
      intro b41 gA gB lc la co cb w40 hb hbb BNW TNW LOC
      apply hN
      clear hQN hN HS Q' hbb
      generalize hact : A99 _ _ _ _ _ _ _ _ _ _ _ _ _ _ = act
      obtain rfl : { tmps := #[.bool false, .pointer (some ⟨b6, 0, none⟩), .pointer (some ⟨b10, 0, none⟩), .pointer (some ⟨b14, 0, none⟩), .pointer (some ⟨b20, 0, none⟩), .bool true, .pointer (some ⟨b26, 0, none⟩), .bool true, .pointer (some ⟨b30, 0, none⟩), .pointer (some ⟨b32, 0, none⟩), .bool true, .pointer (some ⟨b37, 0, none⟩), .bool false, .slice la 2 lc, .pointer (some ⟨b41, 0, none⟩), .bool true, undef, undef, undef, undef, undef, undef, .agg (varC 1).toArray, .agg (varC 0).toArray, .slice (some ⟨g4, 0, none⟩) 1 1, .agg cx.toArray, .agg (conC [97]).toArray, .agg (conC [98]).toArray, .tuple #[.agg cy.toArray, .bool true], .agg (cx).toArray, .agg (conC [97]).toArray, .agg (conC [98]).toArray, .slice (some ⟨g18, 0, none⟩) 2 2, .tuple #[.agg cy.toArray, .bool true], .agg cy.toArray, .bool true, .tuple #[.agg cz.toArray, .bool true], .agg (cy).toArray, .slice (some ⟨g24, 0, none⟩) 2 2, .tuple #[.agg cz.toArray, .bool true], .agg cz.toArray, .bool true, .agg (varC 1).toArray, .agg (conC [97]).toArray, .slice (some ⟨gK, 0, none⟩) 1 1, .agg cf.toArray, .tuple #[.agg cg.toArray, .bool true], .agg (cf).toArray, .tuple #[.agg cg.toArray, .bool true], .agg cg.toArray, .bool true, .tuple #[.agg cn.toArray, .bool false], .agg (varC 1).toArray, .tuple #[.agg cn.toArray, .bool false], .agg cn.toArray, .bool false, .tuple #[.slice la 2 lc, .agg cb.toArray, .bool true], .agg (varC 0).toArray, .agg (conC [97]).toArray, .agg (varC 0).toArray, .slice (some ⟨gA, 0, none⟩) 2 2, .agg co.toArray, .slice (some ⟨gB, 0, none⟩) 2 2, .tuple #[.slice la 2 lc, .agg cb.toArray, .bool true], .slice la 2 lc, .agg cb.toArray, .bool true, undef, undef, undef, undef, undef, undef, undef, undef, undef, undef, undef, undef, undef, undef, undef, undef, undef, undef, undef, undef, undef, undef, undef, undef, undef, undef, undef, undef, undef, undef, undef, undef, undef, undef, undef, undef, undef, undef, undef, undef, undef, undef, undef, undef, undef, undef, undef, undef, undef, undef, undef, undef, undef, undef, undef, undef, undef, undef, undef, undef, undef, undef, undef, undef, undef, undef, undef, undef, undef, undef, undef, undef, undef, undef, undef, undef, undef, undef, undef, undef, undef, undef, undef, undef, undef, undef, undef, undef, undef, undef, undef, undef, undef, undef, undef, undef, undef, undef, undef, undef, undef, undef, undef, undef, undef, undef, undef, undef], defers := [] } = act := (show _ = _ from by kernel_rfl).trans hact
      clear hact
      have BE := Lib.hid (BE.out.trans (hb.mono BE.out.size))
      have TX := Lib.hid (TX.out.below hb)
      have BX := Lib.hid (BX.out.below hb BX.out.lt)
      have BA := Lib.hid (BA.out.below hb BA.out.lt)
      have BB := Lib.hid (BB.out.below hb BB.out.lt)
      have TY := Lib.hid (TY.out.below hb)
      have BY := Lib.hid (BY.out.below hb BY.out.lt)
      have TZ := Lib.hid (TZ.out.below hb)
      have BZ := Lib.hid (BZ.out.below hb BZ.out.lt)
      have BF := Lib.hid (BF.out.below hb BF.out.lt)
      have TF := Lib.hid (TF.out.below hb)
      have TG := Lib.hid (TG.out.below hb)
      have BG := Lib.hid (BG.out.below hb BG.out.lt)
      have BO := Lib.hid BNW
      have TB := Lib.hid TNW
      have TB5 := Lib.hid TNW.len
      have LO := Lib.hid LOC
      clear BNW TNW hb LOC
      go_upto_region 10 with (fail)
      refine lbeg (opsOf Try.f16 10) ?_
      refine lnow 0 (.bool true) (some 67) ?_
      refine lnow 1 (.bool false) (some 68) ?_
      refine lnow 2 (.bool false) (some 69) ?_
      refine lnow 3 (.slice la 2 lc) (some 70) ?_
      refine lnow 4 (.int .i64 2) (some 71) ?_
      refine lnow 5 (.bool false) (some 72) ?_
      refine lnow 6 (.bool false) (some 73) ?_
      refine ldn 7 ?_
      generalize hact : Act.put _ (some 73) _ = act
      simp only [Act.put, sA, sC, sZ] at hact
      subst hact
      go_upto_region 12 with (fail)
      refine lbeg (opsOf Try.f16 12) ?_
      refine lrl 0 (cb) (some 75) 25 14 (b41) 0 (BO.out).whole Try.underlying25 (t5Size TB5.out) ?_
      refine lnow 1 (.slice la 2 lc) (some 76) ?_
      refine lcal 2 47 #[.agg cb.toArray, .int .i64 7, .slice la 2 lc] (some 77) _ (close9 cb la lc w40 TB.out LO.out) ?_
      rintro e w42 ⟨cc, rfl, hc, hb⟩
      refine ⟨_, rfl, ?_⟩
      have BE := Lib.hid (BE.out.trans (hb.mono BE.out.size))
      have TX := Lib.hid (TX.out.below hb)
      have BX := Lib.hid (BX.out.below hb BX.out.lt)
      have BA := Lib.hid (BA.out.below hb BA.out.lt)
      have BB := Lib.hid (BB.out.below hb BB.out.lt)
      have TY := Lib.hid (TY.out.below hb)
      have BY := Lib.hid (BY.out.below hb BY.out.lt)
      have TZ := Lib.hid (TZ.out.below hb)
      have BZ := Lib.hid (BZ.out.below hb BZ.out.lt)
      have BF := Lib.hid (BF.out.below hb BF.out.lt)
      have TF := Lib.hid (TF.out.below hb)
      have TG := Lib.hid (TG.out.below hb)
      have BG := Lib.hid (BG.out.below hb BG.out.lt)
      have BO := Lib.hid (BO.out.below hb BO.out.lt)
      have TB := Lib.hid (TB.out.below hb)
      have LO := Lib.hid (LO.out.below hb)
      clear hb
      have TCC : Hid (TmAt [] w42 o9 cc) := TmAt.sub (fun k hk => by cases hk) _ _ hc
      have TCC5 := Lib.hid TCC.out.len
      have TCC1 := Lib.hid TCC.out.one
      clear hc
      refine lnow 3 (.tuple #[.agg cc.toArray, .bool true]) (some 74) ?_
      refine lnow 4 (.agg cc.toArray) (some 78) ?_
      refine lnow 5 (.bool true) (some 79) ?_
      obtain ⟨b43, hb43⟩ : ∃ y, Hid (w42.heap.size = y) := ⟨_, rfl⟩
      refine lall 6 25 z5T (b43) (some 16) hb43 ?_
      intro w44 bw44 bew44 hsw44
      refine lin_put 7 25 (.tmp 16) (.tmp 78) (b43) _ (z5T) (cc) (by kernel_rfl) (by kernel_rfl) (by kernel_rfl) (by kernel_rfl) (by kernel_rfl) bw44 (TCC5.out.trans (rfl : z5T.length = 5).symm) (t5Size TCC5.out) (by simpa using TCC1.out) ?_
      intro w45 bw45 uw45
      have hb : Below w42.heap.size w42 w45 := by rw [hb43.out]; exact uw45.below bew44 (Nat.le_refl _) (by have := bew44.size; have := hb43.out; omega)
      have BE := Lib.hid (BE.out.trans (hb.mono BE.out.size))
      have TX := Lib.hid (TX.out.below hb)
      have BX := Lib.hid (BX.out.below hb BX.out.lt)
      have BA := Lib.hid (BA.out.below hb BA.out.lt)
      have BB := Lib.hid (BB.out.below hb BB.out.lt)
      have TY := Lib.hid (TY.out.below hb)
      have BY := Lib.hid (BY.out.below hb BY.out.lt)
      have TZ := Lib.hid (TZ.out.below hb)
      have BZ := Lib.hid (BZ.out.below hb BZ.out.lt)
      have BF := Lib.hid (BF.out.below hb BF.out.lt)
      have TF := Lib.hid (TF.out.below hb)
      have TG := Lib.hid (TG.out.below hb)
      have BG := Lib.hid (BG.out.below hb BG.out.lt)
      have BO := Lib.hid (BO.out.below hb BO.out.lt)
      have TB := Lib.hid (TB.out.below hb)
      have LO := Lib.hid (LO.out.below hb)
      have TCC := Lib.hid (TCC.out.below hb)
      have BC := Lib.hid bw45
      clear hb bw44 bew44 hsw44 bw45 uw45
      refine lnow 8 (.bool true) (some 17) ?_
      refine ldn 9 ?_
      generalize hact : Act.put _ (some 17) _ = act
      simp only [Act.put, sA, sC, sZ] at hact
      subst hact
      go_upto_region 13 with (fail)
      refine lbeg (opsOf Try.f16 13) ?_
      refine lrl 0 (cy) (some 81) 25 4 (b20) 0 (BY.out).whole Try.underlying25 (t5Size TY5.out) ?_
      refine lcal 1 21 #[.agg cy.toArray, strT [97], strT [99]] (some 82) _ (rename_walk (F := []) [97] [99] y9 cy w45 TY.out sm_y9 (by decide) (by decide)) ?_
      rintro e w46 ⟨cr, rfl, hc, hb⟩
      rw [f9_ren] at hc ⊢
      dsimp only [Option.getD_some, Option.isSome_some] at hc ⊢
      refine ⟨_, rfl, ?_⟩
      have BE := Lib.hid (BE.out.trans (hb.mono BE.out.size))
      have TX := Lib.hid (TX.out.below hb)
      have BX := Lib.hid (BX.out.below hb BX.out.lt)
      have BA := Lib.hid (BA.out.below hb BA.out.lt)
      have BB := Lib.hid (BB.out.below hb BB.out.lt)
      have TY := Lib.hid (TY.out.below hb)
      have BY := Lib.hid (BY.out.below hb BY.out.lt)
      have TZ := Lib.hid (TZ.out.below hb)
      have BZ := Lib.hid (BZ.out.below hb BZ.out.lt)
      have BF := Lib.hid (BF.out.below hb BF.out.lt)
      have TF := Lib.hid (TF.out.below hb)
      have TG := Lib.hid (TG.out.below hb)
      have BG := Lib.hid (BG.out.below hb BG.out.lt)
      have BO := Lib.hid (BO.out.below hb BO.out.lt)
      have TB := Lib.hid (TB.out.below hb)
      have LO := Lib.hid (LO.out.below hb)
      have TCC := Lib.hid (TCC.out.below hb)
      have BC := Lib.hid (BC.out.below hb BC.out.lt)
      clear hb
      have TR : Hid (TmAt [] w46 r9 cr) := TmAt.sub (fun k hk => by cases hk) _ _ hc
      have TR5 := Lib.hid TR.out.len
      have TR1 := Lib.hid TR.out.one
      clear hc
      refine lnow 2 (.tuple #[.agg cr.toArray, .bool true]) (some 80) ?_
      refine lnow 3 (.agg cr.toArray) (some 83) ?_
      refine lnow 4 (.bool true) (some 84) ?_
      obtain ⟨b47, hb47⟩ : ∃ y, Hid (w46.heap.size = y) := ⟨_, rfl⟩
      refine lall 5 25 z5T (b47) (some 18) hb47 ?_
      intro w48 bw48 bew48 hsw48
      refine lin_put 6 25 (.tmp 18) (.tmp 83) (b47) _ (z5T) (cr) (by kernel_rfl) (by kernel_rfl) (by kernel_rfl) (by kernel_rfl) (by kernel_rfl) bw48 (TR5.out.trans (rfl : z5T.length = 5).symm) (t5Size TR5.out) (by simpa using TR1.out) ?_
      intro w49 bw49 uw49
      have hb : Below w46.heap.size w46 w49 := by rw [hb47.out]; exact uw49.below bew48 (Nat.le_refl _) (by have := bew48.size; have := hb47.out; omega)
      have BE := Lib.hid (BE.out.trans (hb.mono BE.out.size))
      have TX := Lib.hid (TX.out.below hb)
      have BX := Lib.hid (BX.out.below hb BX.out.lt)
      have BA := Lib.hid (BA.out.below hb BA.out.lt)
      have BB := Lib.hid (BB.out.below hb BB.out.lt)
      have TY := Lib.hid (TY.out.below hb)
      have BY := Lib.hid (BY.out.below hb BY.out.lt)
      have TZ := Lib.hid (TZ.out.below hb)
      have BZ := Lib.hid (BZ.out.below hb BZ.out.lt)
      have BF := Lib.hid (BF.out.below hb BF.out.lt)
      have TF := Lib.hid (TF.out.below hb)
      have TG := Lib.hid (TG.out.below hb)
      have BG := Lib.hid (BG.out.below hb BG.out.lt)
      have BO := Lib.hid (BO.out.below hb BO.out.lt)
      have TB := Lib.hid (TB.out.below hb)
      have LO := Lib.hid (LO.out.below hb)
      have TCC := Lib.hid (TCC.out.below hb)
      have BC := Lib.hid (BC.out.below hb BC.out.lt)
      have TR := Lib.hid (TR.out.below hb)
      have BRn := Lib.hid bw49
      clear hb bw48 bew48 hsw48 bw49 uw49
      refine lnow 7 (.bool true) (some 19) ?_
      refine ldn 8 ?_
      generalize hact : Act.put _ (some 19) _ = act
      simp only [Act.put, sA, sC, sZ] at hact
      subst hact
      go_upto_region 14 with (fail)
      refine lbeg (opsOf Try.f16 14) ?_
      refine lnow 0 (.agg (ints .i64 [1, -1, -1, -1]).toArray) (some 86) ?_
      refine lnow 1 (.agg (ints .i64 l91.zs).toArray) (some 87) ?_
      obtain ⟨g51, hgg51⟩ : ∃ y, Hid (w49.heap.size = y) := ⟨_, rfl⟩
      refine lin_rowC 2 g51 1 49 (ints .i64 l91.zs) (some 88) (by kernel_rfl) (by kernel_rfl) hgg51 (exec_of _ _ (by kernel_rfl) (run_build_lvs1 (a := l91) rfl w49)) ?_
      intro w50 bw hb
      have BE := Lib.hid (BE.out.trans (hb.mono BE.out.size))
      have TX := Lib.hid (TX.out.below hb)
      have BX := Lib.hid (BX.out.below hb BX.out.lt)
      have BA := Lib.hid (BA.out.below hb BA.out.lt)
      have BB := Lib.hid (BB.out.below hb BB.out.lt)
      have TY := Lib.hid (TY.out.below hb)
      have BY := Lib.hid (BY.out.below hb BY.out.lt)
      have TZ := Lib.hid (TZ.out.below hb)
      have BZ := Lib.hid (BZ.out.below hb BZ.out.lt)
      have BF := Lib.hid (BF.out.below hb BF.out.lt)
      have TF := Lib.hid (TF.out.below hb)
      have TG := Lib.hid (TG.out.below hb)
      have BG := Lib.hid (BG.out.below hb BG.out.lt)
      have BO := Lib.hid (BO.out.below hb BO.out.lt)
      have TB := Lib.hid (TB.out.below hb)
      have LO := Lib.hid (LO.out.below hb)
      have TCC := Lib.hid (TCC.out.below hb)
      have BC := Lib.hid (BC.out.below hb BC.out.lt)
      have TR := Lib.hid (TR.out.below hb)
      have BRn := Lib.hid (BRn.out.below hb BRn.out.lt)
      have Rg51 := Lib.hid bw
      clear bw hb
      refine lnow 3 (.agg ([.int .i64 3, .int .i64 0, strT [], .slice (some ⟨g51, 0, none⟩) 1 1, .slice none 0 0] : List Value).toArray) (some 89) ?_
      refine lnow 4 (.agg (ints .i64 [-1, -1, -1, -1]).toArray) (some 90) ?_
      refine lnow 5 (.agg (ints .i64 l92.zs).toArray) (some 91) ?_
      obtain ⟨g53, hgg53⟩ : ∃ y, Hid (w50.heap.size = y) := ⟨_, rfl⟩
      refine lin_rowC 6 g53 1 49 (ints .i64 l92.zs) (some 92) (by kernel_rfl) (by kernel_rfl) hgg53 (exec_of _ _ (by kernel_rfl) (run_build_lvs1 (a := l92) rfl w50)) ?_
      intro w52 bw hb
      have BE := Lib.hid (BE.out.trans (hb.mono BE.out.size))
      have TX := Lib.hid (TX.out.below hb)
      have BX := Lib.hid (BX.out.below hb BX.out.lt)
      have BA := Lib.hid (BA.out.below hb BA.out.lt)
      have BB := Lib.hid (BB.out.below hb BB.out.lt)
      have TY := Lib.hid (TY.out.below hb)
      have BY := Lib.hid (BY.out.below hb BY.out.lt)
      have TZ := Lib.hid (TZ.out.below hb)
      have BZ := Lib.hid (BZ.out.below hb BZ.out.lt)
      have BF := Lib.hid (BF.out.below hb BF.out.lt)
      have TF := Lib.hid (TF.out.below hb)
      have TG := Lib.hid (TG.out.below hb)
      have BG := Lib.hid (BG.out.below hb BG.out.lt)
      have BO := Lib.hid (BO.out.below hb BO.out.lt)
      have TB := Lib.hid (TB.out.below hb)
      have LO := Lib.hid (LO.out.below hb)
      have TCC := Lib.hid (TCC.out.below hb)
      have BC := Lib.hid (BC.out.below hb BC.out.lt)
      have TR := Lib.hid (TR.out.below hb)
      have BRn := Lib.hid (BRn.out.below hb BRn.out.lt)
      have Rg51 := Lib.hid (Rg51.out.below hb Rg51.out.lt)
      have Rg53 := Lib.hid bw
      clear bw hb
      have TU : TmAt [] w52 u91 [.int .i64 3, .int .i64 0, strT [], .slice (some ⟨g51, 0, none⟩) 1 1, .slice none 0 0] := TmAt.mk (t := u91) (lvs_one9 Rg51.out) (TmsAt.nil _ _ _ _)
      refine lcal 7 25 #[.agg ([.int .i64 3, .int .i64 0, strT [], .slice (some ⟨g51, 0, none⟩) 1 1, .slice none 0 0] : List Value).toArray, .slice (some ⟨g53, 0, none⟩) 1 1] (some 93) _ (levels_walk (F := []) [l92] _ 1 1 u91 _ w52 TU sm_u91 (by decide) (one_in (a := l92) rfl Rg53.out)) ?_
      rintro e w54 ⟨cv, rfl, hc, hb⟩
      rw [f9_lev] at hc ⊢
      dsimp only [Option.getD_some, Option.isSome_some] at hc ⊢
      clear TU
      refine ⟨_, rfl, ?_⟩
      have BE := Lib.hid (BE.out.trans (hb.mono BE.out.size))
      have TX := Lib.hid (TX.out.below hb)
      have BX := Lib.hid (BX.out.below hb BX.out.lt)
      have BA := Lib.hid (BA.out.below hb BA.out.lt)
      have BB := Lib.hid (BB.out.below hb BB.out.lt)
      have TY := Lib.hid (TY.out.below hb)
      have BY := Lib.hid (BY.out.below hb BY.out.lt)
      have TZ := Lib.hid (TZ.out.below hb)
      have BZ := Lib.hid (BZ.out.below hb BZ.out.lt)
      have BF := Lib.hid (BF.out.below hb BF.out.lt)
      have TF := Lib.hid (TF.out.below hb)
      have TG := Lib.hid (TG.out.below hb)
      have BG := Lib.hid (BG.out.below hb BG.out.lt)
      have BO := Lib.hid (BO.out.below hb BO.out.lt)
      have TB := Lib.hid (TB.out.below hb)
      have LO := Lib.hid (LO.out.below hb)
      have TCC := Lib.hid (TCC.out.below hb)
      have BC := Lib.hid (BC.out.below hb BC.out.lt)
      have TR := Lib.hid (TR.out.below hb)
      have BRn := Lib.hid (BRn.out.below hb BRn.out.lt)
      have Rg51 := Lib.hid (Rg51.out.below hb Rg51.out.lt)
      have Rg53 := Lib.hid (Rg53.out.below hb Rg53.out.lt)
      clear hb
      have TV : Hid (TmAt [] w54 u93 cv) := TmAt.sub (fun k hk => by cases hk) _ _ hc
      have TV5 := Lib.hid TV.out.len
      have TV1 := Lib.hid TV.out.one
      clear hc
      refine lnow 8 (.tuple #[.agg cv.toArray, .bool true]) (some 85) ?_
      refine lnow 9 (.agg cv.toArray) (some 94) ?_
      refine lnow 10 (.bool true) (some 95) ?_
      obtain ⟨b55, hb55⟩ : ∃ y, Hid (w54.heap.size = y) := ⟨_, rfl⟩
      refine lall 11 25 z5T (b55) (some 20) hb55 ?_
      intro w56 bw56 bew56 hsw56
      refine lin_put 12 25 (.tmp 20) (.tmp 94) (b55) _ (z5T) (cv) (by kernel_rfl) (by kernel_rfl) (by kernel_rfl) (by kernel_rfl) (by kernel_rfl) bw56 (TV5.out.trans (rfl : z5T.length = 5).symm) (t5Size TV5.out) (by simpa using TV1.out) ?_
      intro w57 bw57 uw57
      have hb : Below w54.heap.size w54 w57 := by rw [hb55.out]; exact uw57.below bew56 (Nat.le_refl _) (by have := bew56.size; have := hb55.out; omega)
      have BE := Lib.hid (BE.out.trans (hb.mono BE.out.size))
      have TX := Lib.hid (TX.out.below hb)
      have BX := Lib.hid (BX.out.below hb BX.out.lt)
      have BA := Lib.hid (BA.out.below hb BA.out.lt)
      have BB := Lib.hid (BB.out.below hb BB.out.lt)
      have TY := Lib.hid (TY.out.below hb)
      have BY := Lib.hid (BY.out.below hb BY.out.lt)
      have TZ := Lib.hid (TZ.out.below hb)
      have BZ := Lib.hid (BZ.out.below hb BZ.out.lt)
      have BF := Lib.hid (BF.out.below hb BF.out.lt)
      have TF := Lib.hid (TF.out.below hb)
      have TG := Lib.hid (TG.out.below hb)
      have BG := Lib.hid (BG.out.below hb BG.out.lt)
      have BO := Lib.hid (BO.out.below hb BO.out.lt)
      have TB := Lib.hid (TB.out.below hb)
      have LO := Lib.hid (LO.out.below hb)
      have TCC := Lib.hid (TCC.out.below hb)
      have BC := Lib.hid (BC.out.below hb BC.out.lt)
      have TR := Lib.hid (TR.out.below hb)
      have BRn := Lib.hid (BRn.out.below hb BRn.out.lt)
      have Rg51 := Lib.hid (Rg51.out.below hb Rg51.out.lt)
      have Rg53 := Lib.hid (Rg53.out.below hb Rg53.out.lt)
      have TV := Lib.hid (TV.out.below hb)
      have BVv := Lib.hid bw57
      clear hb bw56 bew56 hsw56 bw57 uw57
      refine lnow 13 (.bool true) (some 21) ?_
      clear Rg51 Rg53
      refine ldn 14 ?_
      generalize hact : Act.put _ (some 21) _ = act
      simp only [Act.put, sA, sC, sZ] at hact
      subst hact
      have cgo := TG.out.open
      obtain ⟨glv, gav, rfl, -, hga⟩ := cgo
      obtain ⟨ga, gc, rfl⟩ := hga.slice
      obtain ⟨tg, pg, og, cg1, hg1, -, rfl, -, -, -, hgr, hgt⟩ := hga.get (n := 2) rfl (i := 1) (by decide)
      obtain rfl : tg = varT 3 := by cases hg1; rfl
      obtain ⟨gl1, ga1, rfl, -, -⟩ := hgt.open
      have GC : Hid (w57.cell? ⟨pg, og + 5 * 1 + 1, none⟩ = some (.int .i64 3)) := hgr 1 _ rfl
      clear hga hg1 hgr hgt
      obtain ⟨xl, pl, ol, cl, hl1, rfl, -, -, hlr, hlt⟩ := LO.out.get (n := 2) rfl (i := 1) (by decide)
      obtain rfl : xl = ([113], conT [112]) := by cases hl1; rfl
      obtain ⟨ll1, la1, rfl, -, -⟩ := hlt.open
      have LC : Hid (w57.cell? ⟨pl, ol + 6 * 1 + 3, none⟩ = some (strT [112])) := hlr 3 _ rfl
      clear hl1 hlr hlt
      obtain ⟨vl, vav, rfl, hvl, -⟩ := TV.out.open
      obtain ⟨va, vc, rfl⟩ := hvl.slice
      obtain ⟨-, pv, ov, rfl, -⟩ := hvl.at (i := 0) (x := l93) rfl
      have VC : Hid (w57.cell? ⟨pv, ov + 5 * 0 + 0, none⟩ = some (.int .i64 3)) := (LvsOff.rng hvl (i := 0) (x := l93) rfl) 0 _ rfl
      clear hvl
      go_upto_region 15 with (fail)
      refine region_begin (opsOf Try.f16 15) (fun W' => Below w57.heap.size w57 W') (by kernel_rfl) (by kernel_rfl) 80 (by kernel_rfl) ?_
      intro Q' hQN hN
      have HS : Below w57.heap.size w57 w57.drew := (Below.refl _ _).drew
      refine reg_now 0 (.bool true) (some 96) hQN HS (by kernel_rfl) (by kernel_rfl) (fun w => by kernel_rfl) ?_
      refine reg_now 1 (.bool true) (some 97) hQN HS (by kernel_rfl) (by kernel_rfl) (fun w => by kernel_rfl) ?_
      refine reg_now 2 (.bool true) (some 98) hQN HS (by kernel_rfl) (by kernel_rfl) (fun w => by kernel_rfl) ?_
      refine reg_now 3 (.bool true) (some 99) hQN HS (by kernel_rfl) (by kernel_rfl) (fun w => by kernel_rfl) ?_
      refine reg_now 4 (.bool true) (some 100) hQN HS (by kernel_rfl) (by kernel_rfl) (fun w => by kernel_rfl) ?_
      refine reg_now 5 (.bool true) (some 101) hQN HS (by kernel_rfl) (by kernel_rfl) (fun w => by kernel_rfl) ?_
      refine reg_cast (l' := #[true, true, true, true, true, true, false, false, false, false, false, false, false, false, false, false, false, false, false, false, false, false, false, false, false, false, false, false, false, false, false, false, false, false, false, false, false, false, false, false, false, false, false, false, false, false, false, false, false, false, false, false, false, false, false, false, false, false, false, false, false, false, false, false, false, false, false, false, false, false, false, false, false, false, false, false, false, false, false, false]) (a' := { tmps := #[.bool false, .pointer (some ⟨b6, 0, none⟩), .pointer (some ⟨b10, 0, none⟩), .pointer (some ⟨b14, 0, none⟩), .pointer (some ⟨b20, 0, none⟩), .bool true, .pointer (some ⟨b26, 0, none⟩), .bool true, .pointer (some ⟨b30, 0, none⟩), .pointer (some ⟨b32, 0, none⟩), .bool true, .pointer (some ⟨b37, 0, none⟩), .bool false, .slice (some ⟨pl, ol, none⟩) 2 lc, .pointer (some ⟨b41, 0, none⟩), .bool true, .pointer (some ⟨b43, 0, none⟩), .bool true, .pointer (some ⟨b47, 0, none⟩), .bool true, .pointer (some ⟨b55, 0, none⟩), .bool true, .agg (varC 1).toArray, .agg (varC 0).toArray, .slice (some ⟨g4, 0, none⟩) 1 1, .agg cx.toArray, .agg (conC [97]).toArray, .agg (conC [98]).toArray, .tuple #[.agg cy.toArray, .bool true], .agg (cx).toArray, .agg (conC [97]).toArray, .agg (conC [98]).toArray, .slice (some ⟨g18, 0, none⟩) 2 2, .tuple #[.agg cy.toArray, .bool true], .agg cy.toArray, .bool true, .tuple #[.agg cz.toArray, .bool true], .agg (cy).toArray, .slice (some ⟨g24, 0, none⟩) 2 2, .tuple #[.agg cz.toArray, .bool true], .agg cz.toArray, .bool true, .agg (varC 1).toArray, .agg (conC [97]).toArray, .slice (some ⟨gK, 0, none⟩) 1 1, .agg cf.toArray, .tuple #[.agg ([.int .i64 g9.kind, .int .i64 g9.n, strT g9.name, glv, .slice (some ⟨pg, og, none⟩) g9.args.length gc] : List Value).toArray, .bool true], .agg (cf).toArray, .tuple #[.agg ([.int .i64 g9.kind, .int .i64 g9.n, strT g9.name, glv, .slice (some ⟨pg, og, none⟩) g9.args.length gc] : List Value).toArray, .bool true], .agg ([.int .i64 g9.kind, .int .i64 g9.n, strT g9.name, glv, .slice (some ⟨pg, og, none⟩) g9.args.length gc] : List Value).toArray, .bool true, .tuple #[.agg cn.toArray, .bool false], .agg (varC 1).toArray, .tuple #[.agg cn.toArray, .bool false], .agg cn.toArray, .bool false, .tuple #[.slice (some ⟨pl, ol, none⟩) 2 lc, .agg cb.toArray, .bool true], .agg (varC 0).toArray, .agg (conC [97]).toArray, .agg (varC 0).toArray, .slice (some ⟨gA, 0, none⟩) 2 2, .agg co.toArray, .slice (some ⟨gB, 0, none⟩) 2 2, .tuple #[.slice (some ⟨pl, ol, none⟩) 2 lc, .agg cb.toArray, .bool true], .slice (some ⟨pl, ol, none⟩) 2 lc, .agg cb.toArray, .bool true, .bool true, .bool false, .bool false, .slice (some ⟨pl, ol, none⟩) 2 lc, .int .i64 2, .bool false, .bool false, .tuple #[.agg cc.toArray, .bool true], .agg (cb).toArray, .slice (some ⟨pl, ol, none⟩) 2 lc, .tuple #[.agg cc.toArray, .bool true], .agg cc.toArray, .bool true, .tuple #[.agg cr.toArray, .bool true], .agg (cy).toArray, .tuple #[.agg cr.toArray, .bool true], .agg cr.toArray, .bool true, .tuple #[.agg ([.int .i64 u93.kind, .int .i64 u93.n, strT u93.name, .slice (some ⟨pv, ov, none⟩) u93.levels.length vc, vav] : List Value).toArray, .bool true], .agg (ints .i64 [1, -1, -1, -1]).toArray, .agg (ints .i64 l91.zs).toArray, .slice (some ⟨g51, 0, none⟩) 1 1, .agg ([.int .i64 3, .int .i64 0, strT [], .slice (some ⟨g51, 0, none⟩) 1 1, .slice none 0 0] : List Value).toArray, .agg (ints .i64 [-1, -1, -1, -1]).toArray, .agg (ints .i64 l92.zs).toArray, .slice (some ⟨g53, 0, none⟩) 1 1, .tuple #[.agg ([.int .i64 u93.kind, .int .i64 u93.n, strT u93.name, .slice (some ⟨pv, ov, none⟩) u93.levels.length vc, vav] : List Value).toArray, .bool true], .agg ([.int .i64 u93.kind, .int .i64 u93.n, strT u93.name, .slice (some ⟨pv, ov, none⟩) u93.levels.length vc, vav] : List Value).toArray, .bool true, .bool true, .bool true, .bool true, .bool true, .bool true, .bool true, undef, undef, undef, undef, undef, undef, undef, undef, undef, undef, undef, undef, undef, undef, undef, undef, undef, undef, undef, undef, undef, undef, undef, undef, undef, undef, undef, undef, undef, undef, undef, undef, undef, undef, undef, undef, undef, undef, undef, undef, undef, undef, undef, undef, undef, undef, undef, undef, undef, undef, undef, undef, undef, undef, undef, undef, undef, undef, undef, undef, undef, undef, undef, undef, undef, undef, undef, undef, undef, undef, undef, undef, undef], defers := [] }) (by kernel_rfl) (by kernel_rfl) ?_
      refine reg_now 6 (.bool true) (some 102) hQN HS (by kernel_rfl) (by kernel_rfl) (fun w => by kernel_rfl) ?_
      refine reg_now 7 (.bool true) (some 103) hQN HS (by kernel_rfl) (by kernel_rfl) (fun w => by kernel_rfl) ?_
      refine reg_now 8 (.bool false) (some 104) hQN HS (by kernel_rfl) (by kernel_rfl) (fun w => by kernel_rfl) ?_
      refine reg_now 9 (.bool true) (some 105) hQN HS (by kernel_rfl) (by kernel_rfl) (fun w => by kernel_rfl) ?_
      refine reg_now 10 (.bool true) (some 106) hQN HS (by kernel_rfl) (by kernel_rfl) (fun w => by kernel_rfl) ?_
      refine reg_cast (l' := #[true, true, true, true, true, true, true, true, true, true, true, false, false, false, false, false, false, false, false, false, false, false, false, false, false, false, false, false, false, false, false, false, false, false, false, false, false, false, false, false, false, false, false, false, false, false, false, false, false, false, false, false, false, false, false, false, false, false, false, false, false, false, false, false, false, false, false, false, false, false, false, false, false, false, false, false, false, false, false, false]) (a' := { tmps := #[.bool false, .pointer (some ⟨b6, 0, none⟩), .pointer (some ⟨b10, 0, none⟩), .pointer (some ⟨b14, 0, none⟩), .pointer (some ⟨b20, 0, none⟩), .bool true, .pointer (some ⟨b26, 0, none⟩), .bool true, .pointer (some ⟨b30, 0, none⟩), .pointer (some ⟨b32, 0, none⟩), .bool true, .pointer (some ⟨b37, 0, none⟩), .bool false, .slice (some ⟨pl, ol, none⟩) 2 lc, .pointer (some ⟨b41, 0, none⟩), .bool true, .pointer (some ⟨b43, 0, none⟩), .bool true, .pointer (some ⟨b47, 0, none⟩), .bool true, .pointer (some ⟨b55, 0, none⟩), .bool true, .agg (varC 1).toArray, .agg (varC 0).toArray, .slice (some ⟨g4, 0, none⟩) 1 1, .agg cx.toArray, .agg (conC [97]).toArray, .agg (conC [98]).toArray, .tuple #[.agg cy.toArray, .bool true], .agg (cx).toArray, .agg (conC [97]).toArray, .agg (conC [98]).toArray, .slice (some ⟨g18, 0, none⟩) 2 2, .tuple #[.agg cy.toArray, .bool true], .agg cy.toArray, .bool true, .tuple #[.agg cz.toArray, .bool true], .agg (cy).toArray, .slice (some ⟨g24, 0, none⟩) 2 2, .tuple #[.agg cz.toArray, .bool true], .agg cz.toArray, .bool true, .agg (varC 1).toArray, .agg (conC [97]).toArray, .slice (some ⟨gK, 0, none⟩) 1 1, .agg cf.toArray, .tuple #[.agg ([.int .i64 g9.kind, .int .i64 g9.n, strT g9.name, glv, .slice (some ⟨pg, og, none⟩) g9.args.length gc] : List Value).toArray, .bool true], .agg (cf).toArray, .tuple #[.agg ([.int .i64 g9.kind, .int .i64 g9.n, strT g9.name, glv, .slice (some ⟨pg, og, none⟩) g9.args.length gc] : List Value).toArray, .bool true], .agg ([.int .i64 g9.kind, .int .i64 g9.n, strT g9.name, glv, .slice (some ⟨pg, og, none⟩) g9.args.length gc] : List Value).toArray, .bool true, .tuple #[.agg cn.toArray, .bool false], .agg (varC 1).toArray, .tuple #[.agg cn.toArray, .bool false], .agg cn.toArray, .bool false, .tuple #[.slice (some ⟨pl, ol, none⟩) 2 lc, .agg cb.toArray, .bool true], .agg (varC 0).toArray, .agg (conC [97]).toArray, .agg (varC 0).toArray, .slice (some ⟨gA, 0, none⟩) 2 2, .agg co.toArray, .slice (some ⟨gB, 0, none⟩) 2 2, .tuple #[.slice (some ⟨pl, ol, none⟩) 2 lc, .agg cb.toArray, .bool true], .slice (some ⟨pl, ol, none⟩) 2 lc, .agg cb.toArray, .bool true, .bool true, .bool false, .bool false, .slice (some ⟨pl, ol, none⟩) 2 lc, .int .i64 2, .bool false, .bool false, .tuple #[.agg cc.toArray, .bool true], .agg (cb).toArray, .slice (some ⟨pl, ol, none⟩) 2 lc, .tuple #[.agg cc.toArray, .bool true], .agg cc.toArray, .bool true, .tuple #[.agg cr.toArray, .bool true], .agg (cy).toArray, .tuple #[.agg cr.toArray, .bool true], .agg cr.toArray, .bool true, .tuple #[.agg ([.int .i64 u93.kind, .int .i64 u93.n, strT u93.name, .slice (some ⟨pv, ov, none⟩) u93.levels.length vc, vav] : List Value).toArray, .bool true], .agg (ints .i64 [1, -1, -1, -1]).toArray, .agg (ints .i64 l91.zs).toArray, .slice (some ⟨g51, 0, none⟩) 1 1, .agg ([.int .i64 3, .int .i64 0, strT [], .slice (some ⟨g51, 0, none⟩) 1 1, .slice none 0 0] : List Value).toArray, .agg (ints .i64 [-1, -1, -1, -1]).toArray, .agg (ints .i64 l92.zs).toArray, .slice (some ⟨g53, 0, none⟩) 1 1, .tuple #[.agg ([.int .i64 u93.kind, .int .i64 u93.n, strT u93.name, .slice (some ⟨pv, ov, none⟩) u93.levels.length vc, vav] : List Value).toArray, .bool true], .agg ([.int .i64 u93.kind, .int .i64 u93.n, strT u93.name, .slice (some ⟨pv, ov, none⟩) u93.levels.length vc, vav] : List Value).toArray, .bool true, .bool true, .bool true, .bool true, .bool true, .bool true, .bool true, .bool true, .bool true, .bool false, .bool true, .bool true, undef, undef, undef, undef, undef, undef, undef, undef, undef, undef, undef, undef, undef, undef, undef, undef, undef, undef, undef, undef, undef, undef, undef, undef, undef, undef, undef, undef, undef, undef, undef, undef, undef, undef, undef, undef, undef, undef, undef, undef, undef, undef, undef, undef, undef, undef, undef, undef, undef, undef, undef, undef, undef, undef, undef, undef, undef, undef, undef, undef, undef, undef, undef, undef, undef, undef, undef, undef], defers := [] }) (by kernel_rfl) (by kernel_rfl) ?_
      refine reg_now 11 (.bool true) (some 107) hQN HS (by kernel_rfl) (by kernel_rfl) (fun w => by kernel_rfl) ?_
      refine reg_now 12 (.bool true) (some 108) hQN HS (by kernel_rfl) (by kernel_rfl) (fun w => by kernel_rfl) ?_
      refine reg_now 13 (.bool true) (some 109) hQN HS (by kernel_rfl) (by kernel_rfl) (fun w => by kernel_rfl) ?_
      refine reg_now 14 (.bool true) (some 110) hQN HS (by kernel_rfl) (by kernel_rfl) (fun w => by kernel_rfl) ?_
      refine reg_now 15 (.bool true) (some 111) hQN HS (by kernel_rfl) (by kernel_rfl) (fun w => by kernel_rfl) ?_
      refine reg_cast (l' := #[true, true, true, true, true, true, true, true, true, true, true, true, true, true, true, true, false, false, false, false, false, false, false, false, false, false, false, false, false, false, false, false, false, false, false, false, false, false, false, false, false, false, false, false, false, false, false, false, false, false, false, false, false, false, false, false, false, false, false, false, false, false, false, false, false, false, false, false, false, false, false, false, false, false, false, false, false, false, false, false]) (a' := { tmps := #[.bool false, .pointer (some ⟨b6, 0, none⟩), .pointer (some ⟨b10, 0, none⟩), .pointer (some ⟨b14, 0, none⟩), .pointer (some ⟨b20, 0, none⟩), .bool true, .pointer (some ⟨b26, 0, none⟩), .bool true, .pointer (some ⟨b30, 0, none⟩), .pointer (some ⟨b32, 0, none⟩), .bool true, .pointer (some ⟨b37, 0, none⟩), .bool false, .slice (some ⟨pl, ol, none⟩) 2 lc, .pointer (some ⟨b41, 0, none⟩), .bool true, .pointer (some ⟨b43, 0, none⟩), .bool true, .pointer (some ⟨b47, 0, none⟩), .bool true, .pointer (some ⟨b55, 0, none⟩), .bool true, .agg (varC 1).toArray, .agg (varC 0).toArray, .slice (some ⟨g4, 0, none⟩) 1 1, .agg cx.toArray, .agg (conC [97]).toArray, .agg (conC [98]).toArray, .tuple #[.agg cy.toArray, .bool true], .agg (cx).toArray, .agg (conC [97]).toArray, .agg (conC [98]).toArray, .slice (some ⟨g18, 0, none⟩) 2 2, .tuple #[.agg cy.toArray, .bool true], .agg cy.toArray, .bool true, .tuple #[.agg cz.toArray, .bool true], .agg (cy).toArray, .slice (some ⟨g24, 0, none⟩) 2 2, .tuple #[.agg cz.toArray, .bool true], .agg cz.toArray, .bool true, .agg (varC 1).toArray, .agg (conC [97]).toArray, .slice (some ⟨gK, 0, none⟩) 1 1, .agg cf.toArray, .tuple #[.agg ([.int .i64 g9.kind, .int .i64 g9.n, strT g9.name, glv, .slice (some ⟨pg, og, none⟩) g9.args.length gc] : List Value).toArray, .bool true], .agg (cf).toArray, .tuple #[.agg ([.int .i64 g9.kind, .int .i64 g9.n, strT g9.name, glv, .slice (some ⟨pg, og, none⟩) g9.args.length gc] : List Value).toArray, .bool true], .agg ([.int .i64 g9.kind, .int .i64 g9.n, strT g9.name, glv, .slice (some ⟨pg, og, none⟩) g9.args.length gc] : List Value).toArray, .bool true, .tuple #[.agg cn.toArray, .bool false], .agg (varC 1).toArray, .tuple #[.agg cn.toArray, .bool false], .agg cn.toArray, .bool false, .tuple #[.slice (some ⟨pl, ol, none⟩) 2 lc, .agg cb.toArray, .bool true], .agg (varC 0).toArray, .agg (conC [97]).toArray, .agg (varC 0).toArray, .slice (some ⟨gA, 0, none⟩) 2 2, .agg co.toArray, .slice (some ⟨gB, 0, none⟩) 2 2, .tuple #[.slice (some ⟨pl, ol, none⟩) 2 lc, .agg cb.toArray, .bool true], .slice (some ⟨pl, ol, none⟩) 2 lc, .agg cb.toArray, .bool true, .bool true, .bool false, .bool false, .slice (some ⟨pl, ol, none⟩) 2 lc, .int .i64 2, .bool false, .bool false, .tuple #[.agg cc.toArray, .bool true], .agg (cb).toArray, .slice (some ⟨pl, ol, none⟩) 2 lc, .tuple #[.agg cc.toArray, .bool true], .agg cc.toArray, .bool true, .tuple #[.agg cr.toArray, .bool true], .agg (cy).toArray, .tuple #[.agg cr.toArray, .bool true], .agg cr.toArray, .bool true, .tuple #[.agg ([.int .i64 u93.kind, .int .i64 u93.n, strT u93.name, .slice (some ⟨pv, ov, none⟩) u93.levels.length vc, vav] : List Value).toArray, .bool true], .agg (ints .i64 [1, -1, -1, -1]).toArray, .agg (ints .i64 l91.zs).toArray, .slice (some ⟨g51, 0, none⟩) 1 1, .agg ([.int .i64 3, .int .i64 0, strT [], .slice (some ⟨g51, 0, none⟩) 1 1, .slice none 0 0] : List Value).toArray, .agg (ints .i64 [-1, -1, -1, -1]).toArray, .agg (ints .i64 l92.zs).toArray, .slice (some ⟨g53, 0, none⟩) 1 1, .tuple #[.agg ([.int .i64 u93.kind, .int .i64 u93.n, strT u93.name, .slice (some ⟨pv, ov, none⟩) u93.levels.length vc, vav] : List Value).toArray, .bool true], .agg ([.int .i64 u93.kind, .int .i64 u93.n, strT u93.name, .slice (some ⟨pv, ov, none⟩) u93.levels.length vc, vav] : List Value).toArray, .bool true, .bool true, .bool true, .bool true, .bool true, .bool true, .bool true, .bool true, .bool true, .bool false, .bool true, .bool true, .bool true, .bool true, .bool true, .bool true, .bool true, undef, undef, undef, undef, undef, undef, undef, undef, undef, undef, undef, undef, undef, undef, undef, undef, undef, undef, undef, undef, undef, undef, undef, undef, undef, undef, undef, undef, undef, undef, undef, undef, undef, undef, undef, undef, undef, undef, undef, undef, undef, undef, undef, undef, undef, undef, undef, undef, undef, undef, undef, undef, undef, undef, undef, undef, undef, undef, undef, undef, undef, undef, undef], defers := [] }) (by kernel_rfl) (by kernel_rfl) ?_
      refine reg_now 16 (.bool true) (some 112) hQN HS (by kernel_rfl) (by kernel_rfl) (fun w => by kernel_rfl) ?_
      refine reg_now 17 (.bool true) (some 113) hQN HS (by kernel_rfl) (by kernel_rfl) (fun w => by kernel_rfl) ?_
      refine reg_now 18 (.bool true) (some 114) hQN HS (by kernel_rfl) (by kernel_rfl) (fun w => by kernel_rfl) ?_
      refine reg_now 19 (.bool true) (some 115) hQN HS (by kernel_rfl) (by kernel_rfl) (fun w => by kernel_rfl) ?_
      refine reg_now 20 (.bool true) (some 116) hQN HS (by kernel_rfl) (by kernel_rfl) (fun w => by kernel_rfl) ?_
      refine reg_cast (l' := #[true, true, true, true, true, true, true, true, true, true, true, true, true, true, true, true, true, true, true, true, true, false, false, false, false, false, false, false, false, false, false, false, false, false, false, false, false, false, false, false, false, false, false, false, false, false, false, false, false, false, false, false, false, false, false, false, false, false, false, false, false, false, false, false, false, false, false, false, false, false, false, false, false, false, false, false, false, false, false, false]) (a' := { tmps := #[.bool false, .pointer (some ⟨b6, 0, none⟩), .pointer (some ⟨b10, 0, none⟩), .pointer (some ⟨b14, 0, none⟩), .pointer (some ⟨b20, 0, none⟩), .bool true, .pointer (some ⟨b26, 0, none⟩), .bool true, .pointer (some ⟨b30, 0, none⟩), .pointer (some ⟨b32, 0, none⟩), .bool true, .pointer (some ⟨b37, 0, none⟩), .bool false, .slice (some ⟨pl, ol, none⟩) 2 lc, .pointer (some ⟨b41, 0, none⟩), .bool true, .pointer (some ⟨b43, 0, none⟩), .bool true, .pointer (some ⟨b47, 0, none⟩), .bool true, .pointer (some ⟨b55, 0, none⟩), .bool true, .agg (varC 1).toArray, .agg (varC 0).toArray, .slice (some ⟨g4, 0, none⟩) 1 1, .agg cx.toArray, .agg (conC [97]).toArray, .agg (conC [98]).toArray, .tuple #[.agg cy.toArray, .bool true], .agg (cx).toArray, .agg (conC [97]).toArray, .agg (conC [98]).toArray, .slice (some ⟨g18, 0, none⟩) 2 2, .tuple #[.agg cy.toArray, .bool true], .agg cy.toArray, .bool true, .tuple #[.agg cz.toArray, .bool true], .agg (cy).toArray, .slice (some ⟨g24, 0, none⟩) 2 2, .tuple #[.agg cz.toArray, .bool true], .agg cz.toArray, .bool true, .agg (varC 1).toArray, .agg (conC [97]).toArray, .slice (some ⟨gK, 0, none⟩) 1 1, .agg cf.toArray, .tuple #[.agg ([.int .i64 g9.kind, .int .i64 g9.n, strT g9.name, glv, .slice (some ⟨pg, og, none⟩) g9.args.length gc] : List Value).toArray, .bool true], .agg (cf).toArray, .tuple #[.agg ([.int .i64 g9.kind, .int .i64 g9.n, strT g9.name, glv, .slice (some ⟨pg, og, none⟩) g9.args.length gc] : List Value).toArray, .bool true], .agg ([.int .i64 g9.kind, .int .i64 g9.n, strT g9.name, glv, .slice (some ⟨pg, og, none⟩) g9.args.length gc] : List Value).toArray, .bool true, .tuple #[.agg cn.toArray, .bool false], .agg (varC 1).toArray, .tuple #[.agg cn.toArray, .bool false], .agg cn.toArray, .bool false, .tuple #[.slice (some ⟨pl, ol, none⟩) 2 lc, .agg cb.toArray, .bool true], .agg (varC 0).toArray, .agg (conC [97]).toArray, .agg (varC 0).toArray, .slice (some ⟨gA, 0, none⟩) 2 2, .agg co.toArray, .slice (some ⟨gB, 0, none⟩) 2 2, .tuple #[.slice (some ⟨pl, ol, none⟩) 2 lc, .agg cb.toArray, .bool true], .slice (some ⟨pl, ol, none⟩) 2 lc, .agg cb.toArray, .bool true, .bool true, .bool false, .bool false, .slice (some ⟨pl, ol, none⟩) 2 lc, .int .i64 2, .bool false, .bool false, .tuple #[.agg cc.toArray, .bool true], .agg (cb).toArray, .slice (some ⟨pl, ol, none⟩) 2 lc, .tuple #[.agg cc.toArray, .bool true], .agg cc.toArray, .bool true, .tuple #[.agg cr.toArray, .bool true], .agg (cy).toArray, .tuple #[.agg cr.toArray, .bool true], .agg cr.toArray, .bool true, .tuple #[.agg ([.int .i64 u93.kind, .int .i64 u93.n, strT u93.name, .slice (some ⟨pv, ov, none⟩) u93.levels.length vc, vav] : List Value).toArray, .bool true], .agg (ints .i64 [1, -1, -1, -1]).toArray, .agg (ints .i64 l91.zs).toArray, .slice (some ⟨g51, 0, none⟩) 1 1, .agg ([.int .i64 3, .int .i64 0, strT [], .slice (some ⟨g51, 0, none⟩) 1 1, .slice none 0 0] : List Value).toArray, .agg (ints .i64 [-1, -1, -1, -1]).toArray, .agg (ints .i64 l92.zs).toArray, .slice (some ⟨g53, 0, none⟩) 1 1, .tuple #[.agg ([.int .i64 u93.kind, .int .i64 u93.n, strT u93.name, .slice (some ⟨pv, ov, none⟩) u93.levels.length vc, vav] : List Value).toArray, .bool true], .agg ([.int .i64 u93.kind, .int .i64 u93.n, strT u93.name, .slice (some ⟨pv, ov, none⟩) u93.levels.length vc, vav] : List Value).toArray, .bool true, .bool true, .bool true, .bool true, .bool true, .bool true, .bool true, .bool true, .bool true, .bool false, .bool true, .bool true, .bool true, .bool true, .bool true, .bool true, .bool true, .bool true, .bool true, .bool true, .bool true, .bool true, undef, undef, undef, undef, undef, undef, undef, undef, undef, undef, undef, undef, undef, undef, undef, undef, undef, undef, undef, undef, undef, undef, undef, undef, undef, undef, undef, undef, undef, undef, undef, undef, undef, undef, undef, undef, undef, undef, undef, undef, undef, undef, undef, undef, undef, undef, undef, undef, undef, undef, undef, undef, undef, undef, undef, undef, undef, undef], defers := [] }) (by kernel_rfl) (by kernel_rfl) ?_
      refine reg_nowIf 21 (.agg (cy).toArray) (some 117) hQN HS (by kernel_rfl) (by kernel_rfl) (fun w' hw => exec_load_mid 25 (.tmp 4) (by kernel_rfl) (b20) 0 (by kernel_rfl) (cy) _ (BY.out.below hw BY.out.lt).whole Try.underlying25 rfl (t5Size TY5.out)) ?_
      refine reg_nowIf 22 (.agg (conC [97]).toArray) (some 118) hQN HS (by kernel_rfl) (by kernel_rfl) (fun w' hw => exec_load_mid 25 (.tmp 2) (by kernel_rfl) (b10) 0 (by kernel_rfl) (conC [97]) _ (BA.out.below hw BA.out.lt).whole Try.underlying25 rfl (t5Size (rfl : (conC [97]).length = 5))) ?_
      refine reg_nowIf 23 (.agg (conC [98]).toArray) (some 119) hQN HS (by kernel_rfl) (by kernel_rfl) (fun w' hw => exec_load_mid 25 (.tmp 3) (by kernel_rfl) (b14) 0 (by kernel_rfl) (conC [98]) _ (BB.out.below hw BB.out.lt).whole Try.underlying25 rfl (t5Size (rfl : (conC [98]).length = 5))) ?_
      obtain ⟨q1, hgq1⟩ : ∃ y, Hid (w57.drew.heap.size = y) := ⟨_, rfl⟩
      refine reg_row 24 25 (conC [98]) q1 1 (some 120) (by kernel_rfl) (by kernel_rfl) hgq1 (exec_of _ _ (by kernel_rfl) (run_build_tm1 (con_at [] w57.drew [98]) w57.drew)) ?_
      intro u1 bw hb0 hsz
      have hb : Below w57.drew.heap.size w57.drew u1 := by rw [hgq1.out]; exact hb0
      have HS : Below w57.heap.size w57 u1 := HS.trans (hb.mono HS.size)
      have Rq1 := Lib.hid bw
      refine ⟨HS, ?_⟩
      clear hb hb0 hsz bw
      refine reg_call 25 14 #[.agg (conC [97]).toArray, .slice (some ⟨q1, 0, none⟩) 1 1] (some 121) _ (by kernel_rfl) (by kernel_rfl) (by kernel_rfl) (app_walk (F := []) aT [bT] (conC [97]) _ u1 (con_at [] u1 [97]) (sm_c 97) (one_tms9 Rq1.out (con_at [] u1 [98]) (by simp)) (by rw [SmTs, SmTs]; exact ⟨sm_c 98, trivial⟩) (by decide)) ?_
      rintro e u2 ⟨ca, rfl, hca, hb⟩
      have hca : TmAt [] _ y9 ca := TmAt.sub (fun k hk => by cases hk) _ _ hca
      have HS : Below w57.heap.size w57 u2 := HS.trans (hb.mono HS.size)
      refine ⟨_, rfl, HS, ?_⟩
      clear hb
      refine reg_call 26 13 #[.agg (cy).toArray, .agg (ca).toArray] (some 122) _ (by kernel_rfl) (by kernel_rfl) (by kernel_rfl) (sameterm_walk y9 y9 (cy) (ca) u2 [] [] (TY.out.below HS) (hca) sm_y9) ?_
      rintro e u3 ⟨rfl, hb⟩
      rw [show eqT y9 y9 = true by simp [eqT]]
      have HS : Below w57.heap.size w57 u3 := HS.trans (hb.mono HS.size)
      refine ⟨_, rfl, HS, ?_⟩
      clear hb
      clear hca
      refine reg_now 27 (.bool true) (some 123) hQN HS (by kernel_rfl) (by kernel_rfl) (fun w => by kernel_rfl) ?_
      refine reg_now 28 (.bool true) (some 124) hQN HS (by kernel_rfl) (by kernel_rfl) (fun w => by kernel_rfl) ?_
      refine reg_cast (l' := #[true, true, true, true, true, true, true, true, true, true, true, true, true, true, true, true, true, true, true, true, true, true, true, true, true, true, true, true, true, false, false, false, false, false, false, false, false, false, false, false, false, false, false, false, false, false, false, false, false, false, false, false, false, false, false, false, false, false, false, false, false, false, false, false, false, false, false, false, false, false, false, false, false, false, false, false, false, false, false, false]) (a' := { tmps := #[.bool false, .pointer (some ⟨b6, 0, none⟩), .pointer (some ⟨b10, 0, none⟩), .pointer (some ⟨b14, 0, none⟩), .pointer (some ⟨b20, 0, none⟩), .bool true, .pointer (some ⟨b26, 0, none⟩), .bool true, .pointer (some ⟨b30, 0, none⟩), .pointer (some ⟨b32, 0, none⟩), .bool true, .pointer (some ⟨b37, 0, none⟩), .bool false, .slice (some ⟨pl, ol, none⟩) 2 lc, .pointer (some ⟨b41, 0, none⟩), .bool true, .pointer (some ⟨b43, 0, none⟩), .bool true, .pointer (some ⟨b47, 0, none⟩), .bool true, .pointer (some ⟨b55, 0, none⟩), .bool true, .agg (varC 1).toArray, .agg (varC 0).toArray, .slice (some ⟨g4, 0, none⟩) 1 1, .agg cx.toArray, .agg (conC [97]).toArray, .agg (conC [98]).toArray, .tuple #[.agg cy.toArray, .bool true], .agg (cx).toArray, .agg (conC [97]).toArray, .agg (conC [98]).toArray, .slice (some ⟨g18, 0, none⟩) 2 2, .tuple #[.agg cy.toArray, .bool true], .agg cy.toArray, .bool true, .tuple #[.agg cz.toArray, .bool true], .agg (cy).toArray, .slice (some ⟨g24, 0, none⟩) 2 2, .tuple #[.agg cz.toArray, .bool true], .agg cz.toArray, .bool true, .agg (varC 1).toArray, .agg (conC [97]).toArray, .slice (some ⟨gK, 0, none⟩) 1 1, .agg cf.toArray, .tuple #[.agg ([.int .i64 g9.kind, .int .i64 g9.n, strT g9.name, glv, .slice (some ⟨pg, og, none⟩) g9.args.length gc] : List Value).toArray, .bool true], .agg (cf).toArray, .tuple #[.agg ([.int .i64 g9.kind, .int .i64 g9.n, strT g9.name, glv, .slice (some ⟨pg, og, none⟩) g9.args.length gc] : List Value).toArray, .bool true], .agg ([.int .i64 g9.kind, .int .i64 g9.n, strT g9.name, glv, .slice (some ⟨pg, og, none⟩) g9.args.length gc] : List Value).toArray, .bool true, .tuple #[.agg cn.toArray, .bool false], .agg (varC 1).toArray, .tuple #[.agg cn.toArray, .bool false], .agg cn.toArray, .bool false, .tuple #[.slice (some ⟨pl, ol, none⟩) 2 lc, .agg cb.toArray, .bool true], .agg (varC 0).toArray, .agg (conC [97]).toArray, .agg (varC 0).toArray, .slice (some ⟨gA, 0, none⟩) 2 2, .agg co.toArray, .slice (some ⟨gB, 0, none⟩) 2 2, .tuple #[.slice (some ⟨pl, ol, none⟩) 2 lc, .agg cb.toArray, .bool true], .slice (some ⟨pl, ol, none⟩) 2 lc, .agg cb.toArray, .bool true, .bool true, .bool false, .bool false, .slice (some ⟨pl, ol, none⟩) 2 lc, .int .i64 2, .bool false, .bool false, .tuple #[.agg cc.toArray, .bool true], .agg (cb).toArray, .slice (some ⟨pl, ol, none⟩) 2 lc, .tuple #[.agg cc.toArray, .bool true], .agg cc.toArray, .bool true, .tuple #[.agg cr.toArray, .bool true], .agg (cy).toArray, .tuple #[.agg cr.toArray, .bool true], .agg cr.toArray, .bool true, .tuple #[.agg ([.int .i64 u93.kind, .int .i64 u93.n, strT u93.name, .slice (some ⟨pv, ov, none⟩) u93.levels.length vc, vav] : List Value).toArray, .bool true], .agg (ints .i64 [1, -1, -1, -1]).toArray, .agg (ints .i64 l91.zs).toArray, .slice (some ⟨g51, 0, none⟩) 1 1, .agg ([.int .i64 3, .int .i64 0, strT [], .slice (some ⟨g51, 0, none⟩) 1 1, .slice none 0 0] : List Value).toArray, .agg (ints .i64 [-1, -1, -1, -1]).toArray, .agg (ints .i64 l92.zs).toArray, .slice (some ⟨g53, 0, none⟩) 1 1, .tuple #[.agg ([.int .i64 u93.kind, .int .i64 u93.n, strT u93.name, .slice (some ⟨pv, ov, none⟩) u93.levels.length vc, vav] : List Value).toArray, .bool true], .agg ([.int .i64 u93.kind, .int .i64 u93.n, strT u93.name, .slice (some ⟨pv, ov, none⟩) u93.levels.length vc, vav] : List Value).toArray, .bool true, .bool true, .bool true, .bool true, .bool true, .bool true, .bool true, .bool true, .bool true, .bool false, .bool true, .bool true, .bool true, .bool true, .bool true, .bool true, .bool true, .bool true, .bool true, .bool true, .bool true, .bool true, .agg (cy).toArray, .agg (conC [97]).toArray, .agg (conC [98]).toArray, .slice (some ⟨q1, 0, none⟩) 1 1, .agg ca.toArray, .bool true, .bool true, .bool true, undef, undef, undef, undef, undef, undef, undef, undef, undef, undef, undef, undef, undef, undef, undef, undef, undef, undef, undef, undef, undef, undef, undef, undef, undef, undef, undef, undef, undef, undef, undef, undef, undef, undef, undef, undef, undef, undef, undef, undef, undef, undef, undef, undef, undef, undef, undef, undef, undef, undef], defers := [] }) (by kernel_rfl) (by kernel_rfl) ?_
      refine reg_nowIf 29 (.agg (cz).toArray) (some 125) hQN HS (by kernel_rfl) (by kernel_rfl) (fun w' hw => exec_load_mid 25 (.tmp 6) (by kernel_rfl) (b26) 0 (by kernel_rfl) (cz) _ (BZ.out.below hw BZ.out.lt).whole Try.underlying25 rfl (t5Size TZ5.out)) ?_
      refine reg_nowIf 30 (.agg (cx).toArray) (some 126) hQN HS (by kernel_rfl) (by kernel_rfl) (fun w' hw => exec_load_mid 25 (.tmp 1) (by kernel_rfl) (b6) 0 (by kernel_rfl) (cx) _ (BX.out.below hw BX.out.lt).whole Try.underlying25 rfl (t5Size TX5.out)) ?_
      refine reg_call 31 13 #[.agg (cz).toArray, .agg (cx).toArray] (some 127) _ (by kernel_rfl) (by kernel_rfl) (by kernel_rfl) (sameterm_walk x9 x9 (cz) (cx) u3 [] [] (TZ.out.below HS) (TX.out.below HS) sm_x9) ?_
      rintro e u4 ⟨rfl, hb⟩
      rw [show eqT x9 x9 = true by simp [eqT]]
      have HS : Below w57.heap.size w57 u4 := HS.trans (hb.mono HS.size)
      refine ⟨_, rfl, HS, ?_⟩
      clear hb
      refine reg_now 32 (.bool true) (some 128) hQN HS (by kernel_rfl) (by kernel_rfl) (fun w => by kernel_rfl) ?_
      refine reg_now 33 (.bool true) (some 129) hQN HS (by kernel_rfl) (by kernel_rfl) (fun w => by kernel_rfl) ?_
      refine reg_cast (l' := #[true, true, true, true, true, true, true, true, true, true, true, true, true, true, true, true, true, true, true, true, true, true, true, true, true, true, true, true, true, true, true, true, true, true, false, false, false, false, false, false, false, false, false, false, false, false, false, false, false, false, false, false, false, false, false, false, false, false, false, false, false, false, false, false, false, false, false, false, false, false, false, false, false, false, false, false, false, false, false, false]) (a' := { tmps := #[.bool false, .pointer (some ⟨b6, 0, none⟩), .pointer (some ⟨b10, 0, none⟩), .pointer (some ⟨b14, 0, none⟩), .pointer (some ⟨b20, 0, none⟩), .bool true, .pointer (some ⟨b26, 0, none⟩), .bool true, .pointer (some ⟨b30, 0, none⟩), .pointer (some ⟨b32, 0, none⟩), .bool true, .pointer (some ⟨b37, 0, none⟩), .bool false, .slice (some ⟨pl, ol, none⟩) 2 lc, .pointer (some ⟨b41, 0, none⟩), .bool true, .pointer (some ⟨b43, 0, none⟩), .bool true, .pointer (some ⟨b47, 0, none⟩), .bool true, .pointer (some ⟨b55, 0, none⟩), .bool true, .agg (varC 1).toArray, .agg (varC 0).toArray, .slice (some ⟨g4, 0, none⟩) 1 1, .agg cx.toArray, .agg (conC [97]).toArray, .agg (conC [98]).toArray, .tuple #[.agg cy.toArray, .bool true], .agg (cx).toArray, .agg (conC [97]).toArray, .agg (conC [98]).toArray, .slice (some ⟨g18, 0, none⟩) 2 2, .tuple #[.agg cy.toArray, .bool true], .agg cy.toArray, .bool true, .tuple #[.agg cz.toArray, .bool true], .agg (cy).toArray, .slice (some ⟨g24, 0, none⟩) 2 2, .tuple #[.agg cz.toArray, .bool true], .agg cz.toArray, .bool true, .agg (varC 1).toArray, .agg (conC [97]).toArray, .slice (some ⟨gK, 0, none⟩) 1 1, .agg cf.toArray, .tuple #[.agg ([.int .i64 g9.kind, .int .i64 g9.n, strT g9.name, glv, .slice (some ⟨pg, og, none⟩) g9.args.length gc] : List Value).toArray, .bool true], .agg (cf).toArray, .tuple #[.agg ([.int .i64 g9.kind, .int .i64 g9.n, strT g9.name, glv, .slice (some ⟨pg, og, none⟩) g9.args.length gc] : List Value).toArray, .bool true], .agg ([.int .i64 g9.kind, .int .i64 g9.n, strT g9.name, glv, .slice (some ⟨pg, og, none⟩) g9.args.length gc] : List Value).toArray, .bool true, .tuple #[.agg cn.toArray, .bool false], .agg (varC 1).toArray, .tuple #[.agg cn.toArray, .bool false], .agg cn.toArray, .bool false, .tuple #[.slice (some ⟨pl, ol, none⟩) 2 lc, .agg cb.toArray, .bool true], .agg (varC 0).toArray, .agg (conC [97]).toArray, .agg (varC 0).toArray, .slice (some ⟨gA, 0, none⟩) 2 2, .agg co.toArray, .slice (some ⟨gB, 0, none⟩) 2 2, .tuple #[.slice (some ⟨pl, ol, none⟩) 2 lc, .agg cb.toArray, .bool true], .slice (some ⟨pl, ol, none⟩) 2 lc, .agg cb.toArray, .bool true, .bool true, .bool false, .bool false, .slice (some ⟨pl, ol, none⟩) 2 lc, .int .i64 2, .bool false, .bool false, .tuple #[.agg cc.toArray, .bool true], .agg (cb).toArray, .slice (some ⟨pl, ol, none⟩) 2 lc, .tuple #[.agg cc.toArray, .bool true], .agg cc.toArray, .bool true, .tuple #[.agg cr.toArray, .bool true], .agg (cy).toArray, .tuple #[.agg cr.toArray, .bool true], .agg cr.toArray, .bool true, .tuple #[.agg ([.int .i64 u93.kind, .int .i64 u93.n, strT u93.name, .slice (some ⟨pv, ov, none⟩) u93.levels.length vc, vav] : List Value).toArray, .bool true], .agg (ints .i64 [1, -1, -1, -1]).toArray, .agg (ints .i64 l91.zs).toArray, .slice (some ⟨g51, 0, none⟩) 1 1, .agg ([.int .i64 3, .int .i64 0, strT [], .slice (some ⟨g51, 0, none⟩) 1 1, .slice none 0 0] : List Value).toArray, .agg (ints .i64 [-1, -1, -1, -1]).toArray, .agg (ints .i64 l92.zs).toArray, .slice (some ⟨g53, 0, none⟩) 1 1, .tuple #[.agg ([.int .i64 u93.kind, .int .i64 u93.n, strT u93.name, .slice (some ⟨pv, ov, none⟩) u93.levels.length vc, vav] : List Value).toArray, .bool true], .agg ([.int .i64 u93.kind, .int .i64 u93.n, strT u93.name, .slice (some ⟨pv, ov, none⟩) u93.levels.length vc, vav] : List Value).toArray, .bool true, .bool true, .bool true, .bool true, .bool true, .bool true, .bool true, .bool true, .bool true, .bool false, .bool true, .bool true, .bool true, .bool true, .bool true, .bool true, .bool true, .bool true, .bool true, .bool true, .bool true, .bool true, .agg (cy).toArray, .agg (conC [97]).toArray, .agg (conC [98]).toArray, .slice (some ⟨q1, 0, none⟩) 1 1, .agg ca.toArray, .bool true, .bool true, .bool true, .agg (cz).toArray, .agg (cx).toArray, .bool true, .bool true, .bool true, undef, undef, undef, undef, undef, undef, undef, undef, undef, undef, undef, undef, undef, undef, undef, undef, undef, undef, undef, undef, undef, undef, undef, undef, undef, undef, undef, undef, undef, undef, undef, undef, undef, undef, undef, undef, undef, undef, undef, undef, undef, undef, undef, undef, undef], defers := [] }) (by kernel_rfl) (by kernel_rfl) ?_
      refine reg_now 34 (.pointer (some ⟨b32, 4, none⟩)) (some 130) hQN HS (by kernel_rfl) (by kernel_rfl) (fun w => by kernel_rfl) ?_
      refine reg_nowIf 35 (.slice (some ⟨pg, og, none⟩) 2 gc) (some 131) hQN HS (by kernel_rfl) (by kernel_rfl) (fun w' hw => exec_load_cell 23 (.tmp 130) (by kernel_rfl) b32 4 (by kernel_rfl) _ ((BG.out.below hw BG.out.lt).cell rfl) _ Try.underlying23 rfl) ?_
      refine reg_now 36 (.pointer (some ⟨pg, og + 5 * 1, none⟩)) (some 132) hQN HS (by kernel_rfl) (by kernel_rfl) (fun w' => exec_indexAt 23 (.tmp 131) (.const (.int .i64 ((1 : Nat) : Int))) (by kernel_rfl) _ _ _ (by kernel_rfl) (by kernel_rfl) (run_at_tm pg og 2 gc 1 (by decide) w')) ?_
      refine reg_now 37 (.pointer (some ⟨pg, og + 5 * 1 + 1, none⟩)) (some 133) hQN HS (by kernel_rfl) (by kernel_rfl) (fun w => by kernel_rfl) ?_
      refine reg_nowIf 38 (.int .i64 3) (some 134) hQN HS (by kernel_rfl) (by kernel_rfl) (fun w' hw => exec_load_cell 3 (.tmp 133) (by kernel_rfl) pg (og + 5 * 1 + 1) (by kernel_rfl) _ ((hw.cell (block_lt_of_cell GC.out)).trans GC.out) _ Try.underlying3 rfl) ?_
      refine reg_now 39 (.bool true) (some 135) hQN HS (by kernel_rfl) (by kernel_rfl) (fun w => by kernel_rfl) ?_
      refine reg_now 40 (.bool true) (some 136) hQN HS (by kernel_rfl) (by kernel_rfl) (fun w => by kernel_rfl) ?_
      refine reg_now 41 (.bool true) (some 137) hQN HS (by kernel_rfl) (by kernel_rfl) (fun w => by kernel_rfl) ?_
      refine reg_cast (l' := #[true, true, true, true, true, true, true, true, true, true, true, true, true, true, true, true, true, true, true, true, true, true, true, true, true, true, true, true, true, true, true, true, true, true, true, true, true, true, true, true, true, true, false, false, false, false, false, false, false, false, false, false, false, false, false, false, false, false, false, false, false, false, false, false, false, false, false, false, false, false, false, false, false, false, false, false, false, false, false, false]) (a' := { tmps := #[.bool false, .pointer (some ⟨b6, 0, none⟩), .pointer (some ⟨b10, 0, none⟩), .pointer (some ⟨b14, 0, none⟩), .pointer (some ⟨b20, 0, none⟩), .bool true, .pointer (some ⟨b26, 0, none⟩), .bool true, .pointer (some ⟨b30, 0, none⟩), .pointer (some ⟨b32, 0, none⟩), .bool true, .pointer (some ⟨b37, 0, none⟩), .bool false, .slice (some ⟨pl, ol, none⟩) 2 lc, .pointer (some ⟨b41, 0, none⟩), .bool true, .pointer (some ⟨b43, 0, none⟩), .bool true, .pointer (some ⟨b47, 0, none⟩), .bool true, .pointer (some ⟨b55, 0, none⟩), .bool true, .agg (varC 1).toArray, .agg (varC 0).toArray, .slice (some ⟨g4, 0, none⟩) 1 1, .agg cx.toArray, .agg (conC [97]).toArray, .agg (conC [98]).toArray, .tuple #[.agg cy.toArray, .bool true], .agg (cx).toArray, .agg (conC [97]).toArray, .agg (conC [98]).toArray, .slice (some ⟨g18, 0, none⟩) 2 2, .tuple #[.agg cy.toArray, .bool true], .agg cy.toArray, .bool true, .tuple #[.agg cz.toArray, .bool true], .agg (cy).toArray, .slice (some ⟨g24, 0, none⟩) 2 2, .tuple #[.agg cz.toArray, .bool true], .agg cz.toArray, .bool true, .agg (varC 1).toArray, .agg (conC [97]).toArray, .slice (some ⟨gK, 0, none⟩) 1 1, .agg cf.toArray, .tuple #[.agg ([.int .i64 g9.kind, .int .i64 g9.n, strT g9.name, glv, .slice (some ⟨pg, og, none⟩) g9.args.length gc] : List Value).toArray, .bool true], .agg (cf).toArray, .tuple #[.agg ([.int .i64 g9.kind, .int .i64 g9.n, strT g9.name, glv, .slice (some ⟨pg, og, none⟩) g9.args.length gc] : List Value).toArray, .bool true], .agg ([.int .i64 g9.kind, .int .i64 g9.n, strT g9.name, glv, .slice (some ⟨pg, og, none⟩) g9.args.length gc] : List Value).toArray, .bool true, .tuple #[.agg cn.toArray, .bool false], .agg (varC 1).toArray, .tuple #[.agg cn.toArray, .bool false], .agg cn.toArray, .bool false, .tuple #[.slice (some ⟨pl, ol, none⟩) 2 lc, .agg cb.toArray, .bool true], .agg (varC 0).toArray, .agg (conC [97]).toArray, .agg (varC 0).toArray, .slice (some ⟨gA, 0, none⟩) 2 2, .agg co.toArray, .slice (some ⟨gB, 0, none⟩) 2 2, .tuple #[.slice (some ⟨pl, ol, none⟩) 2 lc, .agg cb.toArray, .bool true], .slice (some ⟨pl, ol, none⟩) 2 lc, .agg cb.toArray, .bool true, .bool true, .bool false, .bool false, .slice (some ⟨pl, ol, none⟩) 2 lc, .int .i64 2, .bool false, .bool false, .tuple #[.agg cc.toArray, .bool true], .agg (cb).toArray, .slice (some ⟨pl, ol, none⟩) 2 lc, .tuple #[.agg cc.toArray, .bool true], .agg cc.toArray, .bool true, .tuple #[.agg cr.toArray, .bool true], .agg (cy).toArray, .tuple #[.agg cr.toArray, .bool true], .agg cr.toArray, .bool true, .tuple #[.agg ([.int .i64 u93.kind, .int .i64 u93.n, strT u93.name, .slice (some ⟨pv, ov, none⟩) u93.levels.length vc, vav] : List Value).toArray, .bool true], .agg (ints .i64 [1, -1, -1, -1]).toArray, .agg (ints .i64 l91.zs).toArray, .slice (some ⟨g51, 0, none⟩) 1 1, .agg ([.int .i64 3, .int .i64 0, strT [], .slice (some ⟨g51, 0, none⟩) 1 1, .slice none 0 0] : List Value).toArray, .agg (ints .i64 [-1, -1, -1, -1]).toArray, .agg (ints .i64 l92.zs).toArray, .slice (some ⟨g53, 0, none⟩) 1 1, .tuple #[.agg ([.int .i64 u93.kind, .int .i64 u93.n, strT u93.name, .slice (some ⟨pv, ov, none⟩) u93.levels.length vc, vav] : List Value).toArray, .bool true], .agg ([.int .i64 u93.kind, .int .i64 u93.n, strT u93.name, .slice (some ⟨pv, ov, none⟩) u93.levels.length vc, vav] : List Value).toArray, .bool true, .bool true, .bool true, .bool true, .bool true, .bool true, .bool true, .bool true, .bool true, .bool false, .bool true, .bool true, .bool true, .bool true, .bool true, .bool true, .bool true, .bool true, .bool true, .bool true, .bool true, .bool true, .agg (cy).toArray, .agg (conC [97]).toArray, .agg (conC [98]).toArray, .slice (some ⟨q1, 0, none⟩) 1 1, .agg ca.toArray, .bool true, .bool true, .bool true, .agg (cz).toArray, .agg (cx).toArray, .bool true, .bool true, .bool true, .pointer (some ⟨b32, 4, none⟩), .slice (some ⟨pg, og, none⟩) 2 gc, .pointer (some ⟨pg, og + 5 * 1, none⟩), .pointer (some ⟨pg, og + 5 * 1 + 1, none⟩), .int .i64 3, .bool true, .bool true, .bool true, undef, undef, undef, undef, undef, undef, undef, undef, undef, undef, undef, undef, undef, undef, undef, undef, undef, undef, undef, undef, undef, undef, undef, undef, undef, undef, undef, undef, undef, undef, undef, undef, undef, undef, undef, undef, undef], defers := [] }) (by kernel_rfl) (by kernel_rfl) ?_
      refine reg_nowIf 42 (.agg (cb).toArray) (some 138) hQN HS (by kernel_rfl) (by kernel_rfl) (fun w' hw => exec_load_mid 25 (.tmp 14) (by kernel_rfl) (b41) 0 (by kernel_rfl) (cb) _ (BO.out.below hw BO.out.lt).whole Try.underlying25 rfl (t5Size TB5.out)) ?_
      refine reg_call 43 44 #[strT [113]] (some 139) _ (by kernel_rfl) (by kernel_rfl) (by kernel_rfl) (con9_walk [113] u4) ?_
      rintro e u5 ⟨rfl, hb⟩
      have HS : Below w57.heap.size w57 u5 := HS.trans (hb.mono HS.size)
      refine ⟨_, rfl, HS, ?_⟩
      clear hb
      refine reg_call 44 13 #[.agg (cb).toArray, .agg (conC [113]).toArray] (some 140) _ (by kernel_rfl) (by kernel_rfl) (by kernel_rfl) (sameterm_walk (conT [113]) (conT [113]) (cb) (conC [113]) u5 [] [] (TB.out.below HS) (con_at [] u5 [113]) (sm_c 113)) ?_
      rintro e u6 ⟨rfl, hb⟩
      rw [show eqT (conT [113]) (conT [113]) = true by simp [eqT]]
      have HS : Below w57.heap.size w57 u6 := HS.trans (hb.mono HS.size)
      refine ⟨_, rfl, HS, ?_⟩
      clear hb
      refine reg_now 45 (.bool true) (some 141) hQN HS (by kernel_rfl) (by kernel_rfl) (fun w => by kernel_rfl) ?_
      refine reg_now 46 (.bool true) (some 142) hQN HS (by kernel_rfl) (by kernel_rfl) (fun w => by kernel_rfl) ?_
      refine reg_cast (l' := #[true, true, true, true, true, true, true, true, true, true, true, true, true, true, true, true, true, true, true, true, true, true, true, true, true, true, true, true, true, true, true, true, true, true, true, true, true, true, true, true, true, true, true, true, true, true, true, false, false, false, false, false, false, false, false, false, false, false, false, false, false, false, false, false, false, false, false, false, false, false, false, false, false, false, false, false, false, false, false, false]) (a' := { tmps := #[.bool false, .pointer (some ⟨b6, 0, none⟩), .pointer (some ⟨b10, 0, none⟩), .pointer (some ⟨b14, 0, none⟩), .pointer (some ⟨b20, 0, none⟩), .bool true, .pointer (some ⟨b26, 0, none⟩), .bool true, .pointer (some ⟨b30, 0, none⟩), .pointer (some ⟨b32, 0, none⟩), .bool true, .pointer (some ⟨b37, 0, none⟩), .bool false, .slice (some ⟨pl, ol, none⟩) 2 lc, .pointer (some ⟨b41, 0, none⟩), .bool true, .pointer (some ⟨b43, 0, none⟩), .bool true, .pointer (some ⟨b47, 0, none⟩), .bool true, .pointer (some ⟨b55, 0, none⟩), .bool true, .agg (varC 1).toArray, .agg (varC 0).toArray, .slice (some ⟨g4, 0, none⟩) 1 1, .agg cx.toArray, .agg (conC [97]).toArray, .agg (conC [98]).toArray, .tuple #[.agg cy.toArray, .bool true], .agg (cx).toArray, .agg (conC [97]).toArray, .agg (conC [98]).toArray, .slice (some ⟨g18, 0, none⟩) 2 2, .tuple #[.agg cy.toArray, .bool true], .agg cy.toArray, .bool true, .tuple #[.agg cz.toArray, .bool true], .agg (cy).toArray, .slice (some ⟨g24, 0, none⟩) 2 2, .tuple #[.agg cz.toArray, .bool true], .agg cz.toArray, .bool true, .agg (varC 1).toArray, .agg (conC [97]).toArray, .slice (some ⟨gK, 0, none⟩) 1 1, .agg cf.toArray, .tuple #[.agg ([.int .i64 g9.kind, .int .i64 g9.n, strT g9.name, glv, .slice (some ⟨pg, og, none⟩) g9.args.length gc] : List Value).toArray, .bool true], .agg (cf).toArray, .tuple #[.agg ([.int .i64 g9.kind, .int .i64 g9.n, strT g9.name, glv, .slice (some ⟨pg, og, none⟩) g9.args.length gc] : List Value).toArray, .bool true], .agg ([.int .i64 g9.kind, .int .i64 g9.n, strT g9.name, glv, .slice (some ⟨pg, og, none⟩) g9.args.length gc] : List Value).toArray, .bool true, .tuple #[.agg cn.toArray, .bool false], .agg (varC 1).toArray, .tuple #[.agg cn.toArray, .bool false], .agg cn.toArray, .bool false, .tuple #[.slice (some ⟨pl, ol, none⟩) 2 lc, .agg cb.toArray, .bool true], .agg (varC 0).toArray, .agg (conC [97]).toArray, .agg (varC 0).toArray, .slice (some ⟨gA, 0, none⟩) 2 2, .agg co.toArray, .slice (some ⟨gB, 0, none⟩) 2 2, .tuple #[.slice (some ⟨pl, ol, none⟩) 2 lc, .agg cb.toArray, .bool true], .slice (some ⟨pl, ol, none⟩) 2 lc, .agg cb.toArray, .bool true, .bool true, .bool false, .bool false, .slice (some ⟨pl, ol, none⟩) 2 lc, .int .i64 2, .bool false, .bool false, .tuple #[.agg cc.toArray, .bool true], .agg (cb).toArray, .slice (some ⟨pl, ol, none⟩) 2 lc, .tuple #[.agg cc.toArray, .bool true], .agg cc.toArray, .bool true, .tuple #[.agg cr.toArray, .bool true], .agg (cy).toArray, .tuple #[.agg cr.toArray, .bool true], .agg cr.toArray, .bool true, .tuple #[.agg ([.int .i64 u93.kind, .int .i64 u93.n, strT u93.name, .slice (some ⟨pv, ov, none⟩) u93.levels.length vc, vav] : List Value).toArray, .bool true], .agg (ints .i64 [1, -1, -1, -1]).toArray, .agg (ints .i64 l91.zs).toArray, .slice (some ⟨g51, 0, none⟩) 1 1, .agg ([.int .i64 3, .int .i64 0, strT [], .slice (some ⟨g51, 0, none⟩) 1 1, .slice none 0 0] : List Value).toArray, .agg (ints .i64 [-1, -1, -1, -1]).toArray, .agg (ints .i64 l92.zs).toArray, .slice (some ⟨g53, 0, none⟩) 1 1, .tuple #[.agg ([.int .i64 u93.kind, .int .i64 u93.n, strT u93.name, .slice (some ⟨pv, ov, none⟩) u93.levels.length vc, vav] : List Value).toArray, .bool true], .agg ([.int .i64 u93.kind, .int .i64 u93.n, strT u93.name, .slice (some ⟨pv, ov, none⟩) u93.levels.length vc, vav] : List Value).toArray, .bool true, .bool true, .bool true, .bool true, .bool true, .bool true, .bool true, .bool true, .bool true, .bool false, .bool true, .bool true, .bool true, .bool true, .bool true, .bool true, .bool true, .bool true, .bool true, .bool true, .bool true, .bool true, .agg (cy).toArray, .agg (conC [97]).toArray, .agg (conC [98]).toArray, .slice (some ⟨q1, 0, none⟩) 1 1, .agg ca.toArray, .bool true, .bool true, .bool true, .agg (cz).toArray, .agg (cx).toArray, .bool true, .bool true, .bool true, .pointer (some ⟨b32, 4, none⟩), .slice (some ⟨pg, og, none⟩) 2 gc, .pointer (some ⟨pg, og + 5 * 1, none⟩), .pointer (some ⟨pg, og + 5 * 1 + 1, none⟩), .int .i64 3, .bool true, .bool true, .bool true, .agg (cb).toArray, .agg (conC [113]).toArray, .bool true, .bool true, .bool true, undef, undef, undef, undef, undef, undef, undef, undef, undef, undef, undef, undef, undef, undef, undef, undef, undef, undef, undef, undef, undef, undef, undef, undef, undef, undef, undef, undef, undef, undef, undef, undef], defers := [] }) (by kernel_rfl) (by kernel_rfl) ?_
      refine reg_now 47 (.slice (some ⟨pl, ol, none⟩) 2 lc) (some 143) hQN HS (by kernel_rfl) (by kernel_rfl) (fun w => by kernel_rfl) ?_
      refine reg_now 48 (.pointer (some ⟨pl, ol + 6 * 1, none⟩)) (some 144) hQN HS (by kernel_rfl) (by kernel_rfl) (fun w' => exec_indexAt 66 (.tmp 143) (.const (.int .i64 ((1 : Nat) : Int))) (by kernel_rfl) _ _ _ (by kernel_rfl) (by kernel_rfl) (run_at_loc pl ol 2 lc 1 (by decide) w')) ?_
      refine reg_now 49 (.pointer (some ⟨pl, ol + 6 * 1 + 1, none⟩)) (some 145) hQN HS (by kernel_rfl) (by kernel_rfl) (fun w => by kernel_rfl) ?_
      refine reg_now 50 (.pointer (some ⟨pl, ol + 6 * 1 + 1 + 2, none⟩)) (some 146) hQN HS (by kernel_rfl) (by kernel_rfl) (fun w => by kernel_rfl) ?_
      refine reg_nowIf 51 (strT [112]) (some 147) hQN HS (by kernel_rfl) (by kernel_rfl) (fun w' hw => exec_load_cell 9 (.tmp 146) (by kernel_rfl) pl (ol + 6 * 1 + 1 + 2) (by kernel_rfl) _ ((hw.cell (p := ⟨pl, ol + 6 * 1 + 3, none⟩) (block_lt_of_cell LC.out)).trans LC.out) _ Try.underlying9 rfl) ?_
      refine reg_now 52 (.bool (decide ([112] = ([112] : List UInt8)))) (some 148) hQN HS (by kernel_rfl) (by kernel_rfl) (fun w' => exec_streqT 9 9 (.tmp 147) (.const (.string ⟨#[112]⟩)) (by kernel_rfl) [112] [112] (by kernel_rfl) (by kernel_rfl) (fun _ => rfl)) ?_
      rw [show decide ([112] = ([112] : List UInt8)) = true from rfl]
      refine reg_now 53 (.bool true) (some 149) hQN HS (by kernel_rfl) (by kernel_rfl) (fun w => by kernel_rfl) ?_
      refine reg_now 54 (.bool true) (some 150) hQN HS (by kernel_rfl) (by kernel_rfl) (fun w => by kernel_rfl) ?_
      refine reg_cast (l' := #[true, true, true, true, true, true, true, true, true, true, true, true, true, true, true, true, true, true, true, true, true, true, true, true, true, true, true, true, true, true, true, true, true, true, true, true, true, true, true, true, true, true, true, true, true, true, true, true, true, true, true, true, true, true, true, false, false, false, false, false, false, false, false, false, false, false, false, false, false, false, false, false, false, false, false, false, false, false, false, false]) (a' := { tmps := #[.bool false, .pointer (some ⟨b6, 0, none⟩), .pointer (some ⟨b10, 0, none⟩), .pointer (some ⟨b14, 0, none⟩), .pointer (some ⟨b20, 0, none⟩), .bool true, .pointer (some ⟨b26, 0, none⟩), .bool true, .pointer (some ⟨b30, 0, none⟩), .pointer (some ⟨b32, 0, none⟩), .bool true, .pointer (some ⟨b37, 0, none⟩), .bool false, .slice (some ⟨pl, ol, none⟩) 2 lc, .pointer (some ⟨b41, 0, none⟩), .bool true, .pointer (some ⟨b43, 0, none⟩), .bool true, .pointer (some ⟨b47, 0, none⟩), .bool true, .pointer (some ⟨b55, 0, none⟩), .bool true, .agg (varC 1).toArray, .agg (varC 0).toArray, .slice (some ⟨g4, 0, none⟩) 1 1, .agg cx.toArray, .agg (conC [97]).toArray, .agg (conC [98]).toArray, .tuple #[.agg cy.toArray, .bool true], .agg (cx).toArray, .agg (conC [97]).toArray, .agg (conC [98]).toArray, .slice (some ⟨g18, 0, none⟩) 2 2, .tuple #[.agg cy.toArray, .bool true], .agg cy.toArray, .bool true, .tuple #[.agg cz.toArray, .bool true], .agg (cy).toArray, .slice (some ⟨g24, 0, none⟩) 2 2, .tuple #[.agg cz.toArray, .bool true], .agg cz.toArray, .bool true, .agg (varC 1).toArray, .agg (conC [97]).toArray, .slice (some ⟨gK, 0, none⟩) 1 1, .agg cf.toArray, .tuple #[.agg ([.int .i64 g9.kind, .int .i64 g9.n, strT g9.name, glv, .slice (some ⟨pg, og, none⟩) g9.args.length gc] : List Value).toArray, .bool true], .agg (cf).toArray, .tuple #[.agg ([.int .i64 g9.kind, .int .i64 g9.n, strT g9.name, glv, .slice (some ⟨pg, og, none⟩) g9.args.length gc] : List Value).toArray, .bool true], .agg ([.int .i64 g9.kind, .int .i64 g9.n, strT g9.name, glv, .slice (some ⟨pg, og, none⟩) g9.args.length gc] : List Value).toArray, .bool true, .tuple #[.agg cn.toArray, .bool false], .agg (varC 1).toArray, .tuple #[.agg cn.toArray, .bool false], .agg cn.toArray, .bool false, .tuple #[.slice (some ⟨pl, ol, none⟩) 2 lc, .agg cb.toArray, .bool true], .agg (varC 0).toArray, .agg (conC [97]).toArray, .agg (varC 0).toArray, .slice (some ⟨gA, 0, none⟩) 2 2, .agg co.toArray, .slice (some ⟨gB, 0, none⟩) 2 2, .tuple #[.slice (some ⟨pl, ol, none⟩) 2 lc, .agg cb.toArray, .bool true], .slice (some ⟨pl, ol, none⟩) 2 lc, .agg cb.toArray, .bool true, .bool true, .bool false, .bool false, .slice (some ⟨pl, ol, none⟩) 2 lc, .int .i64 2, .bool false, .bool false, .tuple #[.agg cc.toArray, .bool true], .agg (cb).toArray, .slice (some ⟨pl, ol, none⟩) 2 lc, .tuple #[.agg cc.toArray, .bool true], .agg cc.toArray, .bool true, .tuple #[.agg cr.toArray, .bool true], .agg (cy).toArray, .tuple #[.agg cr.toArray, .bool true], .agg cr.toArray, .bool true, .tuple #[.agg ([.int .i64 u93.kind, .int .i64 u93.n, strT u93.name, .slice (some ⟨pv, ov, none⟩) u93.levels.length vc, vav] : List Value).toArray, .bool true], .agg (ints .i64 [1, -1, -1, -1]).toArray, .agg (ints .i64 l91.zs).toArray, .slice (some ⟨g51, 0, none⟩) 1 1, .agg ([.int .i64 3, .int .i64 0, strT [], .slice (some ⟨g51, 0, none⟩) 1 1, .slice none 0 0] : List Value).toArray, .agg (ints .i64 [-1, -1, -1, -1]).toArray, .agg (ints .i64 l92.zs).toArray, .slice (some ⟨g53, 0, none⟩) 1 1, .tuple #[.agg ([.int .i64 u93.kind, .int .i64 u93.n, strT u93.name, .slice (some ⟨pv, ov, none⟩) u93.levels.length vc, vav] : List Value).toArray, .bool true], .agg ([.int .i64 u93.kind, .int .i64 u93.n, strT u93.name, .slice (some ⟨pv, ov, none⟩) u93.levels.length vc, vav] : List Value).toArray, .bool true, .bool true, .bool true, .bool true, .bool true, .bool true, .bool true, .bool true, .bool true, .bool false, .bool true, .bool true, .bool true, .bool true, .bool true, .bool true, .bool true, .bool true, .bool true, .bool true, .bool true, .bool true, .agg (cy).toArray, .agg (conC [97]).toArray, .agg (conC [98]).toArray, .slice (some ⟨q1, 0, none⟩) 1 1, .agg ca.toArray, .bool true, .bool true, .bool true, .agg (cz).toArray, .agg (cx).toArray, .bool true, .bool true, .bool true, .pointer (some ⟨b32, 4, none⟩), .slice (some ⟨pg, og, none⟩) 2 gc, .pointer (some ⟨pg, og + 5 * 1, none⟩), .pointer (some ⟨pg, og + 5 * 1 + 1, none⟩), .int .i64 3, .bool true, .bool true, .bool true, .agg (cb).toArray, .agg (conC [113]).toArray, .bool true, .bool true, .bool true, .slice (some ⟨pl, ol, none⟩) 2 lc, .pointer (some ⟨pl, ol + 6 * 1, none⟩), .pointer (some ⟨pl, ol + 6 * 1 + 1, none⟩), .pointer (some ⟨pl, ol + 6 * 1 + 1 + 2, none⟩), strT [112], .bool true, .bool true, .bool true, undef, undef, undef, undef, undef, undef, undef, undef, undef, undef, undef, undef, undef, undef, undef, undef, undef, undef, undef, undef, undef, undef, undef, undef], defers := [] }) (by kernel_rfl) (by kernel_rfl) ?_
      refine reg_nowIf 55 (.agg (cc).toArray) (some 151) hQN HS (by kernel_rfl) (by kernel_rfl) (fun w' hw => exec_load_mid 25 (.tmp 16) (by kernel_rfl) (b43) 0 (by kernel_rfl) (cc) _ (BC.out.below hw BC.out.lt).whole Try.underlying25 rfl (t5Size TCC5.out)) ?_
      refine reg_nowIf 57 (.agg (conC [97]).toArray) (some 153) hQN HS (by kernel_rfl) (by kernel_rfl) (fun w' hw => exec_load_mid 25 (.tmp 2) (by kernel_rfl) (b10) 0 (by kernel_rfl) (conC [97]) _ (BA.out.below hw BA.out.lt).whole Try.underlying25 rfl (t5Size (rfl : (conC [97]).length = 5))) ?_
      refine reg_call 56 43 #[.int .i64 0] (some 152) _ (by kernel_rfl) (by kernel_rfl) (by kernel_rfl) (var9_walk 0 u6) ?_
      rintro e u7 ⟨rfl, hb⟩
      have HS : Below w57.heap.size w57 u7 := HS.trans (hb.mono HS.size)
      refine ⟨_, rfl, HS, ?_⟩
      clear hb
      refine reg_call 58 43 #[.int .i64 0] (some 154) _ (by kernel_rfl) (by kernel_rfl) (by kernel_rfl) (var9_walk 0 u7) ?_
      rintro e u8 ⟨rfl, hb⟩
      have HS : Below w57.heap.size w57 u8 := HS.trans (hb.mono HS.size)
      refine ⟨_, rfl, HS, ?_⟩
      clear hb
      obtain ⟨q9, hgq9⟩ : ∃ y, Hid (u8.heap.size = y) := ⟨_, rfl⟩
      refine reg_row 59 25 (conC [97] ++ varC 0) q9 2 (some 155) (by kernel_rfl) (by kernel_rfl) hgq9 (exec_of _ _ (by kernel_rfl) (run_build_tm2 (con_at [] u8 [97]) (var_at [] u8 0) u8)) ?_
      intro u9 bw hb0 hsz
      have hb : Below u8.heap.size u8 u9 := by rw [hgq9.out]; exact hb0
      have HS : Below w57.heap.size w57 u9 := HS.trans (hb.mono HS.size)
      have Rq9 := Lib.hid bw
      refine ⟨HS, ?_⟩
      clear hb hb0 hsz bw
      refine reg_call 60 15 #[.int .i64 7, .agg (varC 0).toArray, .slice (some ⟨q9, 0, none⟩) 2 2] (some 156) _ (by kernel_rfl) (by kernel_rfl) (by kernel_rfl) (bind_walk (F := []) 7 (varT 0) [aT, varT 0] _ _ u9 (var_at [] u9 0) (sm_v 0) (pair_tms Rq9.out (con_at [] u9 [97]) (var_at [] u9 0) (by simp)) (by rw [SmTs, SmTs, SmTs]; exact ⟨sm_c 97, sm_v 0, trivial⟩) (by decide)) ?_
      rintro e u10 ⟨cd, rfl, hca, hb⟩
      have hca : TmAt [] _ o9 cd := TmAt.sub (fun k hk => by cases hk) _ _ hca
      have HS : Below w57.heap.size w57 u10 := HS.trans (hb.mono HS.size)
      refine ⟨_, rfl, HS, ?_⟩
      clear hb
      refine reg_call 61 13 #[.agg (cc).toArray, .agg (cd).toArray] (some 157) _ (by kernel_rfl) (by kernel_rfl) (by kernel_rfl) (sameterm_walk o9 o9 (cc) (cd) u10 [] [] (TCC.out.below HS) (hca) sm_o9) ?_
      rintro e u11 ⟨rfl, hb⟩
      rw [show eqT o9 o9 = true by simp [eqT]]
      have HS : Below w57.heap.size w57 u11 := HS.trans (hb.mono HS.size)
      refine ⟨_, rfl, HS, ?_⟩
      clear hb
      clear hca
      refine reg_now 62 (.bool true) (some 158) hQN HS (by kernel_rfl) (by kernel_rfl) (fun w => by kernel_rfl) ?_
      refine reg_now 63 (.bool true) (some 159) hQN HS (by kernel_rfl) (by kernel_rfl) (fun w => by kernel_rfl) ?_
      refine reg_cast (l' := #[true, true, true, true, true, true, true, true, true, true, true, true, true, true, true, true, true, true, true, true, true, true, true, true, true, true, true, true, true, true, true, true, true, true, true, true, true, true, true, true, true, true, true, true, true, true, true, true, true, true, true, true, true, true, true, true, true, true, true, true, true, true, true, true, false, false, false, false, false, false, false, false, false, false, false, false, false, false, false, false]) (a' := { tmps := #[.bool false, .pointer (some ⟨b6, 0, none⟩), .pointer (some ⟨b10, 0, none⟩), .pointer (some ⟨b14, 0, none⟩), .pointer (some ⟨b20, 0, none⟩), .bool true, .pointer (some ⟨b26, 0, none⟩), .bool true, .pointer (some ⟨b30, 0, none⟩), .pointer (some ⟨b32, 0, none⟩), .bool true, .pointer (some ⟨b37, 0, none⟩), .bool false, .slice (some ⟨pl, ol, none⟩) 2 lc, .pointer (some ⟨b41, 0, none⟩), .bool true, .pointer (some ⟨b43, 0, none⟩), .bool true, .pointer (some ⟨b47, 0, none⟩), .bool true, .pointer (some ⟨b55, 0, none⟩), .bool true, .agg (varC 1).toArray, .agg (varC 0).toArray, .slice (some ⟨g4, 0, none⟩) 1 1, .agg cx.toArray, .agg (conC [97]).toArray, .agg (conC [98]).toArray, .tuple #[.agg cy.toArray, .bool true], .agg (cx).toArray, .agg (conC [97]).toArray, .agg (conC [98]).toArray, .slice (some ⟨g18, 0, none⟩) 2 2, .tuple #[.agg cy.toArray, .bool true], .agg cy.toArray, .bool true, .tuple #[.agg cz.toArray, .bool true], .agg (cy).toArray, .slice (some ⟨g24, 0, none⟩) 2 2, .tuple #[.agg cz.toArray, .bool true], .agg cz.toArray, .bool true, .agg (varC 1).toArray, .agg (conC [97]).toArray, .slice (some ⟨gK, 0, none⟩) 1 1, .agg cf.toArray, .tuple #[.agg ([.int .i64 g9.kind, .int .i64 g9.n, strT g9.name, glv, .slice (some ⟨pg, og, none⟩) g9.args.length gc] : List Value).toArray, .bool true], .agg (cf).toArray, .tuple #[.agg ([.int .i64 g9.kind, .int .i64 g9.n, strT g9.name, glv, .slice (some ⟨pg, og, none⟩) g9.args.length gc] : List Value).toArray, .bool true], .agg ([.int .i64 g9.kind, .int .i64 g9.n, strT g9.name, glv, .slice (some ⟨pg, og, none⟩) g9.args.length gc] : List Value).toArray, .bool true, .tuple #[.agg cn.toArray, .bool false], .agg (varC 1).toArray, .tuple #[.agg cn.toArray, .bool false], .agg cn.toArray, .bool false, .tuple #[.slice (some ⟨pl, ol, none⟩) 2 lc, .agg cb.toArray, .bool true], .agg (varC 0).toArray, .agg (conC [97]).toArray, .agg (varC 0).toArray, .slice (some ⟨gA, 0, none⟩) 2 2, .agg co.toArray, .slice (some ⟨gB, 0, none⟩) 2 2, .tuple #[.slice (some ⟨pl, ol, none⟩) 2 lc, .agg cb.toArray, .bool true], .slice (some ⟨pl, ol, none⟩) 2 lc, .agg cb.toArray, .bool true, .bool true, .bool false, .bool false, .slice (some ⟨pl, ol, none⟩) 2 lc, .int .i64 2, .bool false, .bool false, .tuple #[.agg cc.toArray, .bool true], .agg (cb).toArray, .slice (some ⟨pl, ol, none⟩) 2 lc, .tuple #[.agg cc.toArray, .bool true], .agg cc.toArray, .bool true, .tuple #[.agg cr.toArray, .bool true], .agg (cy).toArray, .tuple #[.agg cr.toArray, .bool true], .agg cr.toArray, .bool true, .tuple #[.agg ([.int .i64 u93.kind, .int .i64 u93.n, strT u93.name, .slice (some ⟨pv, ov, none⟩) u93.levels.length vc, vav] : List Value).toArray, .bool true], .agg (ints .i64 [1, -1, -1, -1]).toArray, .agg (ints .i64 l91.zs).toArray, .slice (some ⟨g51, 0, none⟩) 1 1, .agg ([.int .i64 3, .int .i64 0, strT [], .slice (some ⟨g51, 0, none⟩) 1 1, .slice none 0 0] : List Value).toArray, .agg (ints .i64 [-1, -1, -1, -1]).toArray, .agg (ints .i64 l92.zs).toArray, .slice (some ⟨g53, 0, none⟩) 1 1, .tuple #[.agg ([.int .i64 u93.kind, .int .i64 u93.n, strT u93.name, .slice (some ⟨pv, ov, none⟩) u93.levels.length vc, vav] : List Value).toArray, .bool true], .agg ([.int .i64 u93.kind, .int .i64 u93.n, strT u93.name, .slice (some ⟨pv, ov, none⟩) u93.levels.length vc, vav] : List Value).toArray, .bool true, .bool true, .bool true, .bool true, .bool true, .bool true, .bool true, .bool true, .bool true, .bool false, .bool true, .bool true, .bool true, .bool true, .bool true, .bool true, .bool true, .bool true, .bool true, .bool true, .bool true, .bool true, .agg (cy).toArray, .agg (conC [97]).toArray, .agg (conC [98]).toArray, .slice (some ⟨q1, 0, none⟩) 1 1, .agg ca.toArray, .bool true, .bool true, .bool true, .agg (cz).toArray, .agg (cx).toArray, .bool true, .bool true, .bool true, .pointer (some ⟨b32, 4, none⟩), .slice (some ⟨pg, og, none⟩) 2 gc, .pointer (some ⟨pg, og + 5 * 1, none⟩), .pointer (some ⟨pg, og + 5 * 1 + 1, none⟩), .int .i64 3, .bool true, .bool true, .bool true, .agg (cb).toArray, .agg (conC [113]).toArray, .bool true, .bool true, .bool true, .slice (some ⟨pl, ol, none⟩) 2 lc, .pointer (some ⟨pl, ol + 6 * 1, none⟩), .pointer (some ⟨pl, ol + 6 * 1 + 1, none⟩), .pointer (some ⟨pl, ol + 6 * 1 + 1 + 2, none⟩), strT [112], .bool true, .bool true, .bool true, .agg (cc).toArray, .agg (varC 0).toArray, .agg (conC [97]).toArray, .agg (varC 0).toArray, .slice (some ⟨q9, 0, none⟩) 2 2, .agg cd.toArray, .bool true, .bool true, .bool true, undef, undef, undef, undef, undef, undef, undef, undef, undef, undef, undef, undef, undef, undef, undef], defers := [] }) (by kernel_rfl) (by kernel_rfl) ?_
      refine reg_nowIf 64 (.agg (cr).toArray) (some 160) hQN HS (by kernel_rfl) (by kernel_rfl) (fun w' hw => exec_load_mid 25 (.tmp 18) (by kernel_rfl) (b47) 0 (by kernel_rfl) (cr) _ (BRn.out.below hw BRn.out.lt).whole Try.underlying25 rfl (t5Size TR5.out)) ?_
      refine reg_nowIf 66 (.agg (conC [98]).toArray) (some 162) hQN HS (by kernel_rfl) (by kernel_rfl) (fun w' hw => exec_load_mid 25 (.tmp 3) (by kernel_rfl) (b14) 0 (by kernel_rfl) (conC [98]) _ (BB.out.below hw BB.out.lt).whole Try.underlying25 rfl (t5Size (rfl : (conC [98]).length = 5))) ?_
      refine reg_two 65 67 (by kernel_rfl) ?_ ?_
      · skip
        refine op_call 65 44 #[strT [99]] (some 161) _ (by kernel_rfl) (by kernel_rfl) (by kernel_rfl) (con9_walk [99] u11) ?_
        rintro e u12 ⟨rfl, hb⟩
        have HS : Below w57.heap.size w57 u12 := HS.trans (hb.mono HS.size)
        refine ⟨_, rfl, HS, ?_⟩
        clear hb
        obtain ⟨q13, hgq13⟩ : ∃ y, Hid (u12.heap.size = y) := ⟨_, rfl⟩
        refine reg_row 67 25 (conC [98]) q13 1 (some 163) (by kernel_rfl) (by kernel_rfl) hgq13 (exec_of _ _ (by kernel_rfl) (run_build_tm1 (con_at [] u12 [98]) u12)) ?_
        intro u13 bw hb0 hsz
        have hb : Below u12.heap.size u12 u13 := by rw [hgq13.out]; exact hb0
        have HS : Below w57.heap.size w57 u13 := HS.trans (hb.mono HS.size)
        have Rq13 := Lib.hid bw
        refine ⟨HS, ?_⟩
        clear hb hb0 hsz bw
        refine reg_call 68 14 #[.agg (conC [99]).toArray, .slice (some ⟨q13, 0, none⟩) 1 1] (some 164) _ (by kernel_rfl) (by kernel_rfl) (by kernel_rfl) (app_walk (F := []) (conT [99]) [bT] (conC [99]) _ u13 (con_at [] u13 [99]) (sm_c 99) (one_tms9 Rq13.out (con_at [] u13 [98]) (by simp)) (by rw [SmTs, SmTs]; exact ⟨sm_c 98, trivial⟩) (by decide)) ?_
        rintro e u14 ⟨ce, rfl, hca, hb⟩
        have hca : TmAt [] _ r9 ce := TmAt.sub (fun k hk => by cases hk) _ _ hca
        have HS : Below w57.heap.size w57 u14 := HS.trans (hb.mono HS.size)
        refine ⟨_, rfl, HS, ?_⟩
        clear hb
        refine reg_call 69 13 #[.agg (cr).toArray, .agg (ce).toArray] (some 165) _ (by kernel_rfl) (by kernel_rfl) (by kernel_rfl) (sameterm_walk r9 r9 (cr) (ce) u14 [] [] (TR.out.below HS) (hca) (sm_two9 5 (sm_c 99) (sm_c 98))) ?_
        rintro e u15 ⟨rfl, hb⟩
        rw [show eqT r9 r9 = true by simp [eqT]]
        have HS : Below w57.heap.size w57 u15 := HS.trans (hb.mono HS.size)
        refine ⟨_, rfl, HS, ?_⟩
        clear hb
        clear hca
        refine reg_now 70 (.bool true) (some 166) hQN HS (by kernel_rfl) (by kernel_rfl) (fun w => by kernel_rfl) ?_
        refine reg_now 71 (.bool true) (some 167) hQN HS (by kernel_rfl) (by kernel_rfl) (fun w => by kernel_rfl) ?_
        refine reg_cast (l' := #[true, true, true, true, true, true, true, true, true, true, true, true, true, true, true, true, true, true, true, true, true, true, true, true, true, true, true, true, true, true, true, true, true, true, true, true, true, true, true, true, true, true, true, true, true, true, true, true, true, true, true, true, true, true, true, true, true, true, true, true, true, true, true, true, true, true, true, true, true, true, true, true, false, false, false, false, false, false, false, false]) (a' := { tmps := #[.bool false, .pointer (some ⟨b6, 0, none⟩), .pointer (some ⟨b10, 0, none⟩), .pointer (some ⟨b14, 0, none⟩), .pointer (some ⟨b20, 0, none⟩), .bool true, .pointer (some ⟨b26, 0, none⟩), .bool true, .pointer (some ⟨b30, 0, none⟩), .pointer (some ⟨b32, 0, none⟩), .bool true, .pointer (some ⟨b37, 0, none⟩), .bool false, .slice (some ⟨pl, ol, none⟩) 2 lc, .pointer (some ⟨b41, 0, none⟩), .bool true, .pointer (some ⟨b43, 0, none⟩), .bool true, .pointer (some ⟨b47, 0, none⟩), .bool true, .pointer (some ⟨b55, 0, none⟩), .bool true, .agg (varC 1).toArray, .agg (varC 0).toArray, .slice (some ⟨g4, 0, none⟩) 1 1, .agg cx.toArray, .agg (conC [97]).toArray, .agg (conC [98]).toArray, .tuple #[.agg cy.toArray, .bool true], .agg (cx).toArray, .agg (conC [97]).toArray, .agg (conC [98]).toArray, .slice (some ⟨g18, 0, none⟩) 2 2, .tuple #[.agg cy.toArray, .bool true], .agg cy.toArray, .bool true, .tuple #[.agg cz.toArray, .bool true], .agg (cy).toArray, .slice (some ⟨g24, 0, none⟩) 2 2, .tuple #[.agg cz.toArray, .bool true], .agg cz.toArray, .bool true, .agg (varC 1).toArray, .agg (conC [97]).toArray, .slice (some ⟨gK, 0, none⟩) 1 1, .agg cf.toArray, .tuple #[.agg ([.int .i64 g9.kind, .int .i64 g9.n, strT g9.name, glv, .slice (some ⟨pg, og, none⟩) g9.args.length gc] : List Value).toArray, .bool true], .agg (cf).toArray, .tuple #[.agg ([.int .i64 g9.kind, .int .i64 g9.n, strT g9.name, glv, .slice (some ⟨pg, og, none⟩) g9.args.length gc] : List Value).toArray, .bool true], .agg ([.int .i64 g9.kind, .int .i64 g9.n, strT g9.name, glv, .slice (some ⟨pg, og, none⟩) g9.args.length gc] : List Value).toArray, .bool true, .tuple #[.agg cn.toArray, .bool false], .agg (varC 1).toArray, .tuple #[.agg cn.toArray, .bool false], .agg cn.toArray, .bool false, .tuple #[.slice (some ⟨pl, ol, none⟩) 2 lc, .agg cb.toArray, .bool true], .agg (varC 0).toArray, .agg (conC [97]).toArray, .agg (varC 0).toArray, .slice (some ⟨gA, 0, none⟩) 2 2, .agg co.toArray, .slice (some ⟨gB, 0, none⟩) 2 2, .tuple #[.slice (some ⟨pl, ol, none⟩) 2 lc, .agg cb.toArray, .bool true], .slice (some ⟨pl, ol, none⟩) 2 lc, .agg cb.toArray, .bool true, .bool true, .bool false, .bool false, .slice (some ⟨pl, ol, none⟩) 2 lc, .int .i64 2, .bool false, .bool false, .tuple #[.agg cc.toArray, .bool true], .agg (cb).toArray, .slice (some ⟨pl, ol, none⟩) 2 lc, .tuple #[.agg cc.toArray, .bool true], .agg cc.toArray, .bool true, .tuple #[.agg cr.toArray, .bool true], .agg (cy).toArray, .tuple #[.agg cr.toArray, .bool true], .agg cr.toArray, .bool true, .tuple #[.agg ([.int .i64 u93.kind, .int .i64 u93.n, strT u93.name, .slice (some ⟨pv, ov, none⟩) u93.levels.length vc, vav] : List Value).toArray, .bool true], .agg (ints .i64 [1, -1, -1, -1]).toArray, .agg (ints .i64 l91.zs).toArray, .slice (some ⟨g51, 0, none⟩) 1 1, .agg ([.int .i64 3, .int .i64 0, strT [], .slice (some ⟨g51, 0, none⟩) 1 1, .slice none 0 0] : List Value).toArray, .agg (ints .i64 [-1, -1, -1, -1]).toArray, .agg (ints .i64 l92.zs).toArray, .slice (some ⟨g53, 0, none⟩) 1 1, .tuple #[.agg ([.int .i64 u93.kind, .int .i64 u93.n, strT u93.name, .slice (some ⟨pv, ov, none⟩) u93.levels.length vc, vav] : List Value).toArray, .bool true], .agg ([.int .i64 u93.kind, .int .i64 u93.n, strT u93.name, .slice (some ⟨pv, ov, none⟩) u93.levels.length vc, vav] : List Value).toArray, .bool true, .bool true, .bool true, .bool true, .bool true, .bool true, .bool true, .bool true, .bool true, .bool false, .bool true, .bool true, .bool true, .bool true, .bool true, .bool true, .bool true, .bool true, .bool true, .bool true, .bool true, .bool true, .agg (cy).toArray, .agg (conC [97]).toArray, .agg (conC [98]).toArray, .slice (some ⟨q1, 0, none⟩) 1 1, .agg ca.toArray, .bool true, .bool true, .bool true, .agg (cz).toArray, .agg (cx).toArray, .bool true, .bool true, .bool true, .pointer (some ⟨b32, 4, none⟩), .slice (some ⟨pg, og, none⟩) 2 gc, .pointer (some ⟨pg, og + 5 * 1, none⟩), .pointer (some ⟨pg, og + 5 * 1 + 1, none⟩), .int .i64 3, .bool true, .bool true, .bool true, .agg (cb).toArray, .agg (conC [113]).toArray, .bool true, .bool true, .bool true, .slice (some ⟨pl, ol, none⟩) 2 lc, .pointer (some ⟨pl, ol + 6 * 1, none⟩), .pointer (some ⟨pl, ol + 6 * 1 + 1, none⟩), .pointer (some ⟨pl, ol + 6 * 1 + 1 + 2, none⟩), strT [112], .bool true, .bool true, .bool true, .agg (cc).toArray, .agg (varC 0).toArray, .agg (conC [97]).toArray, .agg (varC 0).toArray, .slice (some ⟨q9, 0, none⟩) 2 2, .agg cd.toArray, .bool true, .bool true, .bool true, .agg (cr).toArray, .agg (conC [99]).toArray, .agg (conC [98]).toArray, .slice (some ⟨q13, 0, none⟩) 1 1, .agg ce.toArray, .bool true, .bool true, .bool true, undef, undef, undef, undef, undef, undef, undef], defers := [] }) (by kernel_rfl) (by kernel_rfl) ?_
        refine reg_now 72 (.pointer (some ⟨b55, 3, none⟩)) (some 168) hQN HS (by kernel_rfl) (by kernel_rfl) (fun w => by kernel_rfl) ?_
        refine reg_nowIf 73 (.slice (some ⟨pv, ov, none⟩) 1 vc) (some 169) hQN HS (by kernel_rfl) (by kernel_rfl) (fun w' hw => exec_load_cell 22 (.tmp 168) (by kernel_rfl) b55 3 (by kernel_rfl) _ ((BVv.out.below hw BVv.out.lt).cell rfl) _ Try.underlying22 rfl) ?_
        refine reg_now 74 (.pointer (some ⟨pv, ov + 5 * 0, none⟩)) (some 170) hQN HS (by kernel_rfl) (by kernel_rfl) (fun w' => exec_indexAt 22 (.tmp 169) (.const (.int .i64 ((0 : Nat) : Int))) (by kernel_rfl) _ _ _ (by kernel_rfl) (by kernel_rfl) (run_at_lv pv ov 1 vc 0 (by decide) w')) ?_
        refine reg_now 75 (.pointer (some ⟨pv, ov + 5 * 0 + 0, none⟩)) (some 171) hQN HS (by kernel_rfl) (by kernel_rfl) (fun w => by kernel_rfl) ?_
        refine reg_nowIf 76 (.int .i64 3) (some 172) hQN HS (by kernel_rfl) (by kernel_rfl) (fun w' hw => exec_load_cell 3 (.tmp 171) (by kernel_rfl) pv (ov + 5 * 0 + 0) (by kernel_rfl) _ ((hw.cell (block_lt_of_cell VC.out)).trans VC.out) _ Try.underlying3 rfl) ?_
        refine reg_now 77 (.bool true) (some 173) hQN HS (by kernel_rfl) (by kernel_rfl) (fun w => by kernel_rfl) ?_
        refine reg_now 78 (.bool true) (some 174) hQN HS (by kernel_rfl) (by kernel_rfl) (fun w => by kernel_rfl) ?_
        refine reg_now 79 (.bool true) (some 0) hQN HS (by kernel_rfl) (by kernel_rfl) (fun w => by kernel_rfl) ?_
        refine reg_done (by kernel_rfl) (hN _ _ ?_)
        generalize hact : Act.put _ (some 0) _ = act
        simp only [Act.put, sA, sC, sZ] at hact
        subst hact
        go_wp2
        go_ret
        exact ⟨rfl, BE.out.trans (HS.mono BE.out.size)⟩
      · skip
        obtain ⟨g, hgN⟩ : ∃ y, Hid (u11.heap.size = y) := ⟨_, rfl⟩
        refine op_row 67 g 1 25 (conC [98]) (some 163) (by kernel_rfl) (by kernel_rfl) hgN (exec_of _ _ (by kernel_rfl) (run_build_tm1 (con_at [] u11 [98]) u11)) ?_
        intro u16 bw hb
        have HS : Below w57.heap.size w57 u16 := HS.trans (hb.mono HS.size)
        have Rg := Lib.hid bw
        refine ⟨HS, ?_⟩
        clear hb bw
        refine reg_call 65 44 #[strT [99]] (some 161) _ (by kernel_rfl) (by kernel_rfl) (by kernel_rfl) (con9_walk [99] u16) ?_
        rintro e u17 ⟨rfl, hb⟩
        have Rg := Lib.hid (Rg.out.below hb Rg.out.lt)
        have HS : Below w57.heap.size w57 u17 := HS.trans (hb.mono HS.size)
        refine ⟨_, rfl, HS, ?_⟩
        clear hb
        refine reg_call 68 14 #[.agg (conC [99]).toArray, .slice (some ⟨g, 0, none⟩) 1 1] (some 164) _ (by kernel_rfl) (by kernel_rfl) (by kernel_rfl) (app_walk (F := []) (conT [99]) [bT] (conC [99]) _ u17 (con_at [] u17 [99]) (sm_c 99) (one_tms9 Rg.out (con_at [] u17 [98]) (by simp)) (by rw [SmTs, SmTs]; exact ⟨sm_c 98, trivial⟩) (by decide)) ?_
        rintro e u18 ⟨ce, rfl, hca, hb⟩
        have hca : TmAt [] _ r9 ce := TmAt.sub (fun k hk => by cases hk) _ _ hca
        have HS : Below w57.heap.size w57 u18 := HS.trans (hb.mono HS.size)
        refine ⟨_, rfl, HS, ?_⟩
        clear hb
        refine reg_call 69 13 #[.agg (cr).toArray, .agg (ce).toArray] (some 165) _ (by kernel_rfl) (by kernel_rfl) (by kernel_rfl) (sameterm_walk r9 r9 (cr) (ce) u18 [] [] (TR.out.below HS) (hca) (sm_two9 5 (sm_c 99) (sm_c 98))) ?_
        rintro e u19 ⟨rfl, hb⟩
        rw [show eqT r9 r9 = true by simp [eqT]]
        have HS : Below w57.heap.size w57 u19 := HS.trans (hb.mono HS.size)
        refine ⟨_, rfl, HS, ?_⟩
        clear hb
        clear hca
        refine reg_now 70 (.bool true) (some 166) hQN HS (by kernel_rfl) (by kernel_rfl) (fun w => by kernel_rfl) ?_
        refine reg_now 71 (.bool true) (some 167) hQN HS (by kernel_rfl) (by kernel_rfl) (fun w => by kernel_rfl) ?_
        refine reg_cast (l' := #[true, true, true, true, true, true, true, true, true, true, true, true, true, true, true, true, true, true, true, true, true, true, true, true, true, true, true, true, true, true, true, true, true, true, true, true, true, true, true, true, true, true, true, true, true, true, true, true, true, true, true, true, true, true, true, true, true, true, true, true, true, true, true, true, true, true, true, true, true, true, true, true, false, false, false, false, false, false, false, false]) (a' := { tmps := #[.bool false, .pointer (some ⟨b6, 0, none⟩), .pointer (some ⟨b10, 0, none⟩), .pointer (some ⟨b14, 0, none⟩), .pointer (some ⟨b20, 0, none⟩), .bool true, .pointer (some ⟨b26, 0, none⟩), .bool true, .pointer (some ⟨b30, 0, none⟩), .pointer (some ⟨b32, 0, none⟩), .bool true, .pointer (some ⟨b37, 0, none⟩), .bool false, .slice (some ⟨pl, ol, none⟩) 2 lc, .pointer (some ⟨b41, 0, none⟩), .bool true, .pointer (some ⟨b43, 0, none⟩), .bool true, .pointer (some ⟨b47, 0, none⟩), .bool true, .pointer (some ⟨b55, 0, none⟩), .bool true, .agg (varC 1).toArray, .agg (varC 0).toArray, .slice (some ⟨g4, 0, none⟩) 1 1, .agg cx.toArray, .agg (conC [97]).toArray, .agg (conC [98]).toArray, .tuple #[.agg cy.toArray, .bool true], .agg (cx).toArray, .agg (conC [97]).toArray, .agg (conC [98]).toArray, .slice (some ⟨g18, 0, none⟩) 2 2, .tuple #[.agg cy.toArray, .bool true], .agg cy.toArray, .bool true, .tuple #[.agg cz.toArray, .bool true], .agg (cy).toArray, .slice (some ⟨g24, 0, none⟩) 2 2, .tuple #[.agg cz.toArray, .bool true], .agg cz.toArray, .bool true, .agg (varC 1).toArray, .agg (conC [97]).toArray, .slice (some ⟨gK, 0, none⟩) 1 1, .agg cf.toArray, .tuple #[.agg ([.int .i64 g9.kind, .int .i64 g9.n, strT g9.name, glv, .slice (some ⟨pg, og, none⟩) g9.args.length gc] : List Value).toArray, .bool true], .agg (cf).toArray, .tuple #[.agg ([.int .i64 g9.kind, .int .i64 g9.n, strT g9.name, glv, .slice (some ⟨pg, og, none⟩) g9.args.length gc] : List Value).toArray, .bool true], .agg ([.int .i64 g9.kind, .int .i64 g9.n, strT g9.name, glv, .slice (some ⟨pg, og, none⟩) g9.args.length gc] : List Value).toArray, .bool true, .tuple #[.agg cn.toArray, .bool false], .agg (varC 1).toArray, .tuple #[.agg cn.toArray, .bool false], .agg cn.toArray, .bool false, .tuple #[.slice (some ⟨pl, ol, none⟩) 2 lc, .agg cb.toArray, .bool true], .agg (varC 0).toArray, .agg (conC [97]).toArray, .agg (varC 0).toArray, .slice (some ⟨gA, 0, none⟩) 2 2, .agg co.toArray, .slice (some ⟨gB, 0, none⟩) 2 2, .tuple #[.slice (some ⟨pl, ol, none⟩) 2 lc, .agg cb.toArray, .bool true], .slice (some ⟨pl, ol, none⟩) 2 lc, .agg cb.toArray, .bool true, .bool true, .bool false, .bool false, .slice (some ⟨pl, ol, none⟩) 2 lc, .int .i64 2, .bool false, .bool false, .tuple #[.agg cc.toArray, .bool true], .agg (cb).toArray, .slice (some ⟨pl, ol, none⟩) 2 lc, .tuple #[.agg cc.toArray, .bool true], .agg cc.toArray, .bool true, .tuple #[.agg cr.toArray, .bool true], .agg (cy).toArray, .tuple #[.agg cr.toArray, .bool true], .agg cr.toArray, .bool true, .tuple #[.agg ([.int .i64 u93.kind, .int .i64 u93.n, strT u93.name, .slice (some ⟨pv, ov, none⟩) u93.levels.length vc, vav] : List Value).toArray, .bool true], .agg (ints .i64 [1, -1, -1, -1]).toArray, .agg (ints .i64 l91.zs).toArray, .slice (some ⟨g51, 0, none⟩) 1 1, .agg ([.int .i64 3, .int .i64 0, strT [], .slice (some ⟨g51, 0, none⟩) 1 1, .slice none 0 0] : List Value).toArray, .agg (ints .i64 [-1, -1, -1, -1]).toArray, .agg (ints .i64 l92.zs).toArray, .slice (some ⟨g53, 0, none⟩) 1 1, .tuple #[.agg ([.int .i64 u93.kind, .int .i64 u93.n, strT u93.name, .slice (some ⟨pv, ov, none⟩) u93.levels.length vc, vav] : List Value).toArray, .bool true], .agg ([.int .i64 u93.kind, .int .i64 u93.n, strT u93.name, .slice (some ⟨pv, ov, none⟩) u93.levels.length vc, vav] : List Value).toArray, .bool true, .bool true, .bool true, .bool true, .bool true, .bool true, .bool true, .bool true, .bool true, .bool false, .bool true, .bool true, .bool true, .bool true, .bool true, .bool true, .bool true, .bool true, .bool true, .bool true, .bool true, .bool true, .agg (cy).toArray, .agg (conC [97]).toArray, .agg (conC [98]).toArray, .slice (some ⟨q1, 0, none⟩) 1 1, .agg ca.toArray, .bool true, .bool true, .bool true, .agg (cz).toArray, .agg (cx).toArray, .bool true, .bool true, .bool true, .pointer (some ⟨b32, 4, none⟩), .slice (some ⟨pg, og, none⟩) 2 gc, .pointer (some ⟨pg, og + 5 * 1, none⟩), .pointer (some ⟨pg, og + 5 * 1 + 1, none⟩), .int .i64 3, .bool true, .bool true, .bool true, .agg (cb).toArray, .agg (conC [113]).toArray, .bool true, .bool true, .bool true, .slice (some ⟨pl, ol, none⟩) 2 lc, .pointer (some ⟨pl, ol + 6 * 1, none⟩), .pointer (some ⟨pl, ol + 6 * 1 + 1, none⟩), .pointer (some ⟨pl, ol + 6 * 1 + 1 + 2, none⟩), strT [112], .bool true, .bool true, .bool true, .agg (cc).toArray, .agg (varC 0).toArray, .agg (conC [97]).toArray, .agg (varC 0).toArray, .slice (some ⟨q9, 0, none⟩) 2 2, .agg cd.toArray, .bool true, .bool true, .bool true, .agg (cr).toArray, .agg (conC [99]).toArray, .agg (conC [98]).toArray, .slice (some ⟨g, 0, none⟩) 1 1, .agg ce.toArray, .bool true, .bool true, .bool true, undef, undef, undef, undef, undef, undef, undef], defers := [] }) (by kernel_rfl) (by kernel_rfl) ?_
        refine reg_now 72 (.pointer (some ⟨b55, 3, none⟩)) (some 168) hQN HS (by kernel_rfl) (by kernel_rfl) (fun w => by kernel_rfl) ?_
        refine reg_nowIf 73 (.slice (some ⟨pv, ov, none⟩) 1 vc) (some 169) hQN HS (by kernel_rfl) (by kernel_rfl) (fun w' hw => exec_load_cell 22 (.tmp 168) (by kernel_rfl) b55 3 (by kernel_rfl) _ ((BVv.out.below hw BVv.out.lt).cell rfl) _ Try.underlying22 rfl) ?_
        refine reg_now 74 (.pointer (some ⟨pv, ov + 5 * 0, none⟩)) (some 170) hQN HS (by kernel_rfl) (by kernel_rfl) (fun w' => exec_indexAt 22 (.tmp 169) (.const (.int .i64 ((0 : Nat) : Int))) (by kernel_rfl) _ _ _ (by kernel_rfl) (by kernel_rfl) (run_at_lv pv ov 1 vc 0 (by decide) w')) ?_
        refine reg_now 75 (.pointer (some ⟨pv, ov + 5 * 0 + 0, none⟩)) (some 171) hQN HS (by kernel_rfl) (by kernel_rfl) (fun w => by kernel_rfl) ?_
        refine reg_nowIf 76 (.int .i64 3) (some 172) hQN HS (by kernel_rfl) (by kernel_rfl) (fun w' hw => exec_load_cell 3 (.tmp 171) (by kernel_rfl) pv (ov + 5 * 0 + 0) (by kernel_rfl) _ ((hw.cell (block_lt_of_cell VC.out)).trans VC.out) _ Try.underlying3 rfl) ?_
        refine reg_now 77 (.bool true) (some 173) hQN HS (by kernel_rfl) (by kernel_rfl) (fun w => by kernel_rfl) ?_
        refine reg_now 78 (.bool true) (some 174) hQN HS (by kernel_rfl) (by kernel_rfl) (fun w => by kernel_rfl) ?_
        refine reg_now 79 (.bool true) (some 0) hQN HS (by kernel_rfl) (by kernel_rfl) (fun w => by kernel_rfl) ?_
        refine reg_done (by kernel_rfl) (hN _ _ ?_)
        generalize hact : Act.put _ (some 0) _ = act
        simp only [Act.put, sA, sC, sZ] at hact
        subst hact
        go_wp2
        go_ret
        exact ⟨rfl, BE.out.trans (HS.mono BE.out.size)⟩
    exact reg_cast (by kernel_rfl) (by kernel_rfl) (r99_21 hQN _ w39 FIN _ HS)
  exact reg_cast (by kernel_rfl) (by kernel_rfl) (r96_9 hQN _ w28 FIN _ HS)
end Go.Proofs.Ytndbpmkglddjjaa
