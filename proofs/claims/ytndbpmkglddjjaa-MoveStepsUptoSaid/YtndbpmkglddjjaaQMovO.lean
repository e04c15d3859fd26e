/- The drawn regions of what the laws of package move try first, in whatever order. -/
import Derived.Test.YtndbpmkglddjjaaQGenT
import Derived.Test.YtndbpmkglddjjaaQMovP
namespace Go.Proofs.Ytndbpmkglddjjaa
open Go Go.RowKit
set_option maxRecDepth 100000
set_option maxHeartbeats 1000000 in
theorem var9_walk (n : Int) (w : World) : Calls Try.prog 43 #[.int .i64 n] w fun e w' => e = .returned (.agg (varC n).toArray) ∧ Below w.heap.size w w' := by
  obtain ⟨q, hq⟩ : ∃ q, Hid (w.heap.size = q) := ⟨_, rfl⟩
  rw [hq.out]
  go_enter Try.func43, Try.ntmps43
  go_upto_region 0 with (fail)
  refine lbeg (opsOf Try.f43 0) ?_
  refine lall 0 25 z5T (q) (some 2) hq ?_
  intro w1 bw1 bew1 hsw1
  refine ldn 1 ?_
  generalize hact : Act.put _ (some 2) _ = act
  simp only [Act.put, sA, sC, sZ] at hact
  subst hact
  go_upto_region 1 with (fail)
  refine lbeg (opsOf Try.f43 1) ?_
  refine lnow 0 (.int .i64 n) (some 3) ?_
  refine lnow 1 (.agg (varC n).toArray) (some 4) ?_
  refine lin_put 2 25 (.tmp 2) (.tmp 4) (q) _ (z5T) (varC n) (by kernel_rfl) (by kernel_rfl) (by kernel_rfl) (by kernel_rfl) (by kernel_rfl) bw1 ((rfl : (varC n).length = 5).trans (rfl : z5T.length = 5).symm) (t5Size (rfl : (varC n).length = 5)) (by simpa using (ones_var n)) ?_
  intro w2 bw2 uw2
  refine ldn 3 ?_
  have B2 := Lib.hid bw2
  have BE2 : Hid (Below q w w2) := uw2.below bew1 (Nat.le_refl _) (by have := hsw1.out; omega)
  clear bw2 uw2 bw1 bew1 hsw1
  generalize hact : Act.put _ none undef = act
  simp only [Act.put, sA, sC, sZ] at hact
  subst hact
  go_wp2
  refine bodyPost_ret (v := .agg (varC n).toArray) ?_ rfl ⟨rfl, BE2.out⟩
  exact results_cell_row (g := q) (t := 25) (cs := (varC n).toArray) (fr := (0, 0)) Try.results43 _ _ _ rfl B2.out Try.underlying25 rfl (t5Size rfl)
set_option maxHeartbeats 1000000 in
theorem con9_walk (s : List UInt8) (w : World) : Calls Try.prog 44 #[strT s] w fun e w' => e = .returned (.agg (conC s).toArray) ∧ Below w.heap.size w w' := by
  obtain ⟨q, hq⟩ : ∃ q, Hid (w.heap.size = q) := ⟨_, rfl⟩
  rw [hq.out]
  go_enter Try.func44, Try.ntmps44
  go_upto_region 0 with (fail)
  refine lbeg (opsOf Try.f44 0) ?_
  refine lall 0 25 z5T (q) (some 2) hq ?_
  intro w1 bw1 bew1 hsw1
  refine ldn 1 ?_
  generalize hact : Act.put _ (some 2) _ = act
  simp only [Act.put, sA, sC, sZ] at hact
  subst hact
  go_upto_region 1 with (fail)
  refine lbeg (opsOf Try.f44 1) ?_
  refine lnow 0 (strT s) (some 3) ?_
  refine lnow 1 (.agg (conC s).toArray) (some 4) ?_
  refine lin_put 2 25 (.tmp 2) (.tmp 4) (q) _ (z5T) (conC s) (by kernel_rfl) (by kernel_rfl) (by kernel_rfl) (by kernel_rfl) (by kernel_rfl) bw1 ((rfl : (conC s).length = 5).trans (rfl : z5T.length = 5).symm) (t5Size (rfl : (conC s).length = 5)) (by simpa using (ones_con s)) ?_
  intro w2 bw2 uw2
  refine ldn 3 ?_
  have B2 := Lib.hid bw2
  have BE2 : Hid (Below q w w2) := uw2.below bew1 (Nat.le_refl _) (by have := hsw1.out; omega)
  clear bw2 uw2 bw1 bew1 hsw1
  generalize hact : Act.put _ none undef = act
  simp only [Act.put, sA, sC, sZ] at hact
  subst hact
  go_wp2
  refine bodyPost_ret (v := .agg (conC s).toArray) ?_ rfl ⟨rfl, BE2.out⟩
  exact results_cell_row (g := q) (t := 25) (cs := (conC s).toArray) (fr := (0, 0)) Try.results44 _ _ _ rfl B2.out Try.underlying25 rfl (t5Size rfl)
theorem reg_three {P : Program} {ops : Array Oper} {Q : Exit → Act → World → Prop} {S : World → Prop} {fuel : Nat} {listed : Array Bool} {a : Act} {w : World} (i j k : Nat) (hr : (Region.ready .any ops listed == [i, j, k]) = true)
    (h1 : wpOp P ops Q i (fun a' w' => S w' ∧ wpAnyH P .any ops Q S fuel (listed.setIfInBounds i true) a' w') a w) (h2 : wpOp P ops Q j (fun a' w' => S w' ∧ wpAnyH P .any ops Q S fuel (listed.setIfInBounds j true) a' w') a w) (h3 : wpOp P ops Q k (fun a' w' => S w' ∧ wpAnyH P .any ops Q S fuel (listed.setIfInBounds k true) a' w') a w) : wpAnyH P .any ops Q S (fuel + 1) listed a w :=
  wpAnyH_all (beq_iff_eq.1 hr) (by simp) fun x hx => by
    have : x = i ∨ x = j ∨ x = k := by simpa using hx
    rcases this with rfl | rfl | rfl
    · exact h1
    · exact h2
    · exact h3
theorem fin_cast {Q' : Exit → Act → World → Prop} {a a' : Act} {w : World} (h : a = a') (hq : Q' .normal a' w) : Q' .normal a w := h ▸ hq
def A96 (y : Nat → Value) (x8 x42 x44 x45 : Value) : Act := { tmps := #[y 0, y 1, y 2, y 3, y 4, y 5, y 6, y 7, x8, y 9, y 10, y 11, y 12, y 13, y 14, y 15, y 16, y 17, y 18, y 19, y 20, y 21, y 22, y 23, y 24, y 25, y 26, y 27, y 28, y 29, y 30, y 31, y 32, y 33, y 34, y 35, y 36, y 37, y 38, y 39, y 40, y 41, x42, .agg (conC [97]).toArray, x44, x45, y 46, y 47, y 48, y 49, y 50, y 51, y 52, y 53, y 54, y 55, y 56, y 57, y 58, y 59, y 60, y 61, y 62, y 63, y 64, y 65, y 66, y 67, y 68, y 69, y 70, y 71, y 72, y 73, y 74, y 75, y 76, y 77, y 78, y 79, y 80, y 81, y 82, y 83, y 84, y 85, y 86, y 87, y 88, y 89, y 90, y 91, y 92, y 93, y 94, y 95, y 96, y 97, y 98, y 99, y 100, y 101, y 102, y 103, y 104, y 105, y 106, y 107, y 108, y 109, y 110, y 111, y 112, y 113, y 114, y 115, y 116, y 117, y 118, y 119, y 120, y 121, y 122, y 123, y 124, y 125, y 126, y 127, y 128, y 129, y 130, y 131, y 132, y 133, y 134, y 135, y 136, y 137, y 138, y 139, y 140, y 141, y 142, y 143, y 144, y 145, y 146, y 147, y 148, y 149, y 150, y 151, y 152, y 153, y 154, y 155, y 156, y 157, y 158, y 159, y 160, y 161, y 162, y 163, y 164, y 165, y 166, y 167, y 168, y 169, y 170, y 171, y 172, y 173, y 174], defers := [] }
def Fin96 (Q' : Exit → Act → World → Prop) (y : Nat → Value) (W0 : World) : Prop := ∀ (b g : Nat) (c : List Value) (wE : World), Below W0.heap.size W0 wE → W0.heap.size ≤ b → Blk wE b 25 c → TmAt [] wE f9 c → Q' .normal (A96 y (.pointer (some ⟨b, 0, none⟩)) (.agg (varC 1).toArray) (.slice (some ⟨g, 0, none⟩) 1 1) (.agg c.toArray)) wE
theorem r96_0 {Q' : Exit → Act → World → Prop} (_hQN : ∀ c a w d v, Q' (.panic c) (a.put d v) w → Q' (.panic c) a w) (y : Nat → Value) (W0 : World) (FIN : Fin96 Q' y W0) (b : Nat) (g : Nat) (c : List Value) (W : World) (HS : Below W0.heap.size W0 W) (TC : TmAt [b] W f9 c) (BV : Blk W b 25 z5T) (BBh : W0.heap.size ≤ b) : wpAnyH Try.prog .any (opsOf Try.f16 6) Q' (fun W' => Below W0.heap.size W0 W') 1 #[true, true, true, true, true, false] (A96 y (.pointer (some ⟨b, 0, none⟩)) (.agg (varC 1).toArray) (.slice (some ⟨g, 0, none⟩) 1 1) (.agg c.toArray)) W := by
  have C5 := TC.len
  have C1 := TC.one
  refine reg_putT 5 25 (.tmp 8) (.tmp 45) b 25 z5T c (by kernel_rfl) (by kernel_rfl) (by kernel_rfl) (by kernel_rfl) (by kernel_rfl) BV (C5.trans (rfl : z5T.length = 5).symm) (t5Size C5) (by simpa using C1) ?_
  intro vE bE uE
  have HE : Below W0.heap.size W0 vE := uE.below HS BBh (by have := HS.size; have := BV.lt; omega)
  refine ⟨HE, ?_⟩
  refine reg_done (by kernel_rfl) ?_
  exact fin_cast (by kernel_rfl) (FIN b g c vE HE BBh bE (TmAt.sub (fun k hk => by cases hk) _ _ (TmAt.step (Step.of_upd uE (List.mem_singleton_self b)) _ _ TC)))
theorem r96_1 {Q' : Exit → Act → World → Prop} (hQN : ∀ c a w d v, Q' (.panic c) (a.put d v) w → Q' (.panic c) a w) (y : Nat → Value) (W0 : World) (FIN : Fin96 Q' y W0) (g : Nat) (c : List Value) (W : World) (HS : Below W0.heap.size W0 W) (TC : TmAt [] W f9 c) : wpAnyH Try.prog .any (opsOf Try.f16 6) Q' (fun W' => Below W0.heap.size W0 W') 2 #[true, true, true, true, false, false] (A96 y undef (.agg (varC 1).toArray) (.slice (some ⟨g, 0, none⟩) 1 1) (.agg c.toArray)) W := by
  refine wpAnyH_one (i := 4) (beq_iff_eq.1 (by kernel_rfl)) ?_
  obtain ⟨b, hbN⟩ : ∃ b, Hid (W.heap.size = b) := ⟨_, rfl⟩
  refine op_allocT 4 b (some 8) (by kernel_rfl) (by kernel_rfl) (by kernel_rfl) hbN ?_
  intro V bw hbl
  have BBh : Hid (W0.heap.size ≤ b) := by have := HS.size; have := hbN.out; rw [Hid]; omega
  have HS : Below W0.heap.size W0 V := HS.trans (hbl.mono HS.size)
  refine ⟨HS, ?_⟩
  exact reg_cast (by kernel_rfl) (by kernel_rfl) (r96_0 hQN y W0 FIN b g c V HS ((TmAt.sub (fun k hk => .inr (by have := hbN.out; simp at hk; omega)) _ _ TC).below hbl) (bw) BBh)
theorem r96_2 {Q' : Exit → Act → World → Prop} (hQN : ∀ c a w d v, Q' (.panic c) (a.put d v) w → Q' (.panic c) a w) (y : Nat → Value) (W0 : World) (FIN : Fin96 Q' y W0) (b : Nat) (g : Nat) (W : World) (HS : Below W0.heap.size W0 W) (RB : Blk W g 25 (conC [97])) (BV : Blk W b 25 z5T) (BBh : W0.heap.size ≤ b) : wpAnyH Try.prog .any (opsOf Try.f16 6) Q' (fun W' => Below W0.heap.size W0 W') 2 #[true, true, true, false, true, false] (A96 y (.pointer (some ⟨b, 0, none⟩)) (.agg (varC 1).toArray) (.slice (some ⟨g, 0, none⟩) 1 1) undef) W := by
  refine wpAnyH_one (i := 3) (beq_iff_eq.1 (by kernel_rfl)) ?_
  refine op_call 3 15 #[.int .i64 6, .agg (varC 1).toArray, .slice (some ⟨g, 0, none⟩) 1 1] (some 45) _ (by kernel_rfl) (by kernel_rfl) (by kernel_rfl) (bind_walk (F := []) 6 (varT 1) [aT] _ _ W (var_at [] W 1) (sm_v 1) (one_tms9 RB (con_at [] W [97]) (by simp)) (by rw [SmTs, SmTs]; exact ⟨sm_c 97, trivial⟩) (by decide)) ?_
  rintro e V ⟨c, rfl, hct, hbl⟩
  have HS : Below W0.heap.size W0 V := HS.trans (hbl.mono HS.size)
  refine ⟨_, rfl, HS, ?_⟩
  exact reg_cast (by kernel_rfl) (by kernel_rfl) (r96_0 hQN y W0 FIN b g c V HS (TmAt.off (G := [b]) hct (fun k hk => .inl (by rw [List.mem_singleton.1 hk]; exact BV.lt))) (BV.below hbl BV.lt) BBh)
theorem r96_3 {Q' : Exit → Act → World → Prop} (hQN : ∀ c a w d v, Q' (.panic c) (a.put d v) w → Q' (.panic c) a w) (y : Nat → Value) (W0 : World) (FIN : Fin96 Q' y W0) (g : Nat) (W : World) (HS : Below W0.heap.size W0 W) (RB : Blk W g 25 (conC [97])) : wpAnyH Try.prog .any (opsOf Try.f16 6) Q' (fun W' => Below W0.heap.size W0 W') 3 #[true, true, true, false, false, false] (A96 y undef (.agg (varC 1).toArray) (.slice (some ⟨g, 0, none⟩) 1 1) undef) W := by
  refine reg_two 3 4 (by kernel_rfl) ?_ ?_
  · skip
    refine op_call 3 15 #[.int .i64 6, .agg (varC 1).toArray, .slice (some ⟨g, 0, none⟩) 1 1] (some 45) _ (by kernel_rfl) (by kernel_rfl) (by kernel_rfl) (bind_walk (F := []) 6 (varT 1) [aT] _ _ W (var_at [] W 1) (sm_v 1) (one_tms9 RB (con_at [] W [97]) (by simp)) (by rw [SmTs, SmTs]; exact ⟨sm_c 97, trivial⟩) (by decide)) ?_
    rintro e V ⟨c, rfl, hct, hbl⟩
    have HS : Below W0.heap.size W0 V := HS.trans (hbl.mono HS.size)
    refine ⟨_, rfl, HS, ?_⟩
    exact reg_cast (by kernel_rfl) (by kernel_rfl) (r96_1 hQN y W0 FIN g c V HS (TmAt.sub (fun k hk => by cases hk) _ _ hct))
  · skip
    obtain ⟨b, hbN⟩ : ∃ b, Hid (W.heap.size = b) := ⟨_, rfl⟩
    refine op_allocT 4 b (some 8) (by kernel_rfl) (by kernel_rfl) (by kernel_rfl) hbN ?_
    intro V bw hbl
    have BBh : Hid (W0.heap.size ≤ b) := by have := HS.size; have := hbN.out; rw [Hid]; omega
    have HS : Below W0.heap.size W0 V := HS.trans (hbl.mono HS.size)
    refine ⟨HS, ?_⟩
    exact reg_cast (by kernel_rfl) (by kernel_rfl) (r96_2 hQN y W0 FIN b g V HS (RB.below hbl RB.lt) (bw) BBh)
theorem r96_4 {Q' : Exit → Act → World → Prop} (hQN : ∀ c a w d v, Q' (.panic c) (a.put d v) w → Q' (.panic c) a w) (y : Nat → Value) (W0 : World) (FIN : Fin96 Q' y W0) (b : Nat) (W : World) (HS : Below W0.heap.size W0 W) (BV : Blk W b 25 z5T) (BBh : W0.heap.size ≤ b) : wpAnyH Try.prog .any (opsOf Try.f16 6) Q' (fun W' => Below W0.heap.size W0 W') 3 #[true, true, false, false, true, false] (A96 y (.pointer (some ⟨b, 0, none⟩)) (.agg (varC 1).toArray) undef undef) W := by
  refine wpAnyH_one (i := 2) (beq_iff_eq.1 (by kernel_rfl)) ?_
  obtain ⟨g, hgN⟩ : ∃ y, Hid (W.heap.size = y) := ⟨_, rfl⟩
  refine op_row 2 g 1 25 (conC [97]) (some 44) (by kernel_rfl) (by kernel_rfl) hgN (exec_of _ _ (by kernel_rfl) (run_build_tm1 (con_at [] W [97]) W)) ?_
  intro V bw hbl
  have HS : Below W0.heap.size W0 V := HS.trans (hbl.mono HS.size)
  refine ⟨HS, ?_⟩
  exact reg_cast (by kernel_rfl) (by kernel_rfl) (r96_2 hQN y W0 FIN b g V HS (bw) (BV.below hbl BV.lt) BBh)
theorem r96_5 {Q' : Exit → Act → World → Prop} (hQN : ∀ c a w d v, Q' (.panic c) (a.put d v) w → Q' (.panic c) a w) (y : Nat → Value) (W0 : World) (FIN : Fin96 Q' y W0) (W : World) (HS : Below W0.heap.size W0 W) : wpAnyH Try.prog .any (opsOf Try.f16 6) Q' (fun W' => Below W0.heap.size W0 W') 4 #[true, true, false, false, false, false] (A96 y undef (.agg (varC 1).toArray) undef undef) W := by
  refine reg_two 2 4 (by kernel_rfl) ?_ ?_
  · skip
    obtain ⟨g, hgN⟩ : ∃ y, Hid (W.heap.size = y) := ⟨_, rfl⟩
    refine op_row 2 g 1 25 (conC [97]) (some 44) (by kernel_rfl) (by kernel_rfl) hgN (exec_of _ _ (by kernel_rfl) (run_build_tm1 (con_at [] W [97]) W)) ?_
    intro V bw hbl
    have HS : Below W0.heap.size W0 V := HS.trans (hbl.mono HS.size)
    refine ⟨HS, ?_⟩
    exact reg_cast (by kernel_rfl) (by kernel_rfl) (r96_3 hQN y W0 FIN g V HS (bw))
  · skip
    obtain ⟨b, hbN⟩ : ∃ b, Hid (W.heap.size = b) := ⟨_, rfl⟩
    refine op_allocT 4 b (some 8) (by kernel_rfl) (by kernel_rfl) (by kernel_rfl) hbN ?_
    intro V bw hbl
    have BBh : Hid (W0.heap.size ≤ b) := by have := HS.size; have := hbN.out; rw [Hid]; omega
    have HS : Below W0.heap.size W0 V := HS.trans (hbl.mono HS.size)
    refine ⟨HS, ?_⟩
    exact reg_cast (by kernel_rfl) (by kernel_rfl) (r96_4 hQN y W0 FIN b V HS (bw) BBh)
theorem r96_6 {Q' : Exit → Act → World → Prop} (hQN : ∀ c a w d v, Q' (.panic c) (a.put d v) w → Q' (.panic c) a w) (y : Nat → Value) (W0 : World) (FIN : Fin96 Q' y W0) (b : Nat) (g : Nat) (W : World) (HS : Below W0.heap.size W0 W) (RB : Blk W g 25 (conC [97])) (BV : Blk W b 25 z5T) (BBh : W0.heap.size ≤ b) : wpAnyH Try.prog .any (opsOf Try.f16 6) Q' (fun W' => Below W0.heap.size W0 W') 3 #[false, true, true, false, true, false] (A96 y (.pointer (some ⟨b, 0, none⟩)) undef (.slice (some ⟨g, 0, none⟩) 1 1) undef) W := by
  refine wpAnyH_one (i := 0) (beq_iff_eq.1 (by kernel_rfl)) ?_
  refine op_call 0 43 #[.int .i64 1] (some 42) _ (by kernel_rfl) (by kernel_rfl) (by kernel_rfl) (var9_walk 1 W) ?_
  rintro e V ⟨rfl, hbl⟩
  have HS : Below W0.heap.size W0 V := HS.trans (hbl.mono HS.size)
  refine ⟨_, rfl, HS, ?_⟩
  exact reg_cast (by kernel_rfl) (by kernel_rfl) (r96_2 hQN y W0 FIN b g V HS (RB.below hbl RB.lt) (BV.below hbl BV.lt) BBh)
theorem r96_7 {Q' : Exit → Act → World → Prop} (hQN : ∀ c a w d v, Q' (.panic c) (a.put d v) w → Q' (.panic c) a w) (y : Nat → Value) (W0 : World) (FIN : Fin96 Q' y W0) (g : Nat) (W : World) (HS : Below W0.heap.size W0 W) (RB : Blk W g 25 (conC [97])) : wpAnyH Try.prog .any (opsOf Try.f16 6) Q' (fun W' => Below W0.heap.size W0 W') 4 #[false, true, true, false, false, false] (A96 y undef undef (.slice (some ⟨g, 0, none⟩) 1 1) undef) W := by
  refine reg_two 0 4 (by kernel_rfl) ?_ ?_
  · skip
    refine op_call 0 43 #[.int .i64 1] (some 42) _ (by kernel_rfl) (by kernel_rfl) (by kernel_rfl) (var9_walk 1 W) ?_
    rintro e V ⟨rfl, hbl⟩
    have HS : Below W0.heap.size W0 V := HS.trans (hbl.mono HS.size)
    refine ⟨_, rfl, HS, ?_⟩
    exact reg_cast (by kernel_rfl) (by kernel_rfl) (r96_3 hQN y W0 FIN g V HS (RB.below hbl RB.lt))
  · skip
    obtain ⟨b, hbN⟩ : ∃ b, Hid (W.heap.size = b) := ⟨_, rfl⟩
    refine op_allocT 4 b (some 8) (by kernel_rfl) (by kernel_rfl) (by kernel_rfl) hbN ?_
    intro V bw hbl
    have BBh : Hid (W0.heap.size ≤ b) := by have := HS.size; have := hbN.out; rw [Hid]; omega
    have HS : Below W0.heap.size W0 V := HS.trans (hbl.mono HS.size)
    refine ⟨HS, ?_⟩
    exact reg_cast (by kernel_rfl) (by kernel_rfl) (r96_6 hQN y W0 FIN b g V HS (RB.below hbl RB.lt) (bw) BBh)
theorem r96_8 {Q' : Exit → Act → World → Prop} (hQN : ∀ c a w d v, Q' (.panic c) (a.put d v) w → Q' (.panic c) a w) (y : Nat → Value) (W0 : World) (FIN : Fin96 Q' y W0) (b : Nat) (W : World) (HS : Below W0.heap.size W0 W) (BV : Blk W b 25 z5T) (BBh : W0.heap.size ≤ b) : wpAnyH Try.prog .any (opsOf Try.f16 6) Q' (fun W' => Below W0.heap.size W0 W') 4 #[false, true, false, false, true, false] (A96 y (.pointer (some ⟨b, 0, none⟩)) undef undef undef) W := by
  refine reg_two 0 2 (by kernel_rfl) ?_ ?_
  · skip
    refine op_call 0 43 #[.int .i64 1] (some 42) _ (by kernel_rfl) (by kernel_rfl) (by kernel_rfl) (var9_walk 1 W) ?_
    rintro e V ⟨rfl, hbl⟩
    have HS : Below W0.heap.size W0 V := HS.trans (hbl.mono HS.size)
    refine ⟨_, rfl, HS, ?_⟩
    exact reg_cast (by kernel_rfl) (by kernel_rfl) (r96_4 hQN y W0 FIN b V HS (BV.below hbl BV.lt) BBh)
  · skip
    obtain ⟨g, hgN⟩ : ∃ y, Hid (W.heap.size = y) := ⟨_, rfl⟩
    refine op_row 2 g 1 25 (conC [97]) (some 44) (by kernel_rfl) (by kernel_rfl) hgN (exec_of _ _ (by kernel_rfl) (run_build_tm1 (con_at [] W [97]) W)) ?_
    intro V bw hbl
    have HS : Below W0.heap.size W0 V := HS.trans (hbl.mono HS.size)
    refine ⟨HS, ?_⟩
    exact reg_cast (by kernel_rfl) (by kernel_rfl) (r96_6 hQN y W0 FIN b g V HS (bw) (BV.below hbl BV.lt) BBh)
theorem r96_9 {Q' : Exit → Act → World → Prop} (hQN : ∀ c a w d v, Q' (.panic c) (a.put d v) w → Q' (.panic c) a w) (y : Nat → Value) (W0 : World) (FIN : Fin96 Q' y W0) (W : World) (HS : Below W0.heap.size W0 W) : wpAnyH Try.prog .any (opsOf Try.f16 6) Q' (fun W' => Below W0.heap.size W0 W') 5 #[false, true, false, false, false, false] (A96 y undef undef undef undef) W := by
  refine reg_three 0 2 4 (by kernel_rfl) ?_ ?_ ?_
  · skip
    refine op_call 0 43 #[.int .i64 1] (some 42) _ (by kernel_rfl) (by kernel_rfl) (by kernel_rfl) (var9_walk 1 W) ?_
    rintro e V ⟨rfl, hbl⟩
    have HS : Below W0.heap.size W0 V := HS.trans (hbl.mono HS.size)
    refine ⟨_, rfl, HS, ?_⟩
    exact reg_cast (by kernel_rfl) (by kernel_rfl) (r96_5 hQN y W0 FIN V HS)
  · skip
    obtain ⟨g, hgN⟩ : ∃ y, Hid (W.heap.size = y) := ⟨_, rfl⟩
    refine op_row 2 g 1 25 (conC [97]) (some 44) (by kernel_rfl) (by kernel_rfl) hgN (exec_of _ _ (by kernel_rfl) (run_build_tm1 (con_at [] W [97]) W)) ?_
    intro V bw hbl
    have HS : Below W0.heap.size W0 V := HS.trans (hbl.mono HS.size)
    refine ⟨HS, ?_⟩
    exact reg_cast (by kernel_rfl) (by kernel_rfl) (r96_7 hQN y W0 FIN g V HS (bw))
  · skip
    obtain ⟨b, hbN⟩ : ∃ b, Hid (W.heap.size = b) := ⟨_, rfl⟩
    refine op_allocT 4 b (some 8) (by kernel_rfl) (by kernel_rfl) (by kernel_rfl) hbN ?_
    intro V bw hbl
    have BBh : Hid (W0.heap.size ≤ b) := by have := HS.size; have := hbN.out; rw [Hid]; omega
    have HS : Below W0.heap.size W0 V := HS.trans (hbl.mono HS.size)
    refine ⟨HS, ?_⟩
    exact reg_cast (by kernel_rfl) (by kernel_rfl) (r96_8 hQN y W0 FIN b V HS (bw) BBh)
def A99 (y : Nat → Value) (x13 x14 x15 x56 x57 x59 x60 x61 x62 x63 x64 x65 x66 : Value) : Act := { tmps := #[y 0, y 1, y 2, y 3, y 4, y 5, y 6, y 7, y 8, y 9, y 10, y 11, y 12, x13, x14, x15, y 16, y 17, y 18, y 19, y 20, y 21, y 22, y 23, y 24, y 25, y 26, y 27, y 28, y 29, y 30, y 31, y 32, y 33, y 34, y 35, y 36, y 37, y 38, y 39, y 40, y 41, y 42, y 43, y 44, y 45, y 46, y 47, y 48, y 49, y 50, y 51, y 52, y 53, y 54, y 55, x56, x57, .agg (conC [97]).toArray, x59, x60, x61, x62, x63, x64, x65, x66, y 67, y 68, y 69, y 70, y 71, y 72, y 73, y 74, y 75, y 76, y 77, y 78, y 79, y 80, y 81, y 82, y 83, y 84, y 85, y 86, y 87, y 88, y 89, y 90, y 91, y 92, y 93, y 94, y 95, y 96, y 97, y 98, y 99, y 100, y 101, y 102, y 103, y 104, y 105, y 106, y 107, y 108, y 109, y 110, y 111, y 112, y 113, y 114, y 115, y 116, y 117, y 118, y 119, y 120, y 121, y 122, y 123, y 124, y 125, y 126, y 127, y 128, y 129, y 130, y 131, y 132, y 133, y 134, y 135, y 136, y 137, y 138, y 139, y 140, y 141, y 142, y 143, y 144, y 145, y 146, y 147, y 148, y 149, y 150, y 151, y 152, y 153, y 154, y 155, y 156, y 157, y 158, y 159, y 160, y 161, y 162, y 163, y 164, y 165, y 166, y 167, y 168, y 169, y 170, y 171, y 172, y 173, y 174], defers := [] }
def Fin99 (Q' : Exit → Act → World → Prop) (y : Nat → Value) (W0 : World) : Prop := ∀ (b g g2 lc : Nat) (la : Option Addr) (co cb : List Value) (wE : World), Below W0.heap.size W0 wE → W0.heap.size ≤ b → Blk wE b 25 cb → TmAt [] wE (conT [113]) cb → LocsAt [] wE (.slice la 2 lc) [([112], aT), ([113], conT [112])] → Q' .normal (A99 y (.slice la 2 lc) (.pointer (some ⟨b, 0, none⟩)) (.bool true) (.tuple #[.slice la 2 lc, .agg cb.toArray, .bool true]) (.agg (varC 0).toArray) (.agg (varC 0).toArray) (.slice (some ⟨g, 0, none⟩) 2 2) (.agg co.toArray) (.slice (some ⟨g2, 0, none⟩) 2 2) (.tuple #[.slice la 2 lc, .agg cb.toArray, .bool true]) (.slice la 2 lc) (.agg cb.toArray) (.bool true)) wE
theorem r99_0 {Q' : Exit → Act → World → Prop} (_hQN : ∀ c a w d v, Q' (.panic c) (a.put d v) w → Q' (.panic c) a w) (y : Nat → Value) (W0 : World) (FIN : Fin99 Q' y W0) (b : Nat) (g : Nat) (g2 : Nat) (co : List Value) (lc : Nat) (la : Option Addr) (cb : List Value) (W : World) (HS : Below W0.heap.size W0 W) (TC : TmAt [b] W (conT [113]) cb) (LO : LocsAt [b] W (.slice la 2 lc) [([112], aT), ([113], conT [112])]) (BV : Blk W b 25 z5T) (BBh : W0.heap.size ≤ b) : wpAnyH Try.prog .any (opsOf Try.f16 9) Q' (fun W' => Below W0.heap.size W0 W') 3 #[true, true, true, true, true, true, true, true, true, true, true, true, false, false, false] (A99 y undef (.pointer (some ⟨b, 0, none⟩)) undef (.tuple #[.slice la 2 lc, .agg cb.toArray, .bool true]) (.agg (varC 0).toArray) (.agg (varC 0).toArray) (.slice (some ⟨g, 0, none⟩) 2 2) (.agg co.toArray) (.slice (some ⟨g2, 0, none⟩) 2 2) (.tuple #[.slice la 2 lc, .agg cb.toArray, .bool true]) (.slice la 2 lc) (.agg cb.toArray) (.bool true)) W := by
  have C5 := TC.len
  have C1 := TC.one
  refine wpAnyH_one (i := 12) (beq_iff_eq.1 (by kernel_rfl)) ?_
  refine op_value 12 (.slice la 2 lc) (some 13) _ (by kernel_rfl) (by kernel_rfl) (by kernel_rfl) ⟨HS, ?_⟩
  refine reg_putT 13 25 (.tmp 14) (.tmp 65) b 25 z5T cb (by kernel_rfl) (by kernel_rfl) (by kernel_rfl) (by kernel_rfl) (by kernel_rfl) BV (C5.trans (rfl : z5T.length = 5).symm) (t5Size C5) (by simpa using C1) ?_
  intro vE bE uE
  have HE : Below W0.heap.size W0 vE := uE.below HS BBh (by have := HS.size; have := BV.lt; omega)
  refine ⟨HE, ?_⟩
  refine wpAnyH_one (i := 14) (beq_iff_eq.1 (by kernel_rfl)) ?_
  refine op_value 14 (.bool true) (some 15) _ (by kernel_rfl) (by kernel_rfl) (by kernel_rfl) ⟨HE, ?_⟩
  refine reg_done (by kernel_rfl) ?_
  exact fin_cast (by kernel_rfl) (FIN b g g2 lc la co cb vE HE BBh bE (TmAt.sub (fun k hk => by cases hk) _ _ (TmAt.step (Step.of_upd uE (List.mem_singleton_self b)) _ _ TC)) ((LocsAt.step LO (Step.of_upd uE (List.mem_singleton_self b))).sub (fun k hk => by cases hk)))
theorem r99_1 {Q' : Exit → Act → World → Prop} (hQN : ∀ c a w d v, Q' (.panic c) (a.put d v) w → Q' (.panic c) a w) (y : Nat → Value) (W0 : World) (FIN : Fin99 Q' y W0) (g : Nat) (g2 : Nat) (co : List Value) (lc : Nat) (la : Option Addr) (cb : List Value) (W : World) (HS : Below W0.heap.size W0 W) (TC : TmAt [] W (conT [113]) cb) (LO : LocsAt [] W (.slice la 2 lc) [([112], aT), ([113], conT [112])]) : wpAnyH Try.prog .any (opsOf Try.f16 9) Q' (fun W' => Below W0.heap.size W0 W') 4 #[true, true, true, true, true, true, true, true, true, true, true, false, false, false, false] (A99 y undef undef undef (.tuple #[.slice la 2 lc, .agg cb.toArray, .bool true]) (.agg (varC 0).toArray) (.agg (varC 0).toArray) (.slice (some ⟨g, 0, none⟩) 2 2) (.agg co.toArray) (.slice (some ⟨g2, 0, none⟩) 2 2) (.tuple #[.slice la 2 lc, .agg cb.toArray, .bool true]) (.slice la 2 lc) (.agg cb.toArray) (.bool true)) W := by
  refine wpAnyH_one (i := 11) (beq_iff_eq.1 (by kernel_rfl)) ?_
  obtain ⟨b, hbN⟩ : ∃ b, Hid (W.heap.size = b) := ⟨_, rfl⟩
  refine op_allocT 11 b (some 14) (by kernel_rfl) (by kernel_rfl) (by kernel_rfl) hbN ?_
  intro V bw hbl
  have BBh : Hid (W0.heap.size ≤ b) := by have := HS.size; have := hbN.out; rw [Hid]; omega
  have HS : Below W0.heap.size W0 V := HS.trans (hbl.mono HS.size)
  refine ⟨HS, ?_⟩
  exact reg_cast (by kernel_rfl) (by kernel_rfl) (r99_0 hQN y W0 FIN b g g2 co lc la cb V HS ((TmAt.sub (fun k hk => .inr (by have := hbN.out; simp at hk; omega)) _ _ TC).below hbl) ((LO.sub (fun k hk => .inr (by have := hbN.out; simp at hk; omega))).below hbl) (bw) BBh)
theorem r99_2 {Q' : Exit → Act → World → Prop} (hQN : ∀ c a w d v, Q' (.panic c) (a.put d v) w → Q' (.panic c) a w) (y : Nat → Value) (W0 : World) (FIN : Fin99 Q' y W0) (b : Nat) (g : Nat) (g2 : Nat) (co : List Value) (W : World) (HS : Below W0.heap.size W0 W) (TO : TmAt [] W o9 co) (RS : Blk W g2 9 [strT [112], strT [113]]) (BV : Blk W b 25 z5T) (BBh : W0.heap.size ≤ b) : wpAnyH Try.prog .any (opsOf Try.f16 9) Q' (fun W' => Below W0.heap.size W0 W') 8 #[true, true, true, true, true, true, false, false, false, false, false, true, false, false, false] (A99 y undef (.pointer (some ⟨b, 0, none⟩)) undef undef (.agg (varC 0).toArray) (.agg (varC 0).toArray) (.slice (some ⟨g, 0, none⟩) 2 2) (.agg co.toArray) (.slice (some ⟨g2, 0, none⟩) 2 2) undef undef undef undef) W := by
  refine wpAnyH_one (i := 6) (beq_iff_eq.1 (by kernel_rfl)) ?_
  refine op_call 6 46 #[.agg co.toArray, .int .i64 7, .slice (some ⟨g2, 0, none⟩) 2 2] (some 63) _ (by kernel_rfl) (by kernel_rfl) (by kernel_rfl) (open9b co _ 2 W TO (nms_two RS) (by omega)) ?_
  rintro e V ⟨la, lc, cb, rfl, hlo, hct, hbl⟩
  have HS : Below W0.heap.size W0 V := HS.trans (hbl.mono HS.size)
  refine ⟨_, rfl, HS, ?_⟩
  refine reg_nowIf 7 (.tuple #[.slice la 2 lc, .agg cb.toArray, .bool true]) (some 56) hQN HS (by kernel_rfl) (by kernel_rfl) (fun _ _ => by kernel_rfl) ?_
  refine reg_nowIf 8 (.slice la 2 lc) (some 64) hQN HS (by kernel_rfl) (by kernel_rfl) (fun _ _ => by kernel_rfl) ?_
  refine reg_nowIf 9 (.agg cb.toArray) (some 65) hQN HS (by kernel_rfl) (by kernel_rfl) (fun _ _ => by kernel_rfl) ?_
  refine reg_nowIf 10 (.bool true) (some 66) hQN HS (by kernel_rfl) (by kernel_rfl) (fun _ _ => by kernel_rfl) ?_
  exact reg_cast (by kernel_rfl) (by kernel_rfl) (r99_0 hQN y W0 FIN b g g2 co lc la cb V HS (TmAt.off (G := [b]) hct (fun k hk => .inl (by rw [List.mem_singleton.1 hk]; exact BV.lt))) (hlo.sub (G := [b]) (fun k hk => .inl (List.mem_range.2 (by rw [List.mem_singleton.1 hk]; exact BV.lt)))) (BV.below hbl BV.lt) BBh)
theorem r99_3 {Q' : Exit → Act → World → Prop} (hQN : ∀ c a w d v, Q' (.panic c) (a.put d v) w → Q' (.panic c) a w) (y : Nat → Value) (W0 : World) (FIN : Fin99 Q' y W0) (g : Nat) (g2 : Nat) (co : List Value) (W : World) (HS : Below W0.heap.size W0 W) (TO : TmAt [] W o9 co) (RS : Blk W g2 9 [strT [112], strT [113]]) : wpAnyH Try.prog .any (opsOf Try.f16 9) Q' (fun W' => Below W0.heap.size W0 W') 9 #[true, true, true, true, true, true, false, false, false, false, false, false, false, false, false] (A99 y undef undef undef undef (.agg (varC 0).toArray) (.agg (varC 0).toArray) (.slice (some ⟨g, 0, none⟩) 2 2) (.agg co.toArray) (.slice (some ⟨g2, 0, none⟩) 2 2) undef undef undef undef) W := by
  refine reg_two 6 11 (by kernel_rfl) ?_ ?_
  · skip
    refine op_call 6 46 #[.agg co.toArray, .int .i64 7, .slice (some ⟨g2, 0, none⟩) 2 2] (some 63) _ (by kernel_rfl) (by kernel_rfl) (by kernel_rfl) (open9b co _ 2 W TO (nms_two RS) (by omega)) ?_
    rintro e V ⟨la, lc, cb, rfl, hlo, hct, hbl⟩
    have HS : Below W0.heap.size W0 V := HS.trans (hbl.mono HS.size)
    refine ⟨_, rfl, HS, ?_⟩
    refine reg_nowIf 7 (.tuple #[.slice la 2 lc, .agg cb.toArray, .bool true]) (some 56) hQN HS (by kernel_rfl) (by kernel_rfl) (fun _ _ => by kernel_rfl) ?_
    refine reg_nowIf 8 (.slice la 2 lc) (some 64) hQN HS (by kernel_rfl) (by kernel_rfl) (fun _ _ => by kernel_rfl) ?_
    refine reg_nowIf 9 (.agg cb.toArray) (some 65) hQN HS (by kernel_rfl) (by kernel_rfl) (fun _ _ => by kernel_rfl) ?_
    refine reg_nowIf 10 (.bool true) (some 66) hQN HS (by kernel_rfl) (by kernel_rfl) (fun _ _ => by kernel_rfl) ?_
    exact reg_cast (by kernel_rfl) (by kernel_rfl) (r99_1 hQN y W0 FIN g g2 co lc la cb V HS (TmAt.sub (fun k hk => by cases hk) _ _ hct) (LocsAt.sub hlo (fun k hk => by cases hk)))
  · skip
    obtain ⟨b, hbN⟩ : ∃ b, Hid (W.heap.size = b) := ⟨_, rfl⟩
    refine op_allocT 11 b (some 14) (by kernel_rfl) (by kernel_rfl) (by kernel_rfl) hbN ?_
    intro V bw hbl
    have BBh : Hid (W0.heap.size ≤ b) := by have := HS.size; have := hbN.out; rw [Hid]; omega
    have HS : Below W0.heap.size W0 V := HS.trans (hbl.mono HS.size)
    refine ⟨HS, ?_⟩
    exact reg_cast (by kernel_rfl) (by kernel_rfl) (r99_2 hQN y W0 FIN b g g2 co V HS (TO.below hbl) (RS.below hbl RS.lt) (bw) BBh)
theorem r99_4 {Q' : Exit → Act → World → Prop} (hQN : ∀ c a w d v, Q' (.panic c) (a.put d v) w → Q' (.panic c) a w) (y : Nat → Value) (W0 : World) (FIN : Fin99 Q' y W0) (b : Nat) (g : Nat) (co : List Value) (W : World) (HS : Below W0.heap.size W0 W) (TO : TmAt [] W o9 co) (BV : Blk W b 25 z5T) (BBh : W0.heap.size ≤ b) : wpAnyH Try.prog .any (opsOf Try.f16 9) Q' (fun W' => Below W0.heap.size W0 W') 9 #[true, true, true, true, true, false, false, false, false, false, false, true, false, false, false] (A99 y undef (.pointer (some ⟨b, 0, none⟩)) undef undef (.agg (varC 0).toArray) (.agg (varC 0).toArray) (.slice (some ⟨g, 0, none⟩) 2 2) (.agg co.toArray) undef undef undef undef undef) W := by
  refine wpAnyH_one (i := 5) (beq_iff_eq.1 (by kernel_rfl)) ?_
  obtain ⟨g2, hgN⟩ : ∃ y, Hid (W.heap.size = y) := ⟨_, rfl⟩
  refine op_row 5 g2 2 9 ([strT [112], strT [113]]) (some 62) (by kernel_rfl) (by kernel_rfl) hgN (exec_of _ _ (by kernel_rfl) (run_build_strs2' [112] [113] W)) ?_
  intro V bw hbl
  have HS : Below W0.heap.size W0 V := HS.trans (hbl.mono HS.size)
  refine ⟨HS, ?_⟩
  exact reg_cast (by kernel_rfl) (by kernel_rfl) (r99_2 hQN y W0 FIN b g g2 co V HS (TO.below hbl) (bw) (BV.below hbl BV.lt) BBh)
theorem r99_5 {Q' : Exit → Act → World → Prop} (hQN : ∀ c a w d v, Q' (.panic c) (a.put d v) w → Q' (.panic c) a w) (y : Nat → Value) (W0 : World) (FIN : Fin99 Q' y W0) (g : Nat) (co : List Value) (W : World) (HS : Below W0.heap.size W0 W) (TO : TmAt [] W o9 co) : wpAnyH Try.prog .any (opsOf Try.f16 9) Q' (fun W' => Below W0.heap.size W0 W') 10 #[true, true, true, true, true, false, false, false, false, false, false, false, false, false, false] (A99 y undef undef undef undef (.agg (varC 0).toArray) (.agg (varC 0).toArray) (.slice (some ⟨g, 0, none⟩) 2 2) (.agg co.toArray) undef undef undef undef undef) W := by
  refine reg_two 5 11 (by kernel_rfl) ?_ ?_
  · skip
    obtain ⟨g2, hgN⟩ : ∃ y, Hid (W.heap.size = y) := ⟨_, rfl⟩
    refine op_row 5 g2 2 9 ([strT [112], strT [113]]) (some 62) (by kernel_rfl) (by kernel_rfl) hgN (exec_of _ _ (by kernel_rfl) (run_build_strs2' [112] [113] W)) ?_
    intro V bw hbl
    have HS : Below W0.heap.size W0 V := HS.trans (hbl.mono HS.size)
    refine ⟨HS, ?_⟩
    exact reg_cast (by kernel_rfl) (by kernel_rfl) (r99_3 hQN y W0 FIN g g2 co V HS (TO.below hbl) (bw))
  · skip
    obtain ⟨b, hbN⟩ : ∃ b, Hid (W.heap.size = b) := ⟨_, rfl⟩
    refine op_allocT 11 b (some 14) (by kernel_rfl) (by kernel_rfl) (by kernel_rfl) hbN ?_
    intro V bw hbl
    have BBh : Hid (W0.heap.size ≤ b) := by have := HS.size; have := hbN.out; rw [Hid]; omega
    have HS : Below W0.heap.size W0 V := HS.trans (hbl.mono HS.size)
    refine ⟨HS, ?_⟩
    exact reg_cast (by kernel_rfl) (by kernel_rfl) (r99_4 hQN y W0 FIN b g co V HS (TO.below hbl) (bw) BBh)
theorem r99_6 {Q' : Exit → Act → World → Prop} (hQN : ∀ c a w d v, Q' (.panic c) (a.put d v) w → Q' (.panic c) a w) (y : Nat → Value) (W0 : World) (FIN : Fin99 Q' y W0) (b : Nat) (g : Nat) (g2 : Nat) (W : World) (HS : Below W0.heap.size W0 W) (RB : Blk W g 25 (conC [97] ++ varC 0)) (RS : Blk W g2 9 [strT [112], strT [113]]) (BV : Blk W b 25 z5T) (BBh : W0.heap.size ≤ b) : wpAnyH Try.prog .any (opsOf Try.f16 9) Q' (fun W' => Below W0.heap.size W0 W') 9 #[true, true, true, true, false, true, false, false, false, false, false, true, false, false, false] (A99 y undef (.pointer (some ⟨b, 0, none⟩)) undef undef (.agg (varC 0).toArray) (.agg (varC 0).toArray) (.slice (some ⟨g, 0, none⟩) 2 2) undef (.slice (some ⟨g2, 0, none⟩) 2 2) undef undef undef undef) W := by
  refine wpAnyH_one (i := 4) (beq_iff_eq.1 (by kernel_rfl)) ?_
  refine op_call 4 15 #[.int .i64 7, .agg (varC 0).toArray, .slice (some ⟨g, 0, none⟩) 2 2] (some 61) _ (by kernel_rfl) (by kernel_rfl) (by kernel_rfl) (bind_walk (F := []) 7 (varT 0) [aT, varT 0] _ _ W (var_at [] W 0) (sm_v 0) (pair_tms RB (con_at [] W [97]) (var_at [] W 0) (by simp)) (by rw [SmTs, SmTs, SmTs]; exact ⟨sm_c 97, sm_v 0, trivial⟩) (by decide)) ?_
  rintro e V ⟨co, rfl, hct, hbl⟩
  have HS : Below W0.heap.size W0 V := HS.trans (hbl.mono HS.size)
  refine ⟨_, rfl, HS, ?_⟩
  exact reg_cast (by kernel_rfl) (by kernel_rfl) (r99_2 hQN y W0 FIN b g g2 co V HS (TmAt.sub (fun k hk => by cases hk) _ _ hct) (RS.below hbl RS.lt) (BV.below hbl BV.lt) BBh)
theorem r99_7 {Q' : Exit → Act → World → Prop} (hQN : ∀ c a w d v, Q' (.panic c) (a.put d v) w → Q' (.panic c) a w) (y : Nat → Value) (W0 : World) (FIN : Fin99 Q' y W0) (g : Nat) (g2 : Nat) (W : World) (HS : Below W0.heap.size W0 W) (RB : Blk W g 25 (conC [97] ++ varC 0)) (RS : Blk W g2 9 [strT [112], strT [113]]) : wpAnyH Try.prog .any (opsOf Try.f16 9) Q' (fun W' => Below W0.heap.size W0 W') 10 #[true, true, true, true, false, true, false, false, false, false, false, false, false, false, false] (A99 y undef undef undef undef (.agg (varC 0).toArray) (.agg (varC 0).toArray) (.slice (some ⟨g, 0, none⟩) 2 2) undef (.slice (some ⟨g2, 0, none⟩) 2 2) undef undef undef undef) W := by
  refine reg_two 4 11 (by kernel_rfl) ?_ ?_
  · skip
    refine op_call 4 15 #[.int .i64 7, .agg (varC 0).toArray, .slice (some ⟨g, 0, none⟩) 2 2] (some 61) _ (by kernel_rfl) (by kernel_rfl) (by kernel_rfl) (bind_walk (F := []) 7 (varT 0) [aT, varT 0] _ _ W (var_at [] W 0) (sm_v 0) (pair_tms RB (con_at [] W [97]) (var_at [] W 0) (by simp)) (by rw [SmTs, SmTs, SmTs]; exact ⟨sm_c 97, sm_v 0, trivial⟩) (by decide)) ?_
    rintro e V ⟨co, rfl, hct, hbl⟩
    have HS : Below W0.heap.size W0 V := HS.trans (hbl.mono HS.size)
    refine ⟨_, rfl, HS, ?_⟩
    exact reg_cast (by kernel_rfl) (by kernel_rfl) (r99_3 hQN y W0 FIN g g2 co V HS (TmAt.sub (fun k hk => by cases hk) _ _ hct) (RS.below hbl RS.lt))
  · skip
    obtain ⟨b, hbN⟩ : ∃ b, Hid (W.heap.size = b) := ⟨_, rfl⟩
    refine op_allocT 11 b (some 14) (by kernel_rfl) (by kernel_rfl) (by kernel_rfl) hbN ?_
    intro V bw hbl
    have BBh : Hid (W0.heap.size ≤ b) := by have := HS.size; have := hbN.out; rw [Hid]; omega
    have HS : Below W0.heap.size W0 V := HS.trans (hbl.mono HS.size)
    refine ⟨HS, ?_⟩
    exact reg_cast (by kernel_rfl) (by kernel_rfl) (r99_6 hQN y W0 FIN b g g2 V HS (RB.below hbl RB.lt) (RS.below hbl RS.lt) (bw) BBh)
theorem r99_8 {Q' : Exit → Act → World → Prop} (hQN : ∀ c a w d v, Q' (.panic c) (a.put d v) w → Q' (.panic c) a w) (y : Nat → Value) (W0 : World) (FIN : Fin99 Q' y W0) (b : Nat) (g : Nat) (W : World) (HS : Below W0.heap.size W0 W) (RB : Blk W g 25 (conC [97] ++ varC 0)) (BV : Blk W b 25 z5T) (BBh : W0.heap.size ≤ b) : wpAnyH Try.prog .any (opsOf Try.f16 9) Q' (fun W' => Below W0.heap.size W0 W') 10 #[true, true, true, true, false, false, false, false, false, false, false, true, false, false, false] (A99 y undef (.pointer (some ⟨b, 0, none⟩)) undef undef (.agg (varC 0).toArray) (.agg (varC 0).toArray) (.slice (some ⟨g, 0, none⟩) 2 2) undef undef undef undef undef undef) W := by
  refine reg_two 4 5 (by kernel_rfl) ?_ ?_
  · skip
    refine op_call 4 15 #[.int .i64 7, .agg (varC 0).toArray, .slice (some ⟨g, 0, none⟩) 2 2] (some 61) _ (by kernel_rfl) (by kernel_rfl) (by kernel_rfl) (bind_walk (F := []) 7 (varT 0) [aT, varT 0] _ _ W (var_at [] W 0) (sm_v 0) (pair_tms RB (con_at [] W [97]) (var_at [] W 0) (by simp)) (by rw [SmTs, SmTs, SmTs]; exact ⟨sm_c 97, sm_v 0, trivial⟩) (by decide)) ?_
    rintro e V ⟨co, rfl, hct, hbl⟩
    have HS : Below W0.heap.size W0 V := HS.trans (hbl.mono HS.size)
    refine ⟨_, rfl, HS, ?_⟩
    exact reg_cast (by kernel_rfl) (by kernel_rfl) (r99_4 hQN y W0 FIN b g co V HS (TmAt.sub (fun k hk => by cases hk) _ _ hct) (BV.below hbl BV.lt) BBh)
  · skip
    obtain ⟨g2, hgN⟩ : ∃ y, Hid (W.heap.size = y) := ⟨_, rfl⟩
    refine op_row 5 g2 2 9 ([strT [112], strT [113]]) (some 62) (by kernel_rfl) (by kernel_rfl) hgN (exec_of _ _ (by kernel_rfl) (run_build_strs2' [112] [113] W)) ?_
    intro V bw hbl
    have HS : Below W0.heap.size W0 V := HS.trans (hbl.mono HS.size)
    refine ⟨HS, ?_⟩
    exact reg_cast (by kernel_rfl) (by kernel_rfl) (r99_6 hQN y W0 FIN b g g2 V HS (RB.below hbl RB.lt) (bw) (BV.below hbl BV.lt) BBh)
theorem r99_9 {Q' : Exit → Act → World → Prop} (hQN : ∀ c a w d v, Q' (.panic c) (a.put d v) w → Q' (.panic c) a w) (y : Nat → Value) (W0 : World) (FIN : Fin99 Q' y W0) (g : Nat) (W : World) (HS : Below W0.heap.size W0 W) (RB : Blk W g 25 (conC [97] ++ varC 0)) : wpAnyH Try.prog .any (opsOf Try.f16 9) Q' (fun W' => Below W0.heap.size W0 W') 11 #[true, true, true, true, false, false, false, false, false, false, false, false, false, false, false] (A99 y undef undef undef undef (.agg (varC 0).toArray) (.agg (varC 0).toArray) (.slice (some ⟨g, 0, none⟩) 2 2) undef undef undef undef undef undef) W := by
  refine reg_three 4 5 11 (by kernel_rfl) ?_ ?_ ?_
  · skip
    refine op_call 4 15 #[.int .i64 7, .agg (varC 0).toArray, .slice (some ⟨g, 0, none⟩) 2 2] (some 61) _ (by kernel_rfl) (by kernel_rfl) (by kernel_rfl) (bind_walk (F := []) 7 (varT 0) [aT, varT 0] _ _ W (var_at [] W 0) (sm_v 0) (pair_tms RB (con_at [] W [97]) (var_at [] W 0) (by simp)) (by rw [SmTs, SmTs, SmTs]; exact ⟨sm_c 97, sm_v 0, trivial⟩) (by decide)) ?_
    rintro e V ⟨co, rfl, hct, hbl⟩
    have HS : Below W0.heap.size W0 V := HS.trans (hbl.mono HS.size)
    refine ⟨_, rfl, HS, ?_⟩
    exact reg_cast (by kernel_rfl) (by kernel_rfl) (r99_5 hQN y W0 FIN g co V HS (TmAt.sub (fun k hk => by cases hk) _ _ hct))
  · skip
    obtain ⟨g2, hgN⟩ : ∃ y, Hid (W.heap.size = y) := ⟨_, rfl⟩
    refine op_row 5 g2 2 9 ([strT [112], strT [113]]) (some 62) (by kernel_rfl) (by kernel_rfl) hgN (exec_of _ _ (by kernel_rfl) (run_build_strs2' [112] [113] W)) ?_
    intro V bw hbl
    have HS : Below W0.heap.size W0 V := HS.trans (hbl.mono HS.size)
    refine ⟨HS, ?_⟩
    exact reg_cast (by kernel_rfl) (by kernel_rfl) (r99_7 hQN y W0 FIN g g2 V HS (RB.below hbl RB.lt) (bw))
  · skip
    obtain ⟨b, hbN⟩ : ∃ b, Hid (W.heap.size = b) := ⟨_, rfl⟩
    refine op_allocT 11 b (some 14) (by kernel_rfl) (by kernel_rfl) (by kernel_rfl) hbN ?_
    intro V bw hbl
    have BBh : Hid (W0.heap.size ≤ b) := by have := HS.size; have := hbN.out; rw [Hid]; omega
    have HS : Below W0.heap.size W0 V := HS.trans (hbl.mono HS.size)
    refine ⟨HS, ?_⟩
    exact reg_cast (by kernel_rfl) (by kernel_rfl) (r99_8 hQN y W0 FIN b g V HS (RB.below hbl RB.lt) (bw) BBh)
theorem r99_10 {Q' : Exit → Act → World → Prop} (hQN : ∀ c a w d v, Q' (.panic c) (a.put d v) w → Q' (.panic c) a w) (y : Nat → Value) (W0 : World) (FIN : Fin99 Q' y W0) (b : Nat) (g2 : Nat) (W : World) (HS : Below W0.heap.size W0 W) (RS : Blk W g2 9 [strT [112], strT [113]]) (BV : Blk W b 25 z5T) (BBh : W0.heap.size ≤ b) : wpAnyH Try.prog .any (opsOf Try.f16 9) Q' (fun W' => Below W0.heap.size W0 W') 10 #[true, true, true, false, false, true, false, false, false, false, false, true, false, false, false] (A99 y undef (.pointer (some ⟨b, 0, none⟩)) undef undef (.agg (varC 0).toArray) (.agg (varC 0).toArray) undef undef (.slice (some ⟨g2, 0, none⟩) 2 2) undef undef undef undef) W := by
  refine wpAnyH_one (i := 3) (beq_iff_eq.1 (by kernel_rfl)) ?_
  obtain ⟨g, hgN⟩ : ∃ y, Hid (W.heap.size = y) := ⟨_, rfl⟩
  refine op_row 3 g 2 25 (conC [97] ++ varC 0) (some 60) (by kernel_rfl) (by kernel_rfl) hgN (exec_of _ _ (by kernel_rfl) (run_build_tm2 (con_at [] W [97]) (var_at [] W 0) W)) ?_
  intro V bw hbl
  have HS : Below W0.heap.size W0 V := HS.trans (hbl.mono HS.size)
  refine ⟨HS, ?_⟩
  exact reg_cast (by kernel_rfl) (by kernel_rfl) (r99_6 hQN y W0 FIN b g g2 V HS (bw) (RS.below hbl RS.lt) (BV.below hbl BV.lt) BBh)
theorem r99_11 {Q' : Exit → Act → World → Prop} (hQN : ∀ c a w d v, Q' (.panic c) (a.put d v) w → Q' (.panic c) a w) (y : Nat → Value) (W0 : World) (FIN : Fin99 Q' y W0) (g2 : Nat) (W : World) (HS : Below W0.heap.size W0 W) (RS : Blk W g2 9 [strT [112], strT [113]]) : wpAnyH Try.prog .any (opsOf Try.f16 9) Q' (fun W' => Below W0.heap.size W0 W') 11 #[true, true, true, false, false, true, false, false, false, false, false, false, false, false, false] (A99 y undef undef undef undef (.agg (varC 0).toArray) (.agg (varC 0).toArray) undef undef (.slice (some ⟨g2, 0, none⟩) 2 2) undef undef undef undef) W := by
  refine reg_two 3 11 (by kernel_rfl) ?_ ?_
  · skip
    obtain ⟨g, hgN⟩ : ∃ y, Hid (W.heap.size = y) := ⟨_, rfl⟩
    refine op_row 3 g 2 25 (conC [97] ++ varC 0) (some 60) (by kernel_rfl) (by kernel_rfl) hgN (exec_of _ _ (by kernel_rfl) (run_build_tm2 (con_at [] W [97]) (var_at [] W 0) W)) ?_
    intro V bw hbl
    have HS : Below W0.heap.size W0 V := HS.trans (hbl.mono HS.size)
    refine ⟨HS, ?_⟩
    exact reg_cast (by kernel_rfl) (by kernel_rfl) (r99_7 hQN y W0 FIN g g2 V HS (bw) (RS.below hbl RS.lt))
  · skip
    obtain ⟨b, hbN⟩ : ∃ b, Hid (W.heap.size = b) := ⟨_, rfl⟩
    refine op_allocT 11 b (some 14) (by kernel_rfl) (by kernel_rfl) (by kernel_rfl) hbN ?_
    intro V bw hbl
    have BBh : Hid (W0.heap.size ≤ b) := by have := HS.size; have := hbN.out; rw [Hid]; omega
    have HS : Below W0.heap.size W0 V := HS.trans (hbl.mono HS.size)
    refine ⟨HS, ?_⟩
    exact reg_cast (by kernel_rfl) (by kernel_rfl) (r99_10 hQN y W0 FIN b g2 V HS (RS.below hbl RS.lt) (bw) BBh)
theorem r99_12 {Q' : Exit → Act → World → Prop} (hQN : ∀ c a w d v, Q' (.panic c) (a.put d v) w → Q' (.panic c) a w) (y : Nat → Value) (W0 : World) (FIN : Fin99 Q' y W0) (b : Nat) (W : World) (HS : Below W0.heap.size W0 W) (BV : Blk W b 25 z5T) (BBh : W0.heap.size ≤ b) : wpAnyH Try.prog .any (opsOf Try.f16 9) Q' (fun W' => Below W0.heap.size W0 W') 11 #[true, true, true, false, false, false, false, false, false, false, false, true, false, false, false] (A99 y undef (.pointer (some ⟨b, 0, none⟩)) undef undef (.agg (varC 0).toArray) (.agg (varC 0).toArray) undef undef undef undef undef undef undef) W := by
  refine reg_two 3 5 (by kernel_rfl) ?_ ?_
  · skip
    obtain ⟨g, hgN⟩ : ∃ y, Hid (W.heap.size = y) := ⟨_, rfl⟩
    refine op_row 3 g 2 25 (conC [97] ++ varC 0) (some 60) (by kernel_rfl) (by kernel_rfl) hgN (exec_of _ _ (by kernel_rfl) (run_build_tm2 (con_at [] W [97]) (var_at [] W 0) W)) ?_
    intro V bw hbl
    have HS : Below W0.heap.size W0 V := HS.trans (hbl.mono HS.size)
    refine ⟨HS, ?_⟩
    exact reg_cast (by kernel_rfl) (by kernel_rfl) (r99_8 hQN y W0 FIN b g V HS (bw) (BV.below hbl BV.lt) BBh)
  · skip
    obtain ⟨g2, hgN⟩ : ∃ y, Hid (W.heap.size = y) := ⟨_, rfl⟩
    refine op_row 5 g2 2 9 ([strT [112], strT [113]]) (some 62) (by kernel_rfl) (by kernel_rfl) hgN (exec_of _ _ (by kernel_rfl) (run_build_strs2' [112] [113] W)) ?_
    intro V bw hbl
    have HS : Below W0.heap.size W0 V := HS.trans (hbl.mono HS.size)
    refine ⟨HS, ?_⟩
    exact reg_cast (by kernel_rfl) (by kernel_rfl) (r99_10 hQN y W0 FIN b g2 V HS (bw) (BV.below hbl BV.lt) BBh)
theorem r99_13 {Q' : Exit → Act → World → Prop} (hQN : ∀ c a w d v, Q' (.panic c) (a.put d v) w → Q' (.panic c) a w) (y : Nat → Value) (W0 : World) (FIN : Fin99 Q' y W0) (W : World) (HS : Below W0.heap.size W0 W) : wpAnyH Try.prog .any (opsOf Try.f16 9) Q' (fun W' => Below W0.heap.size W0 W') 12 #[true, true, true, false, false, false, false, false, false, false, false, false, false, false, false] (A99 y undef undef undef undef (.agg (varC 0).toArray) (.agg (varC 0).toArray) undef undef undef undef undef undef undef) W := by
  refine reg_three 3 5 11 (by kernel_rfl) ?_ ?_ ?_
  · skip
    obtain ⟨g, hgN⟩ : ∃ y, Hid (W.heap.size = y) := ⟨_, rfl⟩
    refine op_row 3 g 2 25 (conC [97] ++ varC 0) (some 60) (by kernel_rfl) (by kernel_rfl) hgN (exec_of _ _ (by kernel_rfl) (run_build_tm2 (con_at [] W [97]) (var_at [] W 0) W)) ?_
    intro V bw hbl
    have HS : Below W0.heap.size W0 V := HS.trans (hbl.mono HS.size)
    refine ⟨HS, ?_⟩
    exact reg_cast (by kernel_rfl) (by kernel_rfl) (r99_9 hQN y W0 FIN g V HS (bw))
  · skip
    obtain ⟨g2, hgN⟩ : ∃ y, Hid (W.heap.size = y) := ⟨_, rfl⟩
    refine op_row 5 g2 2 9 ([strT [112], strT [113]]) (some 62) (by kernel_rfl) (by kernel_rfl) hgN (exec_of _ _ (by kernel_rfl) (run_build_strs2' [112] [113] W)) ?_
    intro V bw hbl
    have HS : Below W0.heap.size W0 V := HS.trans (hbl.mono HS.size)
    refine ⟨HS, ?_⟩
    exact reg_cast (by kernel_rfl) (by kernel_rfl) (r99_11 hQN y W0 FIN g2 V HS (bw))
  · skip
    obtain ⟨b, hbN⟩ : ∃ b, Hid (W.heap.size = b) := ⟨_, rfl⟩
    refine op_allocT 11 b (some 14) (by kernel_rfl) (by kernel_rfl) (by kernel_rfl) hbN ?_
    intro V bw hbl
    have BBh : Hid (W0.heap.size ≤ b) := by have := HS.size; have := hbN.out; rw [Hid]; omega
    have HS : Below W0.heap.size W0 V := HS.trans (hbl.mono HS.size)
    refine ⟨HS, ?_⟩
    exact reg_cast (by kernel_rfl) (by kernel_rfl) (r99_12 hQN y W0 FIN b V HS (bw) BBh)
theorem r99_14 {Q' : Exit → Act → World → Prop} (hQN : ∀ c a w d v, Q' (.panic c) (a.put d v) w → Q' (.panic c) a w) (y : Nat → Value) (W0 : World) (FIN : Fin99 Q' y W0) (b : Nat) (g2 : Nat) (W : World) (HS : Below W0.heap.size W0 W) (RS : Blk W g2 9 [strT [112], strT [113]]) (BV : Blk W b 25 z5T) (BBh : W0.heap.size ≤ b) : wpAnyH Try.prog .any (opsOf Try.f16 9) Q' (fun W' => Below W0.heap.size W0 W') 11 #[true, true, false, false, false, true, false, false, false, false, false, true, false, false, false] (A99 y undef (.pointer (some ⟨b, 0, none⟩)) undef undef (.agg (varC 0).toArray) undef undef undef (.slice (some ⟨g2, 0, none⟩) 2 2) undef undef undef undef) W := by
  refine wpAnyH_one (i := 2) (beq_iff_eq.1 (by kernel_rfl)) ?_
  refine op_call 2 43 #[.int .i64 0] (some 59) _ (by kernel_rfl) (by kernel_rfl) (by kernel_rfl) (var9_walk 0 W) ?_
  rintro e V ⟨rfl, hbl⟩
  have HS : Below W0.heap.size W0 V := HS.trans (hbl.mono HS.size)
  refine ⟨_, rfl, HS, ?_⟩
  exact reg_cast (by kernel_rfl) (by kernel_rfl) (r99_10 hQN y W0 FIN b g2 V HS (RS.below hbl RS.lt) (BV.below hbl BV.lt) BBh)
theorem r99_15 {Q' : Exit → Act → World → Prop} (hQN : ∀ c a w d v, Q' (.panic c) (a.put d v) w → Q' (.panic c) a w) (y : Nat → Value) (W0 : World) (FIN : Fin99 Q' y W0) (g2 : Nat) (W : World) (HS : Below W0.heap.size W0 W) (RS : Blk W g2 9 [strT [112], strT [113]]) : wpAnyH Try.prog .any (opsOf Try.f16 9) Q' (fun W' => Below W0.heap.size W0 W') 12 #[true, true, false, false, false, true, false, false, false, false, false, false, false, false, false] (A99 y undef undef undef undef (.agg (varC 0).toArray) undef undef undef (.slice (some ⟨g2, 0, none⟩) 2 2) undef undef undef undef) W := by
  refine reg_two 2 11 (by kernel_rfl) ?_ ?_
  · skip
    refine op_call 2 43 #[.int .i64 0] (some 59) _ (by kernel_rfl) (by kernel_rfl) (by kernel_rfl) (var9_walk 0 W) ?_
    rintro e V ⟨rfl, hbl⟩
    have HS : Below W0.heap.size W0 V := HS.trans (hbl.mono HS.size)
    refine ⟨_, rfl, HS, ?_⟩
    exact reg_cast (by kernel_rfl) (by kernel_rfl) (r99_11 hQN y W0 FIN g2 V HS (RS.below hbl RS.lt))
  · skip
    obtain ⟨b, hbN⟩ : ∃ b, Hid (W.heap.size = b) := ⟨_, rfl⟩
    refine op_allocT 11 b (some 14) (by kernel_rfl) (by kernel_rfl) (by kernel_rfl) hbN ?_
    intro V bw hbl
    have BBh : Hid (W0.heap.size ≤ b) := by have := HS.size; have := hbN.out; rw [Hid]; omega
    have HS : Below W0.heap.size W0 V := HS.trans (hbl.mono HS.size)
    refine ⟨HS, ?_⟩
    exact reg_cast (by kernel_rfl) (by kernel_rfl) (r99_14 hQN y W0 FIN b g2 V HS (RS.below hbl RS.lt) (bw) BBh)
theorem r99_16 {Q' : Exit → Act → World → Prop} (hQN : ∀ c a w d v, Q' (.panic c) (a.put d v) w → Q' (.panic c) a w) (y : Nat → Value) (W0 : World) (FIN : Fin99 Q' y W0) (b : Nat) (W : World) (HS : Below W0.heap.size W0 W) (BV : Blk W b 25 z5T) (BBh : W0.heap.size ≤ b) : wpAnyH Try.prog .any (opsOf Try.f16 9) Q' (fun W' => Below W0.heap.size W0 W') 12 #[true, true, false, false, false, false, false, false, false, false, false, true, false, false, false] (A99 y undef (.pointer (some ⟨b, 0, none⟩)) undef undef (.agg (varC 0).toArray) undef undef undef undef undef undef undef undef) W := by
  refine reg_two 2 5 (by kernel_rfl) ?_ ?_
  · skip
    refine op_call 2 43 #[.int .i64 0] (some 59) _ (by kernel_rfl) (by kernel_rfl) (by kernel_rfl) (var9_walk 0 W) ?_
    rintro e V ⟨rfl, hbl⟩
    have HS : Below W0.heap.size W0 V := HS.trans (hbl.mono HS.size)
    refine ⟨_, rfl, HS, ?_⟩
    exact reg_cast (by kernel_rfl) (by kernel_rfl) (r99_12 hQN y W0 FIN b V HS (BV.below hbl BV.lt) BBh)
  · skip
    obtain ⟨g2, hgN⟩ : ∃ y, Hid (W.heap.size = y) := ⟨_, rfl⟩
    refine op_row 5 g2 2 9 ([strT [112], strT [113]]) (some 62) (by kernel_rfl) (by kernel_rfl) hgN (exec_of _ _ (by kernel_rfl) (run_build_strs2' [112] [113] W)) ?_
    intro V bw hbl
    have HS : Below W0.heap.size W0 V := HS.trans (hbl.mono HS.size)
    refine ⟨HS, ?_⟩
    exact reg_cast (by kernel_rfl) (by kernel_rfl) (r99_14 hQN y W0 FIN b g2 V HS (bw) (BV.below hbl BV.lt) BBh)
theorem r99_17 {Q' : Exit → Act → World → Prop} (hQN : ∀ c a w d v, Q' (.panic c) (a.put d v) w → Q' (.panic c) a w) (y : Nat → Value) (W0 : World) (FIN : Fin99 Q' y W0) (W : World) (HS : Below W0.heap.size W0 W) : wpAnyH Try.prog .any (opsOf Try.f16 9) Q' (fun W' => Below W0.heap.size W0 W') 13 #[true, true, false, false, false, false, false, false, false, false, false, false, false, false, false] (A99 y undef undef undef undef (.agg (varC 0).toArray) undef undef undef undef undef undef undef undef) W := by
  refine reg_three 2 5 11 (by kernel_rfl) ?_ ?_ ?_
  · skip
    refine op_call 2 43 #[.int .i64 0] (some 59) _ (by kernel_rfl) (by kernel_rfl) (by kernel_rfl) (var9_walk 0 W) ?_
    rintro e V ⟨rfl, hbl⟩
    have HS : Below W0.heap.size W0 V := HS.trans (hbl.mono HS.size)
    refine ⟨_, rfl, HS, ?_⟩
    exact reg_cast (by kernel_rfl) (by kernel_rfl) (r99_13 hQN y W0 FIN V HS)
  · skip
    obtain ⟨g2, hgN⟩ : ∃ y, Hid (W.heap.size = y) := ⟨_, rfl⟩
    refine op_row 5 g2 2 9 ([strT [112], strT [113]]) (some 62) (by kernel_rfl) (by kernel_rfl) hgN (exec_of _ _ (by kernel_rfl) (run_build_strs2' [112] [113] W)) ?_
    intro V bw hbl
    have HS : Below W0.heap.size W0 V := HS.trans (hbl.mono HS.size)
    refine ⟨HS, ?_⟩
    exact reg_cast (by kernel_rfl) (by kernel_rfl) (r99_15 hQN y W0 FIN g2 V HS (bw))
  · skip
    obtain ⟨b, hbN⟩ : ∃ b, Hid (W.heap.size = b) := ⟨_, rfl⟩
    refine op_allocT 11 b (some 14) (by kernel_rfl) (by kernel_rfl) (by kernel_rfl) hbN ?_
    intro V bw hbl
    have BBh : Hid (W0.heap.size ≤ b) := by have := HS.size; have := hbN.out; rw [Hid]; omega
    have HS : Below W0.heap.size W0 V := HS.trans (hbl.mono HS.size)
    refine ⟨HS, ?_⟩
    exact reg_cast (by kernel_rfl) (by kernel_rfl) (r99_16 hQN y W0 FIN b V HS (bw) BBh)
theorem r99_18 {Q' : Exit → Act → World → Prop} (hQN : ∀ c a w d v, Q' (.panic c) (a.put d v) w → Q' (.panic c) a w) (y : Nat → Value) (W0 : World) (FIN : Fin99 Q' y W0) (b : Nat) (g2 : Nat) (W : World) (HS : Below W0.heap.size W0 W) (RS : Blk W g2 9 [strT [112], strT [113]]) (BV : Blk W b 25 z5T) (BBh : W0.heap.size ≤ b) : wpAnyH Try.prog .any (opsOf Try.f16 9) Q' (fun W' => Below W0.heap.size W0 W') 12 #[false, true, false, false, false, true, false, false, false, false, false, true, false, false, false] (A99 y undef (.pointer (some ⟨b, 0, none⟩)) undef undef undef undef undef undef (.slice (some ⟨g2, 0, none⟩) 2 2) undef undef undef undef) W := by
  refine wpAnyH_one (i := 0) (beq_iff_eq.1 (by kernel_rfl)) ?_
  refine op_call 0 43 #[.int .i64 0] (some 57) _ (by kernel_rfl) (by kernel_rfl) (by kernel_rfl) (var9_walk 0 W) ?_
  rintro e V ⟨rfl, hbl⟩
  have HS : Below W0.heap.size W0 V := HS.trans (hbl.mono HS.size)
  refine ⟨_, rfl, HS, ?_⟩
  exact reg_cast (by kernel_rfl) (by kernel_rfl) (r99_14 hQN y W0 FIN b g2 V HS (RS.below hbl RS.lt) (BV.below hbl BV.lt) BBh)
theorem r99_19 {Q' : Exit → Act → World → Prop} (hQN : ∀ c a w d v, Q' (.panic c) (a.put d v) w → Q' (.panic c) a w) (y : Nat → Value) (W0 : World) (FIN : Fin99 Q' y W0) (g2 : Nat) (W : World) (HS : Below W0.heap.size W0 W) (RS : Blk W g2 9 [strT [112], strT [113]]) : wpAnyH Try.prog .any (opsOf Try.f16 9) Q' (fun W' => Below W0.heap.size W0 W') 13 #[false, true, false, false, false, true, false, false, false, false, false, false, false, false, false] (A99 y undef undef undef undef undef undef undef undef (.slice (some ⟨g2, 0, none⟩) 2 2) undef undef undef undef) W := by
  refine reg_two 0 11 (by kernel_rfl) ?_ ?_
  · skip
    refine op_call 0 43 #[.int .i64 0] (some 57) _ (by kernel_rfl) (by kernel_rfl) (by kernel_rfl) (var9_walk 0 W) ?_
    rintro e V ⟨rfl, hbl⟩
    have HS : Below W0.heap.size W0 V := HS.trans (hbl.mono HS.size)
    refine ⟨_, rfl, HS, ?_⟩
    exact reg_cast (by kernel_rfl) (by kernel_rfl) (r99_15 hQN y W0 FIN g2 V HS (RS.below hbl RS.lt))
  · skip
    obtain ⟨b, hbN⟩ : ∃ b, Hid (W.heap.size = b) := ⟨_, rfl⟩
    refine op_allocT 11 b (some 14) (by kernel_rfl) (by kernel_rfl) (by kernel_rfl) hbN ?_
    intro V bw hbl
    have BBh : Hid (W0.heap.size ≤ b) := by have := HS.size; have := hbN.out; rw [Hid]; omega
    have HS : Below W0.heap.size W0 V := HS.trans (hbl.mono HS.size)
    refine ⟨HS, ?_⟩
    exact reg_cast (by kernel_rfl) (by kernel_rfl) (r99_18 hQN y W0 FIN b g2 V HS (RS.below hbl RS.lt) (bw) BBh)
theorem r99_20 {Q' : Exit → Act → World → Prop} (hQN : ∀ c a w d v, Q' (.panic c) (a.put d v) w → Q' (.panic c) a w) (y : Nat → Value) (W0 : World) (FIN : Fin99 Q' y W0) (b : Nat) (W : World) (HS : Below W0.heap.size W0 W) (BV : Blk W b 25 z5T) (BBh : W0.heap.size ≤ b) : wpAnyH Try.prog .any (opsOf Try.f16 9) Q' (fun W' => Below W0.heap.size W0 W') 13 #[false, true, false, false, false, false, false, false, false, false, false, true, false, false, false] (A99 y undef (.pointer (some ⟨b, 0, none⟩)) undef undef undef undef undef undef undef undef undef undef undef) W := by
  refine reg_two 0 5 (by kernel_rfl) ?_ ?_
  · skip
    refine op_call 0 43 #[.int .i64 0] (some 57) _ (by kernel_rfl) (by kernel_rfl) (by kernel_rfl) (var9_walk 0 W) ?_
    rintro e V ⟨rfl, hbl⟩
    have HS : Below W0.heap.size W0 V := HS.trans (hbl.mono HS.size)
    refine ⟨_, rfl, HS, ?_⟩
    exact reg_cast (by kernel_rfl) (by kernel_rfl) (r99_16 hQN y W0 FIN b V HS (BV.below hbl BV.lt) BBh)
  · skip
    obtain ⟨g2, hgN⟩ : ∃ y, Hid (W.heap.size = y) := ⟨_, rfl⟩
    refine op_row 5 g2 2 9 ([strT [112], strT [113]]) (some 62) (by kernel_rfl) (by kernel_rfl) hgN (exec_of _ _ (by kernel_rfl) (run_build_strs2' [112] [113] W)) ?_
    intro V bw hbl
    have HS : Below W0.heap.size W0 V := HS.trans (hbl.mono HS.size)
    refine ⟨HS, ?_⟩
    exact reg_cast (by kernel_rfl) (by kernel_rfl) (r99_18 hQN y W0 FIN b g2 V HS (bw) (BV.below hbl BV.lt) BBh)
theorem r99_21 {Q' : Exit → Act → World → Prop} (hQN : ∀ c a w d v, Q' (.panic c) (a.put d v) w → Q' (.panic c) a w) (y : Nat → Value) (W0 : World) (FIN : Fin99 Q' y W0) (W : World) (HS : Below W0.heap.size W0 W) : wpAnyH Try.prog .any (opsOf Try.f16 9) Q' (fun W' => Below W0.heap.size W0 W') 14 #[false, true, false, false, false, false, false, false, false, false, false, false, false, false, false] (A99 y undef undef undef undef undef undef undef undef undef undef undef undef undef) W := by
  refine reg_three 0 5 11 (by kernel_rfl) ?_ ?_ ?_
  · skip
    refine op_call 0 43 #[.int .i64 0] (some 57) _ (by kernel_rfl) (by kernel_rfl) (by kernel_rfl) (var9_walk 0 W) ?_
    rintro e V ⟨rfl, hbl⟩
    have HS : Below W0.heap.size W0 V := HS.trans (hbl.mono HS.size)
    refine ⟨_, rfl, HS, ?_⟩
    exact reg_cast (by kernel_rfl) (by kernel_rfl) (r99_17 hQN y W0 FIN V HS)
  · skip
    obtain ⟨g2, hgN⟩ : ∃ y, Hid (W.heap.size = y) := ⟨_, rfl⟩
    refine op_row 5 g2 2 9 ([strT [112], strT [113]]) (some 62) (by kernel_rfl) (by kernel_rfl) hgN (exec_of _ _ (by kernel_rfl) (run_build_strs2' [112] [113] W)) ?_
    intro V bw hbl
    have HS : Below W0.heap.size W0 V := HS.trans (hbl.mono HS.size)
    refine ⟨HS, ?_⟩
    exact reg_cast (by kernel_rfl) (by kernel_rfl) (r99_19 hQN y W0 FIN g2 V HS (bw))
  · skip
    obtain ⟨b, hbN⟩ : ∃ b, Hid (W.heap.size = b) := ⟨_, rfl⟩
    refine op_allocT 11 b (some 14) (by kernel_rfl) (by kernel_rfl) (by kernel_rfl) hbN ?_
    intro V bw hbl
    have BBh : Hid (W0.heap.size ≤ b) := by have := HS.size; have := hbN.out; rw [Hid]; omega
    have HS : Below W0.heap.size W0 V := HS.trans (hbl.mono HS.size)
    refine ⟨HS, ?_⟩
    exact reg_cast (by kernel_rfl) (by kernel_rfl) (r99_20 hQN y W0 FIN b V HS (bw) BBh)
end Go.Proofs.Ytndbpmkglddjjaa
