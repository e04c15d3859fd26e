/- The laws' first line: a type, a source, and texts that are none. -/
import Derived.Test.YtdacmogedchnaaaQGenT
import Derived.Test.YtdacmogedchnaaaQPrsR
namespace Go.Proofs.Ytdacmogedchnaaa
open Go Go.RowKit
set_option maxRecDepth 100000
def txY1 : List UInt8 := [97, 108, 108, 32, 40, 97, 32, 58, 32, 80, 114, 111, 112, 41, 44, 32, 102, 123, 49, 32, 124, 32, 117, 48, 43, 50, 125, 32, 97, 32, 91, 48, 32, 111, 102, 32, 115, 32, 97, 93]
def txY2 : List UInt8 := [100, 101, 102, 32, 97, 32, 64, 49, 32, 58, 32, 84, 121, 112, 101, 32, 117, 48, 32, 58, 61, 32, 98, 59, 32, 102, 97, 109, 105, 108, 121, 32, 110, 32, 111, 102, 32, 48, 32, 58, 32, 80, 114, 111, 112, 32, 119, 105, 116, 104, 32, 122, 32, 58, 32, 110, 32, 124, 32, 115, 32, 58, 32, 110, 59]
def txY3 : List UInt8 := [102, 117, 110, 32, 40, 97, 32, 58, 32, 98, 41, 32, 97]
def txY4 : List UInt8 := [97, 120, 105, 111, 109, 32, 97, 32, 58, 32, 84, 121, 112, 101, 32, 49, 48, 49, 59]
def trY1 : Rw := .mk 7 0 (some 22) [97] 0 [.mk 2 0 (some 18) [] 0 [], .mk 5 0 (some 15) [] 0 [.mk 5 0 (some 15) [] 0 [.mk 4 0 (some 15) [102] 1 [], .mk 4 0 (some 7) [97] 0 []], .mk 9 0 (some 6) [115] 0 [.mk 4 0 (some 2) [97] 0 []]]]
def dlY2 : List Dl := [⟨2, 1, 0, 25, [97], .mk 3 0 (some 20) [] 1 [], .mk 4 0 (some 17) [98] 0 [], []⟩, ⟨4, 0, 0, 15, [110], .mk 2 0 (some 10) [] 0 [], .mk 0 0 none [] 0 [], [⟨[122], 8, .mk 4 0 (some 6) [110] 0 []⟩, ⟨[115], 4, .mk 4 0 (some 2) [110] 0 []⟩]⟩]
theorem alY1 : readA topP txY1 = .ok trY1 := by kernel_rfl
theorem alY2 : readA sourceP txY2 = .ok dlY2 := by kernel_rfl
theorem alY3 : readA topP txY3 = .error (12, 10) := by kernel_rfl
theorem alY4 : readA sourceP txY4 = .error (15, 21) := by kernel_rfl
theorem atY1 : lookK txY1 15 = 16 := by kernel_rfl
theorem atY2 : lookK txY2 15 = 25 := by kernel_rfl
theorem cell_keep {w w' : World} {b o : Nat} {v : Value} (h : w.cell? ⟨b, o, none⟩ = some v) (hb : Below w.heap.size w w') : w'.cell? ⟨b, o, none⟩ = some v := by
 by_cases hl : b < w.heap.size
 ·exact (hb.cell (p := ⟨b, o, none⟩) hl).trans h
 ·exfalso
  unfold World.cell? at h
  rw [Array.getElem?_eq_none (show w.heap.size ≤ b by omega)] at h
  simp at h
theorem lt_of_cell {w : World} {b o : Nat} {v : Value} (h : w.cell? ⟨b, o, none⟩ = some v) : b < w.heap.size := by
 by_cases hl : b < w.heap.size
 ·exact hl
 ·exfalso
  unfold World.cell? at h
  rw [Array.getElem?_eq_none (show w.heap.size ≤ b by omega)] at h
  simp at h
theorem ndY1 : nodesR trY1 = 9 := by kernel_rfl
/-- The cell of a node's part. -/
theorem args_cells {K : Nat → Nat} {F : List Nat} {w : World} {ts : List Rw} {v : Value} (h : RwsAt K F w ts v) {i : Nat} {t : Rw} (hi : ts[i]? = some t) : ∃ g u c cs, v = .slice (some ⟨g, u, none⟩) ts.length c ∧ w.rangeAt g (u + 6 * i) cs ∧ RwAt K F w t cs := by
 obtain ⟨a, c, rfl⟩ := h.slice
 obtain ⟨t', pb, po, cs, h1, -, rfl, -, -, -, h2, h3⟩ := h.get rfl (List.getElem?_eq_some_iff.1 hi).1
 rw [hi] at h1
 obtain rfl := Option.some.inj h1
 exact ⟨pb, po, c, cs, rfl, h2, h3⟩
theorem sl_cells {α : Type} {P : List Nat → World → α → List Value → Prop} {sz : Nat} {F : List Nat} {w : World} {v : Value} {xs : List α} (h : SlG P sz F w v xs) {i : Nat} {x : α} (hi : xs[i]? = some x) : ∃ g u c cs, v = .slice (some ⟨g, u, none⟩) xs.length c ∧ g < w.heap.size ∧ w.rangeAt g (u + sz * i) cs ∧ P F w x cs := by
 obtain ⟨a, c, rfl, h2, h3⟩ := h
 obtain ⟨g, u, rfl, -, hl, hr⟩ := h3 (by have := (List.getElem?_eq_some_iff.1 hi).1; omega)
 obtain ⟨cs, h4, h5⟩ := hr i x hi
 exact ⟨g, u, c, cs, rfl, hl, h4, h5⟩
theorem elemDls : Try.prog.underlying 27 = some (.slice (Try.prog.elem 27)) := by kernel_rfl
theorem run_at_dl (g u n c k : Nat) (hk : k < n) (w : World) : (Instr.indexAt 27 (.slice (some ⟨g, u, none⟩) n c) (.int .i64 (k : Int))).run Try.prog w = .ok (.pointer (some ⟨g, u + 18 * k, none⟩)) w := by
 rw [run_indexAt_slice w 27 _ _ _ _ _ elemDls]
 have hz : (sizeOf (Try.prog.elem 27)).run Try.prog w = .ok 18 w := by kernel_rfl
 rw [if_pos (by omega), hz, Result.andThen_ok, Addr.add_mid, Int.toNat_natCast, Nat.mul_comm]
theorem elemCtsY : Try.prog.underlying 38 = some (.slice (Try.prog.elem 38)) := by kernel_rfl
theorem run_at_ctY (g u n c k : Nat) (hk : k < n) (w : World) : (Instr.indexAt 38 (.slice (some ⟨g, u, none⟩) n c) (.int .i64 (k : Int))).run Try.prog w = .ok (.pointer (some ⟨g, u + 8 * k, none⟩)) w := by
 rw [run_indexAt_slice w 38 _ _ _ _ _ elemCtsY]
 have hz : (sizeOf (Try.prog.elem 38)).run Try.prog w = .ok 8 w := by kernel_rfl
 rw [if_pos (by omega), hz, Result.andThen_ok, Addr.add_mid, Int.toNat_natCast, Nat.mul_comm]
/-- A declaration's cells, one by one. -/
theorem DlAt.cells {K : Nat → Nat} {F : List Nat} {w : World} {d : Dl} {cs : List Value} (h : DlAt K F w d cs) : cs[0]? = some (.int .i64 (d.kind : Int)) ∧ cs[1]? = some (.int .i64 (d.params : Int)) ∧ cs[3]? = some (.int .i64 (K d.at' : Int)) ∧ cs[4]? = some (sT d.name) ∧ (∃ tc, (∀ j u, tc[j]? = some u → cs[5 + j]? = some u) ∧ RwAt K F w d.ty tc) ∧ (∃ vc, (∀ j u, vc[j]? = some u → cs[11 + j]? = some u) ∧ RwAt K F w d.val vc) ∧ ∃ cv, cs[17]? = some cv ∧ SlG (CtAt K) 8 F w cv d.ctors := by
 obtain ⟨tc, vc, cv, rfl, h1, h2, h3⟩ := h
 have l1 := h1.len
 have l2 := h2.len
 refine ⟨rfl, rfl, rfl, rfl, ⟨tc, fun j u hj => ?_, h1⟩, ⟨vc, fun j u hj => ?_, h2⟩, cv, ?_, h3⟩
 ·have hl := (List.getElem?_eq_some_iff.1 hj).1
  unfold DlC
  rw [List.getElem?_append_right (by simp), List.getElem?_append_left (by simp; omega)]
  simpa using hj
 ·have hl := (List.getElem?_eq_some_iff.1 hj).1
  unfold DlC
  rw [List.getElem?_append_right (by simp; omega), List.getElem?_append_right (by simp; omega), List.getElem?_append_left (by simp; omega)]
  rw [← hj]
  congr 1
  simp
  omega
 ·unfold DlC
  rw [List.getElem?_append_right (by simp), List.getElem?_append_right (by simp; omega), List.getElem?_append_right (by simp; omega)]
  simp [l1, l2]
set_option maxHeartbeats 16000000 in
theorem alive12_walk (w : World) : Calls Try.prog 5 #[] w fun e w' => e = .returned (.bool true) ∧ Below w.heap.size w w' := by
 obtain ⟨B, hB⟩ : ∃ B, Hid (w.heap.size = B) := ⟨_, rfl⟩
 go_enter Try.func5, Try.ntmps5
 go_upto_region 0 with (fail)
 refine lbeg (opsOf Try.f5 0) ?_
 refine lnow 0 (.bool false) (some 0) ?_
 refine ldn 1 ?_
 generalize hact : Act.put _ (some 0) _ = act
 simp only [Act.put, sA, sC, sZ] at hact
 subst hact
 have C := Term_walk txY1 w
 unfold RdPost at C
 rw [alY1] at C
 go_upto_region 1 with (fail)
 refine lbeg (opsOf Try.f5 1) ?_
 refine lcal 0 8 #[sT txY1] (some 15) _ (C) ?_
 rintro e w1 ⟨hb, v, rfl, ca, rfl, hct⟩
 refine ⟨_, rfl, ?_⟩
 have BE : Hid (Below B w w1) := by rw [← hB.out]; exact hb
 have TA : Hid (RwAt (lookK txY1) [] w1 trY1 ca) := RwAt.sub (fun k hk => by cases hk) _ _ hct
 have T6 := Lib.hid TA.out.len
 clear hb hct C
 refine lnow 1 (.tuple #[.agg ca.toArray, .int .i64 0, .int .i64 0]) (some 14) ?_
 refine lnow 2 (.agg ca.toArray) (some 16) ?_
 refine lnow 3 (.int .i64 0) (some 17) ?_
 refine lnow 4 (.int .i64 0) (some 18) ?_
 have SZ : Hid (B ≤ w1.heap.size) := by rw [← hB.out]; exact BE.out.size
 obtain ⟨z, hz⟩ : ∃ y, Hid (w1.heap.size = y) := ⟨_, rfl⟩
 refine lin_alloc 5 33 z6R z (some 1) (by kernel_rfl) (by kernel_rfl) (by kernel_rfl) zeroRw hz ?_
 intro wa ba ea sa
 refine lput 6 33 (.tmp 1) (.tmp 16) z _ z6R ca ba (T6.out.trans z6_len.symm) (rwSize T6.out) (by simpa using TA.out.one) ?_
 intro w2 bb ub
 have eb : Below w1.heap.size w1 w2 := by rw [hz.out]; exact ub.below ea (Nat.le_refl _) (by have := ba.lt; omega)
 have Bz := Lib.hid bb
 replace BE : Hid (Below B w w2) := BE.out.trans (eb.mono SZ.out)
 replace SZ : Hid (B ≤ w2.heap.size) := Nat.le_trans SZ.out eb.size
 replace TA := Lib.hid (RwAt.below TA.out eb)
 clear ba ea sa bb ub eb hz
 refine lnow 7 (.int .i64 0) (some 2) ?_
 refine lnow 8 (.int .i64 0) (some 3) ?_
 refine ldn 9 ?_
 generalize hact : Act.put _ (some 3) _ = act
 simp only [Act.put, sA, sC, sZ] at hact
 subst hact
 have C := Source_walk txY2 w2
 unfold RdPost at C
 rw [alY2] at C
 go_upto_region 2 with (fail)
 refine lbeg (opsOf Try.f5 2) ?_
 refine lcal 0 7 #[sT txY2] (some 20) _ (C) ?_
 rintro e w3 ⟨hb, v, rfl, hv⟩
 refine ⟨_, rfl, ?_⟩
 replace BE : Hid (Below B w w3) := BE.out.trans (hb.mono SZ.out)
 replace SZ : Hid (B ≤ w3.heap.size) := Nat.le_trans SZ.out hb.size
 replace TA := Lib.hid (RwAt.below TA.out hb)
 replace Bz := Lib.hid (Bz.out.below hb Bz.out.lt)
 have DS : Hid (SlG (DlAt (lookK txY2)) 18 [] w3 v dlY2) := SlG.sub (dlG _) hv (fun k hk => by cases hk)
 clear hb hv C
 obtain ⟨va, vc, hvv⟩ := DS.out.slice
 rw [show dlY2.length = 2 from rfl] at hvv
 subst hvv
 refine lnow 1 (.tuple #[.slice va 2 vc, .int .i64 0, .int .i64 0]) (some 19) ?_
 refine lnow 2 (.slice va 2 vc) (some 21) ?_
 refine lnow 3 (.int .i64 0) (some 22) ?_
 refine lnow 4 (.int .i64 0) (some 23) ?_
 refine lnow 5 (.slice va 2 vc) (some 4) ?_
 refine lnow 6 (.int .i64 0) (some 5) ?_
 refine lnow 7 (.int .i64 0) (some 6) ?_
 refine ldn 8 ?_
 generalize hact : Act.put _ (some 6) _ = act
 simp only [Act.put, sA, sC, sZ] at hact
 subst hact
 have C := Term_walk txY3 w3
 unfold RdPost at C
 rw [alY3] at C
 go_upto_region 3 with (fail)
 refine lbeg (opsOf Try.f5 3) ?_
 refine lcal 0 8 #[sT txY3] (some 25) _ (C) ?_
 rintro e w4 ⟨hb, rfl⟩
 refine ⟨_, rfl, ?_⟩
 replace BE : Hid (Below B w w4) := BE.out.trans (hb.mono SZ.out)
 replace SZ : Hid (B ≤ w4.heap.size) := Nat.le_trans SZ.out hb.size
 replace TA := Lib.hid (RwAt.below TA.out hb)
 replace Bz := Lib.hid (Bz.out.below hb Bz.out.lt)
 replace DS := Lib.hid (SlG.below (dlG _) DS.out hb)
 clear hb C
 refine lnow 1 (.tuple #[.agg z6R.toArray, .int .i64 ((12 : Nat) : Int), .int .i64 ((10 : Nat) : Int)]) (some 24) ?_
 refine lnow 2 (.agg z6R.toArray) (some 26) ?_
 refine lnow 3 (.int .i64 ((12 : Nat) : Int)) (some 27) ?_
 refine lnow 4 (.int .i64 ((10 : Nat) : Int)) (some 28) ?_
 obtain ⟨z7, hz7⟩ : ∃ y, Hid (w4.heap.size = y) := ⟨_, rfl⟩
 refine lin_alloc 5 33 z6R z7 (some 7) (by kernel_rfl) (by kernel_rfl) (by kernel_rfl) zeroRw hz7 ?_
 intro wa ba ea sa
 refine lput 6 33 (.tmp 7) (.tmp 26) z7 _ z6R z6R ba (z6_len.trans z6_len.symm) (rwSize z6_len) (by simpa using (zRw_at id [] w).one) ?_
 intro w5 bb ub
 have eb : Below w4.heap.size w4 w5 := by rw [hz7.out]; exact ub.below ea (Nat.le_refl _) (by have := ba.lt; omega)
 have Bz7 := Lib.hid bb
 replace BE : Hid (Below B w w5) := BE.out.trans (eb.mono SZ.out)
 replace SZ : Hid (B ≤ w5.heap.size) := Nat.le_trans SZ.out eb.size
 replace TA := Lib.hid (RwAt.below TA.out eb)
 replace Bz := Lib.hid (Bz.out.below eb Bz.out.lt)
 replace DS := Lib.hid (SlG.below (dlG _) DS.out eb)
 clear ba ea sa bb ub eb hz7
 refine lnow 7 (.int .i64 ((12 : Nat) : Int)) (some 8) ?_
 refine lnow 8 (.int .i64 ((10 : Nat) : Int)) (some 9) ?_
 refine ldn 9 ?_
 generalize hact : Act.put _ (some 9) _ = act
 simp only [Act.put, sA, sC, sZ] at hact
 subst hact
 have C := Source_walk txY4 w5
 unfold RdPost at C
 rw [alY4] at C
 go_upto_region 4 with (fail)
 refine lbeg (opsOf Try.f5 4) ?_
 refine lcal 0 7 #[sT txY4] (some 30) _ (C) ?_
 rintro e w6 ⟨hb, rfl⟩
 refine ⟨_, rfl, ?_⟩
 replace BE : Hid (Below B w w6) := BE.out.trans (hb.mono SZ.out)
 replace SZ : Hid (B ≤ w6.heap.size) := Nat.le_trans SZ.out hb.size
 replace TA := Lib.hid (RwAt.below TA.out hb)
 replace Bz := Lib.hid (Bz.out.below hb Bz.out.lt)
 replace DS := Lib.hid (SlG.below (dlG _) DS.out hb)
 clear hb C
 refine lnow 1 (.tuple #[.slice none 0 0, .int .i64 ((15 : Nat) : Int), .int .i64 ((21 : Nat) : Int)]) (some 29) ?_
 refine lnow 2 (.slice none 0 0) (some 31) ?_
 refine lnow 3 (.int .i64 ((15 : Nat) : Int)) (some 32) ?_
 refine lnow 4 (.int .i64 ((21 : Nat) : Int)) (some 33) ?_
 refine lnow 5 (.slice none 0 0) (some 10) ?_
 refine lnow 6 (.int .i64 ((15 : Nat) : Int)) (some 11) ?_
 refine lnow 7 (.int .i64 ((21 : Nat) : Int)) (some 12) ?_
 refine ldn 8 ?_
 generalize hact : Act.put _ (some 12) _ = act
 simp only [Act.put, sA, sC, sZ] at hact
 subst hact
 have TN := Lib.hid TA.out
 have ta := TA.out
 rw [trY1, RwAt] at ta
 obtain ⟨lv, av, eca, -, hav⟩ := ta
 have ECA := Lib.hid eca
 obtain ⟨g1, u1, k1, c1, eav, hr1, hc1⟩ := args_cells (i := 1) hav rfl
 have T61 := Lib.hid hc1.len
 have ONE1 := Lib.hid hc1.one
 rw [RwAt] at hc1
 obtain ⟨lv1, av1, ec1, -, hav1⟩ := hc1
 have EC1 := Lib.hid ec1
 obtain ⟨g2, u2, k2, c2, eav1, hr2, hc2⟩ := args_cells (i := 1) hav1 rfl
 rw [RwAt] at hc2
 obtain ⟨lv2, av2, ec2, -, -⟩ := hc2
 obtain ⟨g3, u3, k3, e0, hv3, -, hr3, hd3⟩ := sl_cells (i := 0) DS.out rfl
 obtain ⟨g4, u4, k4, e1, hv4, -, hr4, hd4⟩ := sl_cells (i := 1) DS.out rfl
 obtain ⟨e34, -, -⟩ := Value.slice.inj (hv3.symm.trans hv4)
 have e36 := Option.some.inj e34
 obtain ⟨rfl, rfl⟩ : g3 = g4 ∧ u3 = u4 := by injection e36 with a1 a2; exact ⟨a1, a2⟩
 have hva : va = some ⟨g3, u3, none⟩ := (Value.slice.inj hv3).1
 subst hva
 obtain ⟨cv, hcv, hcs⟩ := (hd4.cells).2.2.2.2.2.2
 obtain ⟨g5, u5, k5, f1, ecv, -, hr5, hct5⟩ := sl_cells (i := 1) hcs rfl
 obtain ⟨tc5, ef1, -⟩ := hct5
 have A0 : Hid (w6.cell? ⟨z, 0, none⟩ = some (.int .i64 7)) := Bz.out.cell (by rw [ECA.out]; rfl)
 have A3 : Hid (w6.cell? ⟨z, 3, none⟩ = some (sT [97])) := Bz.out.cell (by rw [ECA.out]; rfl)
 have A5 : Hid (w6.cell? ⟨z, 5, none⟩ = some (.slice (some ⟨g1, u1, none⟩) 2 k1)) := Bz.out.cell (by rw [ECA.out, eav]; rfl)
 have N0 : Hid (w6.cell? ⟨g2, u2 + 6 * 1, none⟩ = some (.int .i64 9)) := hr2 0 _ (by rw [ec2]; rfl)
 have P1 : Hid (w6.cell? ⟨g3, u3 + 18 * 0 + 1, none⟩ = some (.int .i64 1)) := hr3 1 _ hd3.cells.2.1
 have P3 : Hid (w6.cell? ⟨g3, u3 + 18 * 1 + 3, none⟩ = some (.int .i64 25)) := by have h9 := hr4 3 _ hd4.cells.2.2.1; rw [show lookK txY2 (Dl.at' ⟨4, 0, 0, 15, [110], .mk 2 0 (some 10) [] 0 [], .mk 0 0 none [] 0 [], [⟨[122], 8, .mk 4 0 (some 6) [110] 0 []⟩, ⟨[115], 4, .mk 4 0 (some 2) [110] 0 []⟩]⟩) = 25 from atY2] at h9; exact h9
 have P17 : Hid (w6.cell? ⟨g3, u3 + 18 * 1 + 17, none⟩ = some (.slice (some ⟨g5, u5, none⟩) 2 k5)) := by have h9 := hr4 17 _ hcv; rw [ecv] at h9; exact h9
 have Q0 : Hid (w6.cell? ⟨g5, u5 + 8 * 1, none⟩ = some (sT [115])) := hr5 0 _ (by rw [ef1]; rfl)
 have PLT : Hid (g1 < w6.heap.size) := lt_of_cell (hr1 0 _ (by rw [ec1]; rfl))
 have R1 := Lib.hid hr1
 have E16 : Hid ((atK (lookK txY1) (some 15) : Int) = 16) := by rw [Hid, atK, atY1]; rfl
 have EAV1 := Lib.hid eav1
 clear hr1 hr2 hr3 hr4 hr5 hcv hcs hav hav1 hd3 hd4 hv3 hv4 e34 e36 TA DS eca ec1 ec2 eav eav1 ecv ef1
 go_upto_region 5 with (fail)
 refine lbeg (opsOf Try.f5 5) ?_
 refine lnow 0 (.int .i64 0) (some 34) ?_
 refine lnow 1 (.bool false) (some 35) ?_
 refine lnow 2 (.bool false) (some 36) ?_
 refine lnow 3 (.int .i64 0) (some 37) ?_
 refine lnow 4 (.bool false) (some 38) ?_
 refine lnow 5 (.bool false) (some 39) ?_
 refine lnow 6 (.bool false) (some 40) ?_
 refine lnow 7 (.slice (some ⟨g3, u3, none⟩) 2 vc) (some 41) ?_
 refine lnow 8 (.int .i64 (2 : Int)) (some 42) ?_
 refine lnow 9 (.bool (!decide ((2 : Int) = 2))) (some 43) ?_
 rw [decide_eq_true (rfl)]
 rw [show (!true) = false from rfl]
 refine lnow 10 (.bool false) (some 44) ?_
 refine lnow 11 (.bool false) (some 45) ?_
 refine lnow 12 (.pointer (some ⟨z, 5, none⟩)) (some 46) ?_
 refine lcl 13 (.slice (some ⟨g1, u1, none⟩) 2 k1) (some 47) 31 46 (z) (5) (A5.out) Try.underlying31 ?_
 refine lnow 14 (.int .i64 (2 : Int)) (some 48) ?_
 refine lnow 15 (.bool (!decide ((2 : Int) = 2))) (some 49) ?_
 rw [decide_eq_true (rfl)]
 rw [show (!true) = false from rfl]
 refine lnow 16 (.bool false) (some 50) ?_
 refine lnow 17 (.bool false) (some 51) ?_
 refine lnow 18 (.slice (some ⟨g3, u3, none⟩) 2 vc) (some 52) ?_
 refine lnowP 19 (.pointer (some ⟨g3, u3 + 18 * 1, none⟩)) (some 53) (exec_indexAt 27 (.tmp 52) (.const (.int .i64 1)) (by kernel_rfl) _ _ _ (by kernel_rfl) (by kernel_rfl) (run_at_dl g3 u3 2 vc 1 (by decide) _)) ?_
 refine lnow 20 (.pointer (some ⟨g3, u3 + 18 * 1 + 17, none⟩)) (some 54) ?_
 refine lcl 21 (.slice (some ⟨g5, u5, none⟩) 2 k5) (some 55) 38 54 (g3) (u3 + 18 * 1 + 17) (P17.out) Try.underlying38 ?_
 refine lnow 22 (.int .i64 (2 : Int)) (some 56) ?_
 refine lnow 23 (.bool (!decide ((2 : Int) = 2))) (some 57) ?_
 rw [decide_eq_true (rfl)]
 rw [show (!true) = false from rfl]
 refine lnow 24 (.bool false) (some 58) ?_
 refine ldn 25 ?_
 generalize hact : Act.put _ (some 58) _ = act
 simp only [Act.put, sA, sC, sZ] at hact
 subst hact
 go_upto_region 7 with (fail)
 refine lbeg (opsOf Try.f5 7) ?_
 refine lnow 0 (.pointer (some ⟨z, 5, none⟩)) (some 59) ?_
 refine lcl 1 (.slice (some ⟨g1, u1, none⟩) 2 k1) (some 60) 31 59 (z) (5) (A5.out) Try.underlying31 ?_
 refine lnowP 2 (.pointer (some ⟨g1, u1 + 6 * 1, none⟩)) (some 61) (exec_indexAt 31 (.tmp 60) (.const (.int .i64 1)) (by kernel_rfl) _ _ _ (by kernel_rfl) (by kernel_rfl) (run_at_raw g1 u1 2 k1 1 (by decide) _)) ?_
 refine lrl 3 c1 (some 62) 33 61 g1 (u1 + 6 * 1) R1.out Try.underlying33 (rwSize T61.out) ?_
 obtain ⟨z13, hz13⟩ : ∃ y, Hid (w6.heap.size = y) := ⟨_, rfl⟩
 refine lin_alloc 4 33 z6R z13 (some 13) (by kernel_rfl) (by kernel_rfl) (by kernel_rfl) zeroRw hz13 ?_
 intro wa ba ea sa
 refine lput 5 33 (.tmp 13) (.tmp 62) z13 _ z6R c1 ba (T61.out.trans z6_len.symm) (rwSize T61.out) (by simpa using ONE1.out) ?_
 intro w7 bb ub
 have eb : Below w6.heap.size w6 w7 := by rw [hz13.out]; exact ub.below ea (Nat.le_refl _) (by have := ba.lt; omega)
 have Bz13 := Lib.hid bb
 replace BE : Hid (Below B w w7) := BE.out.trans (eb.mono SZ.out)
 replace SZ : Hid (B ≤ w7.heap.size) := Nat.le_trans SZ.out eb.size
 replace A0 := Lib.hid (cell_keep A0.out eb)
 replace A3 := Lib.hid (cell_keep A3.out eb)
 replace A5 := Lib.hid (cell_keep A5.out eb)
 replace N0 := Lib.hid (cell_keep N0.out eb)
 replace P1 := Lib.hid (cell_keep P1.out eb)
 replace P3 := Lib.hid (cell_keep P3.out eb)
 replace P17 := Lib.hid (cell_keep P17.out eb)
 replace Q0 := Lib.hid (cell_keep Q0.out eb)
 replace TN := Lib.hid (RwAt.below TN.out eb)
 replace Bz := Lib.hid (Bz.out.below eb Bz.out.lt)
 clear ba ea sa bb ub eb hz13
 refine ldn 6 ?_
 generalize hact : Act.put _ none _ = act
 simp only [Act.put, sA, sC, sZ] at hact
 subst hact
 have M0 : Hid (w7.cell? ⟨z13, 0, none⟩ = some (.int .i64 5)) := Bz13.out.cell (by rw [EC1.out]; rfl)
 have M2 : Hid (w7.cell? ⟨z13, 2, none⟩ = some (.int .i64 16)) := by rw [← E16.out]; exact Bz13.out.cell (by rw [EC1.out]; rfl)
 have M5 : Hid (w7.cell? ⟨z13, 5, none⟩ = some (.slice (some ⟨g2, u2, none⟩) 2 k2)) := Bz13.out.cell (by rw [EC1.out, EAV1.out]; rfl)
 go_upto_region 8 with (fail)
 refine lbeg (opsOf Try.f5 8) ?_
 refine lnow 0 (.int .i64 10) (some 63) ?_
 refine lnow 1 (.bool true) (some 64) ?_
 refine lnow 2 (.bool true) (some 65) ?_
 refine lnow 3 (.int .i64 12) (some 66) ?_
 refine lnow 4 (.bool true) (some 67) ?_
 refine lnow 5 (.bool true) (some 68) ?_
 refine lnow 6 (.bool true) (some 69) ?_
 refine lnow 7 (.int .i64 21) (some 70) ?_
 refine lnow 8 (.bool true) (some 71) ?_
 refine lnow 9 (.bool true) (some 72) ?_
 refine lnow 10 (.bool true) (some 73) ?_
 refine lnow 11 (.int .i64 15) (some 74) ?_
 refine lnow 12 (.bool true) (some 75) ?_
 refine lnow 13 (.bool true) (some 76) ?_
 refine lnow 14 (.bool true) (some 77) ?_
 refine lnow 15 (.pointer (some ⟨z, 0, none⟩)) (some 78) ?_
 refine lcl 16 (.int .i64 7) (some 79) 3 78 (z) (0) (A0.out) Try.underlying3 ?_
 refine lnow 17 (.bool true) (some 80) ?_
 refine lnow 18 (.bool true) (some 81) ?_
 refine lnow 19 (.bool true) (some 82) ?_
 refine lnow 20 (.pointer (some ⟨z, 3, none⟩)) (some 83) ?_
 refine lcl 21 (sT [97]) (some 84) 9 83 (z) (3) (A3.out) Try.underlying9 ?_
 refine lnowP 22 (.bool (decide ([97] = [97]))) (some 85) (exec_sEq 9 9 (.tmp 84) (.const (.string ⟨#[97]⟩)) (by kernel_rfl) [97] [97] (by kernel_rfl) (by kernel_rfl) (fun _ => rfl)) ?_
 rw [decide_eq_true rfl]
 refine lnow 23 (.bool true) (some 86) ?_
 refine lnow 24 (.bool true) (some 87) ?_
 refine lnow 25 (.pointer (some ⟨z13, 0, none⟩)) (some 88) ?_
 refine lcl 26 (.int .i64 5) (some 89) 3 88 (z13) (0) (M0.out) Try.underlying3 ?_
 refine lnow 27 (.bool true) (some 90) ?_
 refine lnow 28 (.bool true) (some 91) ?_
 refine lnow 29 (.bool true) (some 92) ?_
 refine lnow 30 (.pointer (some ⟨z13, 2, none⟩)) (some 93) ?_
 refine lcl 31 (.int .i64 16) (some 94) 3 93 (z13) (2) (M2.out) Try.underlying3 ?_
 refine lnow 32 (.bool true) (some 95) ?_
 refine lnow 33 (.bool true) (some 96) ?_
 refine lnow 34 (.bool true) (some 97) ?_
 refine lnow 35 (.pointer (some ⟨z13, 5, none⟩)) (some 98) ?_
 refine lcl 36 (.slice (some ⟨g2, u2, none⟩) 2 k2) (some 99) 31 98 (z13) (5) (M5.out) Try.underlying31 ?_
 refine lnowP 37 (.pointer (some ⟨g2, u2 + 6 * 1, none⟩)) (some 100) (exec_indexAt 31 (.tmp 99) (.const (.int .i64 1)) (by kernel_rfl) _ _ _ (by kernel_rfl) (by kernel_rfl) (run_at_raw g2 u2 2 k2 1 (by decide) _)) ?_
 refine lnow 38 (.pointer (some ⟨g2, u2 + 6 * 1, none⟩)) (some 101) ?_
 refine lcl 39 (.int .i64 9) (some 102) 3 101 (g2) (u2 + 6 * 1) (N0.out) Try.underlying3 ?_
 refine lnow 40 (.bool true) (some 103) ?_
 refine lnow 41 (.bool true) (some 104) ?_
 refine lnow 42 (.bool true) (some 105) ?_
 refine lrl 43 ca (some 106) 33 1 z 0 Bz.out.whole Try.underlying33 (rwSize T6.out) ?_
 refine lcal 44 12 #[.agg ca.toArray] (some 107) _ (nodes_walkR (lookK txY1) trY1 [] ca w7 TN.out (by rw [ndY1]; decide)) ?_
 rintro e w8 ⟨rfl, hb⟩
 refine ⟨_, rfl, ?_⟩
 rw [ndY1]
 replace BE : Hid (Below B w w8) := BE.out.trans (hb.mono SZ.out)
 replace SZ : Hid (B ≤ w8.heap.size) := Nat.le_trans SZ.out hb.size
 replace P1 := Lib.hid (cell_keep P1.out hb)
 replace P3 := Lib.hid (cell_keep P3.out hb)
 replace P17 := Lib.hid (cell_keep P17.out hb)
 replace Q0 := Lib.hid (cell_keep Q0.out hb)
 clear hb
 refine lnow 45 (.bool true) (some 108) ?_
 refine lnow 46 (.bool true) (some 109) ?_
 refine lnow 47 (.bool true) (some 110) ?_
 refine lnow 48 (.slice (some ⟨g3, u3, none⟩) 2 vc) (some 111) ?_
 refine lnowP 49 (.pointer (some ⟨g3, u3 + 18 * 0, none⟩)) (some 112) (exec_indexAt 27 (.tmp 111) (.const (.int .i64 0)) (by kernel_rfl) _ _ _ (by kernel_rfl) (by kernel_rfl) (run_at_dl g3 u3 2 vc 0 (by decide) _)) ?_
 refine lnow 50 (.pointer (some ⟨g3, u3 + 18 * 0 + 1, none⟩)) (some 113) ?_
 refine lcl 51 (.int .i64 1) (some 114) 3 113 (g3) (u3 + 18 * 0 + 1) (P1.out) Try.underlying3 ?_
 refine lnow 52 (.bool true) (some 115) ?_
 refine lnow 53 (.bool true) (some 116) ?_
 refine lnow 54 (.bool true) (some 117) ?_
 refine lnow 55 (.slice (some ⟨g3, u3, none⟩) 2 vc) (some 118) ?_
 refine lnowP 56 (.pointer (some ⟨g3, u3 + 18 * 1, none⟩)) (some 119) (exec_indexAt 27 (.tmp 118) (.const (.int .i64 1)) (by kernel_rfl) _ _ _ (by kernel_rfl) (by kernel_rfl) (run_at_dl g3 u3 2 vc 1 (by decide) _)) ?_
 refine lnow 57 (.pointer (some ⟨g3, u3 + 18 * 1 + 3, none⟩)) (some 120) ?_
 refine lcl 58 (.int .i64 25) (some 121) 3 120 (g3) (u3 + 18 * 1 + 3) (P3.out) Try.underlying3 ?_
 refine lnow 59 (.bool true) (some 122) ?_
 refine lnow 60 (.bool true) (some 123) ?_
 refine lnow 61 (.bool true) (some 124) ?_
 refine lnow 62 (.slice (some ⟨g3, u3, none⟩) 2 vc) (some 125) ?_
 refine lnowP 63 (.pointer (some ⟨g3, u3 + 18 * 1, none⟩)) (some 126) (exec_indexAt 27 (.tmp 125) (.const (.int .i64 1)) (by kernel_rfl) _ _ _ (by kernel_rfl) (by kernel_rfl) (run_at_dl g3 u3 2 vc 1 (by decide) _)) ?_
 refine lnow 64 (.pointer (some ⟨g3, u3 + 18 * 1 + 17, none⟩)) (some 127) ?_
 refine lcl 65 (.slice (some ⟨g5, u5, none⟩) 2 k5) (some 128) 38 127 (g3) (u3 + 18 * 1 + 17) (P17.out) Try.underlying38 ?_
 refine lnowP 66 (.pointer (some ⟨g5, u5 + 8 * 1, none⟩)) (some 129) (exec_indexAt 38 (.tmp 128) (.const (.int .i64 1)) (by kernel_rfl) _ _ _ (by kernel_rfl) (by kernel_rfl) (run_at_ctY g5 u5 2 k5 1 (by decide) _)) ?_
 refine lnow 67 (.pointer (some ⟨g5, u5 + 8 * 1, none⟩)) (some 130) ?_
 refine lcl 68 (sT [115]) (some 131) 9 130 (g5) (u5 + 8 * 1) (Q0.out) Try.underlying9 ?_
 refine lnowP 69 (.bool (decide ([115] = [115]))) (some 132) (exec_sEq 9 9 (.tmp 131) (.const (.string ⟨#[115]⟩)) (by kernel_rfl) [115] [115] (by kernel_rfl) (by kernel_rfl) (fun _ => rfl)) ?_
 rw [decide_eq_true rfl]
 refine lnow 70 (.bool true) (some 133) ?_
 refine lnow 71 (.bool true) (some 0) ?_
 refine ldn 72 ?_
 generalize hact : Act.put _ (some 0) _ = act
 simp only [Act.put, sA, sC, sZ] at hact
 subst hact
 have FIN : Hid (Below w.heap.size w w8) := by rw [hB.out]; exact BE.out
 go_wp2
 go_ret
 exact ⟨rfl, FIN.out⟩
end Go.Proofs.Ytdacmogedchnaaa
