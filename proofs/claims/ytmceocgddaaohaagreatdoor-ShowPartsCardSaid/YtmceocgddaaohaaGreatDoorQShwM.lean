/- Law 13's alive. -/
import Derived.Test.YtmceocgddaaohaaGreatDoorQGenT
import Derived.Test.YtmceocgddaaohaaGreatDoorQShwL
namespace Go.Proofs.YtmceocgddaaohaaGreatDoor
open Go Go.RowKit
set_option maxRecDepth 100000
def propS : Tm := .mk 2 0 [] [] []
def propZ : List Value := [.int .i64 2, .int .i64 0, strT [], .slice none 0 0, .slice none 0 0]
theorem propS_at (F : List Nat) (w : World) : TmAt F w propS propZ := TmAt.mk (t := propS) (lvs_nil F w) (nils_at F w)
theorem ones_propZ : ∀ u ∈ propZ, u.oneCell' = true := by
 intro u hu
 simp only [propZ, List.mem_cons, List.not_mem_nil, or_false] at hu
 rcases hu with rfl | rfl | rfl | rfl | rfl <;> rfl
def typS : Tm := bindT 7 (varT 1) [propS, varT 0]
def appS : Tm := appT (conT [120, 48]) [varT 0]
def typD : Tm := bindT 7 appS [propS]
def dcS : Dc := ⟨1, 1, [120, 48], typD, nT, 0, []⟩
def dcZ (la : Option Addr) (lc : Nat) (aa : Option Addr) (ac : Nat) : List Value := [.int .i64 1, .int .i64 1, strT [120, 48], .int .i64 7, .int .i64 0, strT [], .slice la 0 lc, .slice aa 2 ac, .int .i64 0, .int .i64 0, strT [], .slice none 0 0, .slice none 0 0, .int .i64 0, .slice none 0 0]
theorem smS_leaf (k n : Int) (s : List UInt8) (h : s.length ≤ 100) : SmT (.mk k n s [] []) := by
 rw [SmT]
 exact ⟨by unfold reachBytes; omega, by simp [reachBytes], by simp [reachBytes], by rw [SmTs]; trivial⟩
theorem smS_two (k : Int) {x y : Tm} (hx : SmT x) (hy : SmT y) : SmT (.mk k 0 [] [] [x, y]) := by
 rw [SmT]
 exact ⟨by simp [reachBytes], by simp [reachBytes], by simp [reachBytes], by rw [SmTs, SmTs, SmTs]; exact ⟨hx, hy, trivial⟩⟩
theorem smS_p : SmT propS := smS_leaf 2 0 [] (by decide)
theorem smS_v (n : Int) : SmT (varT n) := smS_leaf 1 n [] (by decide)
theorem smS_c : SmT (conT [120, 48]) := smS_leaf 4 0 _ (by decide)
theorem smS_t : SmT typS := smS_two 7 smS_p (smS_two 7 (smS_v 0) (smS_v 1))
theorem smS_a : SmT appS := smS_two 5 smS_c (smS_v 0)
theorem smS_d : SmT typD := smS_two 7 smS_p smS_a
theorem smS_dc : SmD dcS := ⟨by show [120, 48].length ≤ reachBytes; simp [reachBytes], smS_d, smS_leaf 0 0 [] (by decide), by show ([] : List (List UInt8 × Tm)).length * 96 ≤ reachBytes; simp [reachBytes], fun c hc => by cases hc⟩
theorem bigS_dc : BigD dcS := ⟨by rw [show nodesT dcS.ty = 5 by kernel_rfl]; decide, by rw [show nodesT dcS.val = 1 by kernel_rfl]; decide, fun c hc => by cases hc⟩
theorem s_r1 : rightP 4 0 typS = true := by kernel_rfl
theorem s_r2 : rightP 4 0 (varT 0) = false := by kernel_rfl
def txtS : List UInt8 := [97, 108, 108, 32, 40, 120, 48, 32, 58, 32, 80, 114, 111, 112, 41, 44, 32, 97, 108, 108, 32, 40, 120, 49, 32, 58, 32, 120, 48, 41, 44, 32, 120, 48]
def txtD : List UInt8 := [97, 120, 105, 111, 109, 32, 120, 48, 32, 64, 49, 32, 58, 32, 97, 108, 108, 32, 40, 120, 49, 32, 58, 32, 80, 114, 111, 112, 41, 44, 32, 120, 48, 32, 120, 49, 59]
theorem s_t : wlT typS = txtS := by kernel_rfl
theorem s_f : formB dcS = true := by
 unfold formB
 rw [show dcS.kind = 1 from rfl, if_pos rfl, eqT_yes (show dcS.val = nT from rfl)]
 kernel_rfl
theorem s_d : dlT dcS = txtD := by kernel_rfl
theorem s_l : shOk [] = true := by simp [shOk]
theorem s_n : freL [[120, 48], [120, 50]] 2 = [[120, 49], [120, 51]] := by kernel_rfl
theorem RowS.strsAt {m : Nat} {w : World} {v : Value} {l : List (List UInt8)} (h : RowS m w v l) (hl : l ≠ []) : StrsAt w v l := by
 rcases h with ⟨rfl, h⟩ | ⟨g, cap, cur, rfl, -, hg, -, -, hs, ht, -⟩
 ·exact absurd h hl
 ·refine ⟨g, 0, cap, rfl, fun j u hu => ?_⟩
  rw [cell_of_row w g (0 + j) cur 9 (0, 0) hg, Nat.zero_add]
  rw [← ht, List.getElem?_take] at hu
  split at hu
  ·simpa using hu
  ·cases hu
theorem TkAt.two {w : World} {g : Nat} {x y : List UInt8} (hb : Blk w g 9 [strT x, strT y]) : TkAt w (.slice (some ⟨g, 0, none⟩) 2 2) [x, y] := ⟨_, _, rfl, fun _ => ⟨g, 0, rfl, hb.lt, hb.whole⟩⟩
theorem strsS_two {w : World} {g : Nat} {x y : List UInt8} (hb : Blk w g 9 [strT x, strT y]) : StrsAt w (.slice (some ⟨g, 0, none⟩) 2 2) [x, y] := ⟨g, 0, 2, rfl, hb.whole⟩
theorem one_tmsS {F : List Nat} {w : World} {t : Tm} {c : List Value} {g : Nat} (hb : Blk w g 25 c) (h : TmAt F w t c) (hg : g ∉ F) : TmsAt F w [t] (.slice (some ⟨g, 0, none⟩) 1 1) :=
 TmCells.tms (ts := [t]) (ds := [c]) ⟨h, trivial⟩ rfl hb (by simp) hg
theorem run_strsS (x y : List UInt8) (w : World) : (Instr.buildSlice 62 2 #[(0, strT x), (1, strT y)]).run Tryz.prog w = .ok (.slice (some ⟨w.heap.size, 0, none⟩) 2 2) (w.alloc (.cells [strT x, strT y].toArray 9)) := by kernel_rfl
section
variable {ops : Array Oper} {Q : Exit → Act → World → Prop} {a : Act} {w : World} {K : Act → World → Prop}
theorem op_rowS (i b n : Nat) (t : TypeId) (cs : List Value) (d : Option Tmp) (hi : (ops[i]?.isSome && Region.wanted (opAt ops i) (yielded ops a.tmps)) = true) (hd : (opAt ops i).dst = d) (hb : Hid (w.heap.size = b))
    (hrun : (execOp a.eval (opAt ops i)).run Tryz.prog w = .ok (.value (.slice (some ⟨w.heap.size, 0, none⟩) n n)) (w.alloc (.cells cs.toArray t)))
    (h : ∀ w', Blk w' b t cs → Below w.heap.size w w' → K (a.put d (.slice (some ⟨b, 0, none⟩) n n)) w') : wpOp Tryz.prog ops Q i K a w := by
  obtain rfl := hb.out
  exact op_value i _ d _ hi hd hrun (h _ (Blk.new w t cs) ((Below.refl _ _).alloc (Nat.le_refl _) _))
end
theorem StrsAt.nextS {w w' : World} {v : Value} {l : List (List UInt8)} (h : StrsAt w v l) (hb : Below w.heap.size w w') : StrsAt w' v l := by
 obtain ⟨b, o, c, rfl, h1⟩ := h
 exact ⟨b, o, c, rfl, fun j u hu => (hb.cell (p := ⟨b, o + j, none⟩) (block_lt_of_cell (h1 j u hu))).trans (h1 j u hu)⟩
set_option maxHeartbeats 16000000 in
theorem alive13_walk (w : World) (hT : TabW w) : Calls Tryz.prog 6 #[] w fun e w' => e = .returned (.bool true) ∧ Below w.heap.size w w' := by
 obtain ⟨q, hq⟩ : ∃ q, Hid (w.heap.size = q) := ⟨_, rfl⟩
 rw [hq.out]
 have BE : Hid (Below q w w) := by have h9 := Below.refl w.heap.size w; rw [hq.out] at h9; exact h9
 have SQ : Hid (q ≤ w.heap.size) := by have := hq.out; rw [Hid]; omega
 go_enter Tryz.func6, Tryz.ntmps6
 go_upto_region 0 with (fail)
 refine lbeg (opsOf Tryz.f6 0) ?_
 refine lnow 0 (.bool false) (some 0) ?_
 refine ldn 1 ?_
 generalize hact : Act.put _ (some 0) _ = act
 simp only [Act.put, sA, sC, sZ] at hact
 subst hact
 go_upto_region 1 with (fail)
 refine lbeg (opsOf Tryz.f6 1) ?_
 refine lnow 0 (.agg propZ.toArray) (some 13) ?_
 obtain ⟨z1, hz1⟩ : ∃ y, Hid (w.heap.size = y) := ⟨_, rfl⟩
 refine lall 1 25 z5T z1 (some 1) hz1 ?_
 intro u2 b3 e3 s3
 refine lput 2 25 (.tmp 1) (.tmp 13) z1 _ z5T (propZ) b3 ((rfl : propZ.length = 5).trans (rfl : z5T.length = 5).symm) (t5Size (rfl : propZ.length = 5)) (by simpa using ones_propZ) ?_
 intro u3 b4 u4
 refine ldn 3 ?_
 generalize hact : Act.put _ none _ = act
 simp only [Act.put, sA, sC, sZ] at hact
 subst hact
 have E34 : Below w.heap.size w u3 := by rw [hz1.out]; exact u4.below e3 (Nat.le_refl _) (by have := b3.lt; omega)
 replace BE : Hid (Below q w u3) := BE.out.trans (E34.mono SQ.out)
 replace SQ : Hid (q ≤ u3.heap.size) := Nat.le_trans SQ.out E34.size
 have B1 := Lib.hid b4
 clear b3 e3 s3 b4 u4 E34 hz1
 go_upto_region 2 with (fail)
 refine lbeg (opsOf Tryz.f6 2) ?_
 refine lnow 0 (.agg (varC 0).toArray) (some 14) ?_
 obtain ⟨z4, hz4⟩ : ∃ y, Hid (u3.heap.size = y) := ⟨_, rfl⟩
 refine lall 1 25 z5T z4 (some 2) hz4 ?_
 intro u5 b3 e3 s3
 refine lput 2 25 (.tmp 2) (.tmp 14) z4 _ z5T (varC 0) b3 ((rfl : (varC 0).length = 5).trans (rfl : z5T.length = 5).symm) (t5Size (rfl : (varC 0).length = 5)) (by simpa using ones_var 0) ?_
 intro u6 b4 u4
 refine ldn 3 ?_
 generalize hact : Act.put _ none _ = act
 simp only [Act.put, sA, sC, sZ] at hact
 subst hact
 have E34 : Below u3.heap.size u3 u6 := by rw [hz4.out]; exact u4.below e3 (Nat.le_refl _) (by have := b3.lt; omega)
 replace BE : Hid (Below q w u6) := BE.out.trans (E34.mono SQ.out)
 replace SQ : Hid (q ≤ u6.heap.size) := Nat.le_trans SQ.out E34.size
 replace B1 := Lib.hid (B1.out.below E34 B1.out.lt)
 have B2 := Lib.hid b4
 clear b3 e3 s3 b4 u4 E34 hz4
 go_upto_region 3 with (fail)
 refine lbeg (opsOf Tryz.f6 3) ?_
 refine lnow 0 (.agg (varC 1).toArray) (some 15) ?_
 obtain ⟨z7, hz7⟩ : ∃ y, Hid (u6.heap.size = y) := ⟨_, rfl⟩
 refine lall 1 25 z5T z7 (some 3) hz7 ?_
 intro u8 b3 e3 s3
 refine lput 2 25 (.tmp 3) (.tmp 15) z7 _ z5T (varC 1) b3 ((rfl : (varC 1).length = 5).trans (rfl : z5T.length = 5).symm) (t5Size (rfl : (varC 1).length = 5)) (by simpa using ones_var 1) ?_
 intro u9 b4 u4
 refine ldn 3 ?_
 generalize hact : Act.put _ none _ = act
 simp only [Act.put, sA, sC, sZ] at hact
 subst hact
 have E34 : Below u6.heap.size u6 u9 := by rw [hz7.out]; exact u4.below e3 (Nat.le_refl _) (by have := b3.lt; omega)
 replace BE : Hid (Below q w u9) := BE.out.trans (E34.mono SQ.out)
 replace SQ : Hid (q ≤ u9.heap.size) := Nat.le_trans SQ.out E34.size
 replace B1 := Lib.hid (B1.out.below E34 B1.out.lt)
 replace B2 := Lib.hid (B2.out.below E34 B2.out.lt)
 have B3 := Lib.hid b4
 clear b3 e3 s3 b4 u4 E34 hz7
 go_upto_region 4 with (fail)
 refine lbeg (opsOf Tryz.f6 4) ?_
 refine lrl 0 (varC 1) (some 16) 25 3 z7 0 B3.out.whole Tryz.underlying25 (t5Size (rfl : (varC 1).length = 5)) ?_
 refine lrl 1 (propZ) (some 17) 25 1 z1 0 B1.out.whole Tryz.underlying25 (t5Size (rfl : propZ.length = 5)) ?_
 refine lrl 2 (varC 0) (some 18) 25 2 z4 0 B2.out.whole Tryz.underlying25 (t5Size (rfl : (varC 0).length = 5)) ?_
 obtain ⟨g10, hg10⟩ : ∃ y, Hid (u9.heap.size = y) := ⟨_, rfl⟩
 refine lin_row 3 25 (propZ ++ varC 0) g10 2 (some 19) (by kernel_rfl) (by kernel_rfl) hg10 (exec_of _ _ (by kernel_rfl) (run_build_tm2 (propS_at [] u9) (var_at [] u9 0) _)) ?_
 intro u11 b1 e1 s1
 rw [← hg10.out] at e1
 replace BE : Hid (Below q w u11) := BE.out.trans (e1.mono SQ.out)
 replace SQ : Hid (q ≤ u11.heap.size) := Nat.le_trans SQ.out e1.size
 replace B1 := Lib.hid (B1.out.below e1 B1.out.lt)
 replace B2 := Lib.hid (B2.out.below e1 B2.out.lt)
 replace B3 := Lib.hid (B3.out.below e1 B3.out.lt)
 have RW := Lib.hid b1
 clear b1 e1 s1 hg10
 refine lcal 4 18 #[.int .i64 7, .agg (varC 1).toArray, .slice (some ⟨g10, 0, none⟩) 2 2] (some 20) _ (bind_walk (F := []) 7 (varT 1) [propS, varT 0] _ _ u11 (var_at [] u11 1) (smS_v 1) (TmCells.tms (ts := [propS, varT 0]) (ds := [propZ, varC 0]) ⟨propS_at [] u11, var_at [] u11 0, trivial⟩ rfl RW.out (by simp) (by simp)) (by rw [SmTs, SmTs, SmTs]; exact ⟨smS_p, smS_v 0, trivial⟩) (by decide)) ?_
 rintro e u12 ⟨c0, rfl, hct, hbl⟩
 refine ⟨_, rfl, ?_⟩
 replace BE : Hid (Below q w u12) := BE.out.trans (hbl.mono SQ.out)
 replace SQ : Hid (q ≤ u12.heap.size) := Nat.le_trans SQ.out hbl.size
 replace B1 := Lib.hid (B1.out.below hbl B1.out.lt)
 replace B2 := Lib.hid (B2.out.below hbl B2.out.lt)
 replace B3 := Lib.hid (B3.out.below hbl B3.out.lt)
 replace RW := Lib.hid (RW.out.below hbl RW.out.lt)
 have CT : Hid (TmAt [] u12 typS c0) := TmAt.sub (fun k hk => by cases hk) _ _ hct
 have C5 := Lib.hid hct.len
 have C1 := Lib.hid hct.one
 clear hct hbl
 obtain ⟨z13, hz13⟩ : ∃ y, Hid (u12.heap.size = y) := ⟨_, rfl⟩
 refine lall 5 25 z5T z13 (some 4) hz13 ?_
 intro u14 b3 e3 s3
 refine lput 6 25 (.tmp 4) (.tmp 20) z13 _ z5T (c0) b3 (C5.out.trans (rfl : z5T.length = 5).symm) (t5Size C5.out) (by simpa using C1.out) ?_
 intro u15 b4 u4
 refine ldn 7 ?_
 generalize hact : Act.put _ none _ = act
 simp only [Act.put, sA, sC, sZ] at hact
 subst hact
 have E34 : Below u12.heap.size u12 u15 := by rw [hz13.out]; exact u4.below e3 (Nat.le_refl _) (by have := b3.lt; omega)
 replace BE : Hid (Below q w u15) := BE.out.trans (E34.mono SQ.out)
 replace SQ : Hid (q ≤ u15.heap.size) := Nat.le_trans SQ.out E34.size
 replace B1 := Lib.hid (B1.out.below E34 B1.out.lt)
 replace B2 := Lib.hid (B2.out.below E34 B2.out.lt)
 replace B3 := Lib.hid (B3.out.below E34 B3.out.lt)
 replace RW := Lib.hid (RW.out.below E34 RW.out.lt)
 replace CT := Lib.hid (CT.out.below E34)
 have B4 := Lib.hid b4
 clear b3 e3 s3 b4 u4 E34 hz13
 clear B3 RW
 go_upto_region 5 with (fail)
 refine lbeg (opsOf Tryz.f6 5) ?_
 refine lrl 0 (c0) (some 22) 25 4 z13 0 B4.out.whole Tryz.underlying25 (t5Size C5.out) ?_
 have CALL := showTerm_walk typS c0 u15 (hT.below (by rw [hq.out]; exact BE.out)) CT.out smS_t (by rw [show nodesT typS = 5 by kernel_rfl]; decide)
 rw [s_r1, if_pos rfl, s_t] at CALL
 obtain ⟨X1, hX1⟩ : ∃ y, Hid (txtS = y) := ⟨_, Lib.hid rfl⟩
 rw [hX1.out] at CALL
 refine lcal 1 8 #[.agg c0.toArray] (some 23) _ (CALL) ?_
 rintro e u16 ⟨rfl, hbl⟩
 refine ⟨_, rfl, ?_⟩
 replace BE : Hid (Below q w u16) := BE.out.trans (hbl.mono SQ.out)
 replace SQ : Hid (q ≤ u16.heap.size) := Nat.le_trans SQ.out hbl.size
 replace B1 := Lib.hid (B1.out.below hbl B1.out.lt)
 replace B2 := Lib.hid (B2.out.below hbl B2.out.lt)
 replace B4 := Lib.hid (B4.out.below hbl B4.out.lt)
 clear CALL hbl
 refine lnow 2 (.tuple #[sT X1, .bool true]) (some 21) ?_
 refine lnow 3 (sT X1) (some 24) ?_
 refine lnow 4 (.bool true) (some 25) ?_
 refine lnow 5 (sT X1) (some 5) ?_
 refine lnow 6 (.bool true) (some 6) ?_
 refine ldn 7 ?_
 generalize hact : Act.put _ (some 6) _ = act
 simp only [Act.put, sA, sC, sZ] at hact
 subst hact
 clear B4 CT C5 C1
 go_upto_region 6 with (fail)
 refine region_begin (opsOf Tryz.f6 6) (fun W' => Below u16.heap.size u16 W') (by kernel_rfl) (by kernel_rfl) 14 (by kernel_rfl) ?_
 intro Q' hQN hN
 have HS : Below u16.heap.size u16 (World.drew u16) := (Below.refl _ _).drew
 obtain ⟨wd, hwd⟩ : ∃ y, World.drew u16 = y := ⟨_, rfl⟩
 rw [hwd] at HS ⊢
 clear hwd
 have conS : ∀ W, TmAt [] W (conT [120, 48]) (conC [120, 48]) := fun W => con_at [] W _
 refine reg_now 0 (.agg (conC [120, 48]).toArray) (some 27) hQN HS (by kernel_rfl) (by kernel_rfl) (fun w => by kernel_rfl) ?_
 refine reg_nowIf 1 (.agg (varC 0).toArray) (some 28) hQN HS (by kernel_rfl) (by kernel_rfl) (fun w' hw => exec_load_mid 25 (.tmp 2) (by kernel_rfl) z4 0 (by kernel_rfl) (varC 0) _ (B2.out.below hw B2.out.lt).whole Tryz.underlying25 rfl (t5Size (rfl : (varC 0).length = 5))) ?_
 refine reg_nowIf 4 (.agg (propZ).toArray) (some 31) hQN HS (by kernel_rfl) (by kernel_rfl) (fun w' hw => exec_load_mid 25 (.tmp 1) (by kernel_rfl) z1 0 (by kernel_rfl) (propZ) _ (B1.out.below hw B1.out.lt).whole Tryz.underlying25 rfl (t5Size (rfl : propZ.length = 5))) ?_
 have TAIL : ∀ (g1 g2 : Nat) (wa : World) (c : List Value), Below u16.heap.size u16 wa → TmAt [] wa appS c → Blk wa g2 25 propZ → wpAnyH Tryz.prog .any (opsOf Tryz.f6 6) Q' (fun W' => Below u16.heap.size u16 W') 8 #[true, true, true, true, true, true, false, false, false, false, false, false, false, false] { tmps := #[.bool false, .pointer (some ⟨z1, 0, none⟩), .pointer (some ⟨z4, 0, none⟩), .pointer (some ⟨z7, 0, none⟩), .pointer (some ⟨z13, 0, none⟩), sT X1, .bool true, undef, undef, undef, undef, undef, undef, .agg propZ.toArray, .agg (varC 0).toArray, .agg (varC 1).toArray, .agg (varC 1).toArray, .agg propZ.toArray, .agg (varC 0).toArray, .slice (some ⟨g10, 0, none⟩) 2 2, .agg c0.toArray, .tuple #[sT X1, .bool true], .agg c0.toArray, .tuple #[sT X1, .bool true], sT X1, .bool true, undef, .agg (conC [120, 48]).toArray, .agg (varC 0).toArray, .slice (some ⟨g1, 0, none⟩) 1 1, .agg c.toArray, .agg propZ.toArray, .slice (some ⟨g2, 0, none⟩) 1 1, undef, undef, undef, undef, undef, undef, undef, undef, undef, undef, undef, undef, undef, undef, undef, undef, undef, undef, undef, undef, undef, undef, undef, undef, undef, undef, undef, undef, undef, undef, undef, undef, undef, undef, undef, undef, undef, undef, undef, undef, undef, undef, undef], defers := [] } wa := by
  intro g1 g2 wa c HS TC G2
  have C5 := Lib.hid TC.len
  refine reg_call 6 18 #[.int .i64 7, .agg c.toArray, .slice (some ⟨g2, 0, none⟩) 1 1] (some 33) _ (by kernel_rfl) (by kernel_rfl) (by kernel_rfl) (bind_walk (F := []) 7 appS [propS] _ _ wa TC smS_a (one_tmsS G2 (propS_at [] wa) (by simp)) (by rw [SmTs, SmTs]; exact ⟨smS_p, trivial⟩) (by decide)) ?_
  rintro e wb ⟨cd, rfl, hct, hbl⟩
  have HS : Below u16.heap.size u16 wb := HS.trans (hbl.mono HS.size)
  refine ⟨_, rfl, HS, ?_⟩
  have TD : TmAt [] wb typD cd := TmAt.sub (fun k hk => by cases hk) _ _ hct
  obtain ⟨lv, av, rfl, hlv, hav⟩ := TD.open
  obtain ⟨la, lc, rfl⟩ := hlv.slice
  obtain ⟨aa, ac, rfl⟩ := hav.slice
  clear hct hbl hlv hav TC G2
  skip
  refine reg_now 7 (.agg (dcZ la lc aa ac).toArray) (some 34) hQN HS (by kernel_rfl) (by kernel_rfl) (fun w => by kernel_rfl) ?_
  have DX : DcAt [] wb dcS (dcZ la lc aa ac) := ⟨_, z5T, _, ⟨rfl, rfl, rfl⟩, TD, nT_at _ _, CtsAt.nil _ _ _ _⟩
  generalize dcZ la lc aa ac = dcs at DX ⊢
  clear TD
  have CALL := showDecl_walk (F := []) dcS dcs wb (hT.below (by rw [hq.out]; exact BE.out.trans (HS.mono SQ.out))) DX smS_dc bigS_dc
  rw [s_f, if_pos rfl, s_d] at CALL
  obtain ⟨X2, hX2⟩ : ∃ y, Hid (txtD = y) := ⟨_, Lib.hid rfl⟩
  rw [hX2.out] at CALL
  clear DX
  refine reg_call 8 19 #[.agg dcs.toArray] (some 35) _ (by kernel_rfl) (by kernel_rfl) (by kernel_rfl) (CALL) ?_
  rintro e wc ⟨rfl, hbl⟩
  have HS : Below u16.heap.size u16 wc := HS.trans (hbl.mono HS.size)
  refine ⟨_, rfl, HS, ?_⟩
  clear CALL hbl
  refine reg_now 9 (.tuple #[sT X2, .bool true]) (some 26) hQN HS (by kernel_rfl) (by kernel_rfl) (fun w => by kernel_rfl) ?_
  refine reg_now 10 (sT X2) (some 36) hQN HS (by kernel_rfl) (by kernel_rfl) (fun w => by kernel_rfl) ?_
  refine reg_now 11 (.bool true) (some 37) hQN HS (by kernel_rfl) (by kernel_rfl) (fun w => by kernel_rfl) ?_
  refine reg_now 12 (sT X2) (some 7) hQN HS (by kernel_rfl) (by kernel_rfl) (fun w => by kernel_rfl) ?_
  refine reg_now 13 (.bool true) (some 8) hQN HS (by kernel_rfl) (by kernel_rfl) (fun w => by kernel_rfl) ?_
  refine reg_done (by kernel_rfl) (hN _ _ ?_)
  have BX := Lib.hid HS
  obtain ⟨we, hwe⟩ : ∃ y, y = wc := ⟨_, rfl⟩
  rw [← hwe] at BX ⊢
  clear hwe HS hN hQN Q' conS C5
  replace BE : Hid (Below q w we) := BE.out.trans (BX.out.mono SQ.out)
  replace SQ : Hid (q ≤ we.heap.size) := Nat.le_trans SQ.out BX.out.size
  replace B1 := Lib.hid (B1.out.below BX.out B1.out.lt)
  replace B2 := Lib.hid (B2.out.below BX.out B2.out.lt)
  clear B1 BX
  go_upto_region 7 with (fail)
  refine lbeg (opsOf Tryz.f6 7) ?_
  refine lrl 0 (varC 0) (some 39) 25 2 z4 0 B2.out.whole Tryz.underlying25 (t5Size (rfl : (varC 0).length = 5)) ?_
  have CALL := showTerm_walk (varT 0) (varC 0) we (hT.below (by rw [hq.out]; exact BE.out)) (var_at [] we 0) (smS_v 0) (by rw [show nodesT (varT 0) = 1 by kernel_rfl]; decide)
  rw [s_r2, if_neg Bool.false_ne_true] at CALL
  refine lcal 1 8 #[.agg (varC 0).toArray] (some 40) _ (CALL) ?_
  rintro e u17 ⟨rfl, hbl⟩
  refine ⟨_, rfl, ?_⟩
  replace BE : Hid (Below q w u17) := BE.out.trans (hbl.mono SQ.out)
  replace SQ : Hid (q ≤ u17.heap.size) := Nat.le_trans SQ.out hbl.size
  replace B2 := Lib.hid (B2.out.below hbl B2.out.lt)
  clear CALL hbl B2
  refine lnow 2 (.tuple #[sT [], .bool false]) (some 38) ?_
  refine lnow 3 (sT []) (some 41) ?_
  refine lnow 4 (.bool false) (some 42) ?_
  refine lnow 5 (sT []) (some 9) ?_
  refine lnow 6 (.bool false) (some 10) ?_
  refine ldn 7 ?_
  generalize hact : Act.put _ (some 10) _ = act
  simp only [Act.put, sA, sC, sZ] at hact
  subst hact
  go_upto_region 8 with (fail)
  refine lbeg (opsOf Tryz.f6 8) ?_
  have CALL := showLibrary_walk (F := []) [] (.slice none 0 0) u17 (hT.below (by rw [hq.out]; exact BE.out)) (DcsAt.nil _ _ _ _) (fun d hd => by cases hd) (fun d hd => by cases hd)
  rw [s_l, if_pos rfl, show shT [] = [] from rfl] at CALL
  refine lcal 0 15 #[.slice none 0 0] (some 44) _ (CALL) ?_
  rintro e u18 ⟨rfl, hbl⟩
  refine ⟨_, rfl, ?_⟩
  replace BE : Hid (Below q w u18) := BE.out.trans (hbl.mono SQ.out)
  replace SQ : Hid (q ≤ u18.heap.size) := Nat.le_trans SQ.out hbl.size
  clear CALL hbl
  refine lnow 1 (.tuple #[sT [], .bool true]) (some 43) ?_
  refine lnow 2 (sT []) (some 45) ?_
  refine lnow 3 (.bool true) (some 46) ?_
  refine lnow 4 (sT []) (some 11) ?_
  refine lnow 5 (.bool true) (some 12) ?_
  refine ldn 6 ?_
  generalize hact : Act.put _ (some 12) _ = act
  simp only [Act.put, sA, sC, sZ] at hact
  subst hact
  go_upto_region 9 with (fail)
  refine lbeg (opsOf Tryz.f6 9) ?_
  refine lnow 0 (.bool true) (some 47) ?_
  refine lnow 1 (.bool true) (some 48) ?_
  refine lnow 2 (.bool true) (some 49) ?_
  refine lnow 3 (.bool true) (some 50) ?_
  refine lnow 4 (.bool true) (some 51) ?_
  refine lnow 5 (.bool false) (some 52) ?_
  refine lnow 6 (.bool true) (some 53) ?_
  refine lnow 7 (.bool true) (some 54) ?_
  refine lnow 8 (.bool true) (some 55) ?_
  refine lnow 9 (.bool true) (some 56) ?_
  refine lnow 10 (.bool true) (some 57) ?_
  refine lnow 11 (.bool true) (some 58) ?_
  refine lnow 12 (sT []) (some 59) ?_
  refine lnow 13 (.bool true) (some 60) ?_
  refine lnow 14 (.bool true) (some 61) ?_
  refine lnow 15 (.bool true) (some 62) ?_
  refine lnow 16 (sT X1) (some 63) ?_
  refine lin_now 17 (.bool true) (some 64) (by kernel_rfl) (by kernel_rfl) (by rw [← hX1.out]; kernel_rfl) ?_
  refine lnow 18 (.bool true) (some 65) ?_
  refine lnow 19 (.bool true) (some 66) ?_
  refine lnow 20 (sT X2) (some 67) ?_
  refine lin_now 21 (.bool true) (some 68) (by kernel_rfl) (by kernel_rfl) (by rw [← hX2.out]; kernel_rfl) ?_
  refine lnow 22 (.bool true) (some 69) ?_
  refine lnow 23 (.bool true) (some 70) ?_
  obtain ⟨g7, hg7⟩ : ∃ y, Hid (u18.heap.size = y) := ⟨_, rfl⟩
  refine lin_row 24 9 [strT [120, 48], strT [120, 50]] g7 2 (some 71) (by kernel_rfl) (by kernel_rfl) hg7 (exec_of _ _ (by kernel_rfl) (run_strsS [120, 48] [120, 50] _)) ?_
  intro u19 b1 e1 s1
  rw [← hg7.out] at e1
  replace BE : Hid (Below q w u19) := BE.out.trans (e1.mono SQ.out)
  replace SQ : Hid (q ≤ u19.heap.size) := Nat.le_trans SQ.out e1.size
  have R7 := Lib.hid b1
  clear b1 e1 s1 hg7
  have CALL := fresh_walk 2 (by decide) (by decide) [[120, 48], [120, 50]] _ u19 (TkAt.two R7.out) (by decide) (fun s hs => by simp only [List.mem_cons, List.not_mem_nil, or_false] at hs; rcases hs with rfl | rfl <;> decide) (hT.below (by rw [hq.out]; exact BE.out))
  rw [s_n] at CALL
  refine lcal 25 22 #[.int .i64 2, .slice (some ⟨g7, 0, none⟩) 2 2] (some 72) _ (CALL) ?_
  rintro e u20 ⟨rv, rfl, hrow, hbl⟩
  refine ⟨_, rfl, ?_⟩
  replace BE : Hid (Below q w u20) := BE.out.trans (hbl.mono SQ.out)
  replace SQ : Hid (q ≤ u20.heap.size) := Nat.le_trans SQ.out hbl.size
  have ST := Lib.hid (hrow.strsAt (by simp))
  clear CALL hbl hrow R7
  obtain ⟨g8, hg8⟩ : ∃ y, Hid (u20.heap.size = y) := ⟨_, rfl⟩
  refine lin_row 26 9 [strT [120, 49], strT [120, 51]] g8 2 (some 73) (by kernel_rfl) (by kernel_rfl) hg8 (exec_of _ _ (by kernel_rfl) (run_strsS [120, 49] [120, 51] _)) ?_
  intro u21 b1 e1 s1
  rw [← hg8.out] at e1
  replace BE : Hid (Below q w u21) := BE.out.trans (e1.mono SQ.out)
  replace SQ : Hid (q ≤ u21.heap.size) := Nat.le_trans SQ.out e1.size
  replace ST := Lib.hid (ST.out.nextS e1)
  have R8 := Lib.hid b1
  clear b1 e1 s1 hg8
  have CALL := sametexts_walk [[120, 49], [120, 51]] [[120, 49], [120, 51]] rv _ u21 ST.out (strsS_two R8.out) (by decide)
  rw [decide_eq_true rfl] at CALL
  refine lcal 27 21 #[rv, .slice (some ⟨g8, 0, none⟩) 2 2] (some 74) _ (CALL) ?_
  rintro e u22 ⟨rfl, hbl⟩
  refine ⟨_, rfl, ?_⟩
  replace BE : Hid (Below q w u22) := BE.out.trans (hbl.mono SQ.out)
  replace SQ : Hid (q ≤ u22.heap.size) := Nat.le_trans SQ.out hbl.size
  clear CALL hbl
  refine lnow 28 (.bool true) (some 75) ?_
  refine lnow 29 (.bool true) (some 0) ?_
  refine ldn 30 ?_
  generalize hact : Act.put _ (some 0) _ = act
  simp only [Act.put, sA, sC, sZ] at hact
  subst hact
  go_wp2
  refine bodyPost_ret (v := .bool true) (by kernel_rfl) rfl ⟨rfl, BE.out⟩
 refine reg_two 2 5 (by kernel_rfl) ?_ ?_
 ·skip
  obtain ⟨g1, hg1⟩ : ∃ y, Hid (wd.heap.size = y) := ⟨_, rfl⟩
  refine op_rowS 2 g1 1 25 (varC 0) (some 29) (by kernel_rfl) (by kernel_rfl) hg1 (exec_of _ _ (by kernel_rfl) (run_build_tm1 (var_at [] wd 0) _)) ?_
  intro v1 bw hbl
  have HS : Below u16.heap.size u16 v1 := HS.trans (hbl.mono HS.size)
  refine ⟨HS, ?_⟩
  have G1 : Blk v1 g1 25 (varC 0) := bw
  clear bw hbl
  refine reg_two 3 5 (by kernel_rfl) ?_ ?_
  ·skip
   refine op_call 3 20 #[.agg (conC [120, 48]).toArray, .slice (some ⟨g1, 0, none⟩) 1 1] (some 30) _ (by kernel_rfl) (by kernel_rfl) (by kernel_rfl) (app_walk (F := []) (conT [120, 48]) [varT 0] _ _ v1 (con_at [] v1 _) smS_c (one_tmsS G1 (var_at [] v1 0) (by simp)) (by rw [SmTs, SmTs]; exact ⟨smS_v 0, trivial⟩) (by decide)) ?_
   rintro e v2 ⟨c, rfl, hct, hbl⟩
   have HS : Below u16.heap.size u16 v2 := HS.trans (hbl.mono HS.size)
   refine ⟨_, rfl, HS, ?_⟩
   have TC : TmAt [] v2 appS c := TmAt.sub (fun k hk => by cases hk) _ _ hct
   clear hct hbl
   refine wpAnyH_one (i := 5) (beq_iff_eq.1 (by kernel_rfl)) ?_
   obtain ⟨g2, hg2⟩ : ∃ y, Hid (v2.heap.size = y) := ⟨_, rfl⟩
   refine op_rowS 5 g2 1 25 (propZ) (some 32) (by kernel_rfl) (by kernel_rfl) hg2 (exec_of _ _ (by kernel_rfl) (run_build_tm1 (propS_at [] v2) _)) ?_
   intro v3 bw hbl
   have HS : Below u16.heap.size u16 v3 := HS.trans (hbl.mono HS.size)
   refine ⟨HS, ?_⟩
   exact reg_cast (by kernel_rfl) (by kernel_rfl) (TAIL g1 g2 v3 c HS (TC.below hbl) bw)
  ·skip
   obtain ⟨g2, hg2⟩ : ∃ y, Hid (v1.heap.size = y) := ⟨_, rfl⟩
   refine op_rowS 5 g2 1 25 (propZ) (some 32) (by kernel_rfl) (by kernel_rfl) hg2 (exec_of _ _ (by kernel_rfl) (run_build_tm1 (propS_at [] v1) _)) ?_
   intro v2 bw hbl
   have HS : Below u16.heap.size u16 v2 := HS.trans (hbl.mono HS.size)
   refine ⟨HS, ?_⟩
   replace G1 := G1.below hbl G1.lt
   have G2 : Blk v2 g2 25 propZ := bw
   clear bw hbl
   refine wpAnyH_one (i := 3) (beq_iff_eq.1 (by kernel_rfl)) ?_
   refine op_call 3 20 #[.agg (conC [120, 48]).toArray, .slice (some ⟨g1, 0, none⟩) 1 1] (some 30) _ (by kernel_rfl) (by kernel_rfl) (by kernel_rfl) (app_walk (F := []) (conT [120, 48]) [varT 0] _ _ v2 (con_at [] v2 _) smS_c (one_tmsS G1 (var_at [] v2 0) (by simp)) (by rw [SmTs, SmTs]; exact ⟨smS_v 0, trivial⟩) (by decide)) ?_
   rintro e v3 ⟨c, rfl, hct, hbl⟩
   have HS : Below u16.heap.size u16 v3 := HS.trans (hbl.mono HS.size)
   refine ⟨_, rfl, HS, ?_⟩
   exact reg_cast (by kernel_rfl) (by kernel_rfl) (TAIL g1 g2 v3 c HS (TmAt.sub (fun k hk => by cases hk) _ _ hct) (G2.below hbl G2.lt))
 ·skip
  obtain ⟨g2, hg2⟩ : ∃ y, Hid (wd.heap.size = y) := ⟨_, rfl⟩
  refine op_rowS 5 g2 1 25 (propZ) (some 32) (by kernel_rfl) (by kernel_rfl) hg2 (exec_of _ _ (by kernel_rfl) (run_build_tm1 (propS_at [] wd) _)) ?_
  intro v1 bw hbl
  have HS : Below u16.heap.size u16 v1 := HS.trans (hbl.mono HS.size)
  refine ⟨HS, ?_⟩
  have G2 : Blk v1 g2 25 propZ := bw
  clear bw hbl
  refine wpAnyH_one (i := 2) (beq_iff_eq.1 (by kernel_rfl)) ?_
  obtain ⟨g1, hg1⟩ : ∃ y, Hid (v1.heap.size = y) := ⟨_, rfl⟩
  refine op_rowS 2 g1 1 25 (varC 0) (some 29) (by kernel_rfl) (by kernel_rfl) hg1 (exec_of _ _ (by kernel_rfl) (run_build_tm1 (var_at [] v1 0) _)) ?_
  intro v2 bw hbl
  have HS : Below u16.heap.size u16 v2 := HS.trans (hbl.mono HS.size)
  refine ⟨HS, ?_⟩
  replace G2 := G2.below hbl G2.lt
  have G1 : Blk v2 g1 25 (varC 0) := bw
  clear bw hbl
  refine wpAnyH_one (i := 3) (beq_iff_eq.1 (by kernel_rfl)) ?_
  refine op_call 3 20 #[.agg (conC [120, 48]).toArray, .slice (some ⟨g1, 0, none⟩) 1 1] (some 30) _ (by kernel_rfl) (by kernel_rfl) (by kernel_rfl) (app_walk (F := []) (conT [120, 48]) [varT 0] _ _ v2 (con_at [] v2 _) smS_c (one_tmsS G1 (var_at [] v2 0) (by simp)) (by rw [SmTs, SmTs]; exact ⟨smS_v 0, trivial⟩) (by decide)) ?_
  rintro e v3 ⟨c, rfl, hct, hbl⟩
  have HS : Below u16.heap.size u16 v3 := HS.trans (hbl.mono HS.size)
  refine ⟨_, rfl, HS, ?_⟩
  exact reg_cast (by kernel_rfl) (by kernel_rfl) (TAIL g1 g2 v3 c HS (TmAt.sub (fun k hk => by cases hk) _ _ hct) (G2.below hbl G2.lt))
end Go.Proofs.YtmceocgddaaohaaGreatDoor
