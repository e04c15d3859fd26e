/- The statements' common first line of layer 7: alive. -/
import Derived.Test.YtngpmilojfbpmaaDoorLevS
import Derived.Test.YtngpmilojfbpmaaDoorGenG
namespace Go.Proofs.YtngpmilojfbpmaaDoor
open Go Go.RowKit
set_option maxRecDepth 100000

def lP : Lv := ⟨0, [0, -1, -1, -1]⟩
def lM : Lv := ⟨1, [0, -1, -1, -1]⟩
def lU : Lv := ⟨2, [1, -1, -1, -1]⟩
theorem exec_eqlv_yes {a : Act} {w : World} {op : Oper} (x y : Operand) (yt : TypeId) (ho : op.op = .binOp .eql 46 x y yt) {l : Lv} (hl : l.p.length = 4) (ex : a.eval x = .agg (ints .i64 l.zs).toArray) (ey : a.eval y = .agg (ints .i64 l.zs).toArray) : (execOp a.eval op).run Tryd.prog w = .ok (.value (.bool true)) w := by
  have h := exec_eqlv (w := w) x y yt ho hl hl ex ey
  rw [decide_eq_true rfl] at h
  exact h
theorem max_alive : maxL [numL 1, lP] = lM := by decide
theorem up_alive : upV lM 1 = .tuple #[.agg (ints .i64 lU.zs).toArray, .bool true] := upV_yes (l := lM) (n := 1) (by decide)
theorem inst_alive : instV lU [numL 7] = .tuple #[.agg (ints .i64 (numL 8).zs).toArray, .bool true] := instV_yes (l := lU) (bs := [numL 7]) (r := numL 8) (by decide)
theorem text_alive : textL lU = [50, 32, 124, 32, 117, 48, 43, 49] := by
  have h0 : Lib.itoa (0 : Int) = [48] := by rw [itoa_dec (by omega)]; exact Lib.decDigits_one (i := 0) (by omega)
  have h1 : Lib.itoa (1 : Int) = [49] := by rw [itoa_dec (by omega)]; exact Lib.decDigits_one (i := 1) (by omega)
  have h2 : Lib.itoa (2 : Int) = [50] := by rw [itoa_dec (by omega)]; exact Lib.decDigits_one (i := 2) (by omega)
  have hp : partsL lU = [[50], [117, 48, 43, 49]] := by
    have e : partsL lU = [Lib.itoa 2, partT 0 1] := rfl
    rw [e, h2, partT, if_neg (by decide)]
    have e3 : Lib.itoa ((0 : Nat) : Int) = [48] := h0
    rw [e3, h1]
    rfl
  have hr : rightL lU = true := by decide
  rw [textL, if_pos hr, hp]
  rfl
/-- What alive has laid: two levels in blocks of its own. -/
structure AlvS (q : Nat) (w0 : World) (bM bU : Nat) (w : World) : Prop where
  m : Blk w bM 46 (ints .i64 lM.zs)
  u : Blk w bU 46 (ints .i64 lU.zs)
  t : TabW w
  b : Below q w0 w
  s : q ≤ w.heap.size
theorem AlvS.next {q : Nat} {w0 : World} {bM bU : Nat} {w w' : World} (h : AlvS q w0 bM bU w) (hb : Below w.heap.size w w') : AlvS q w0 bM bU w' :=
  ⟨h.m.below hb h.m.lt, h.u.below hb h.u.lt, h.t.below hb, h.b.trans (hb.mono h.s), Nat.le_trans h.s hb.size⟩
structure AlvT (q : Nat) (w0 : World) (bM bU bX : Nat) (w : World) : Prop where
  s : AlvS q w0 bM bU w
  x : Blk w bX 46 (ints .i64 (numL 8).zs)
theorem AlvT.next {q : Nat} {w0 : World} {bM bU bX : Nat} {w w' : World} (h : AlvT q w0 bM bU bX w) (hb : Below w.heap.size w w') : AlvT q w0 bM bU bX w' :=
  ⟨h.s.next hb, h.x.below hb h.x.lt⟩
theorem run_build_int1 (x : Int) (w : World) : (Instr.buildSlice 47 1 #[(0, .int .i64 x)]).run Tryd.prog w = .ok (.slice (some ⟨w.heap.size, 0, none⟩) 1 1) (w.alloc (.cells (ints .i64 [x]).toArray 3)) := by kernel_rfl
theorem nums_one {w : World} {g : Nat} {x : Int} (h : Blk w g 3 (ints .i64 [x])) : NumsIn w (.slice (some ⟨g, 0, none⟩) 1 1) [x] :=
  ⟨_, 1, rfl, Nat.le_refl _, fun _ => ⟨g, 0, rfl, h.lt, h.whole⟩⟩
set_option maxHeartbeats 1000000 in
theorem par0_walk (w : World) : Calls Tryd.prog 50 #[.int .i64 0, .int .i64 0] w fun e w' => e = .returned (.agg (ints .i64 lP.zs).toArray) ∧ Below w.heap.size w w' := by
  obtain ⟨q, hq⟩ : ∃ q, Hid (w.heap.size = q) := ⟨_, rfl⟩
  rw [hq.out]
  go_enter Tryd.func50, Tryd.ntmps50
  go_upto_region 0 with (fail)
  refine lin_begin (opsOf Tryd.f50 0) (by kernel_rfl) ?_
  refine lin_alloc 0 46 (ints .i64 z5) (q) (some 4) (by kernel_rfl) (by kernel_rfl) (by kernel_rfl) zeroLv hq ?_
  intro w1 b1 be1 hs1
  refine lin_done 1 (by kernel_rfl) ?_
  generalize hact : Act.put _ (some 4) _ = act
  simp only [Act.put, List.setIfInBounds_toArray, List.set_cons_succ, List.set_cons_zero] at hact
  subst hact
  go_upto_region 1 with (fail)
  refine lin_begin (opsOf Tryd.f50 1) (by kernel_rfl) ?_
  refine lin_now 0 (.int .i64 0) (some 6) (by kernel_rfl) (by kernel_rfl) (by kernel_rfl) ?_
  refine lin_now 1 (.bool false) (some 7) (by kernel_rfl) (by kernel_rfl) (by kernel_rfl) ?_
  refine lin_now 2 (.bool false) (some 8) (by kernel_rfl) (by kernel_rfl) (by kernel_rfl) ?_
  refine lin_now 3 (.int .i64 0) (some 9) (by kernel_rfl) (by kernel_rfl) (by kernel_rfl) ?_
  refine lin_now 4 (.bool false) (some 10) (by kernel_rfl) (by kernel_rfl) (by kernel_rfl) ?_
  refine lin_now 5 (.bool false) (some 11) (by kernel_rfl) (by kernel_rfl) (by kernel_rfl) ?_
  refine lin_now 6 (.bool false) (some 12) (by kernel_rfl) (by kernel_rfl) (by kernel_rfl) ?_
  refine lin_now 7 (.int .i64 0) (some 13) (by kernel_rfl) (by kernel_rfl) (by kernel_rfl) ?_
  refine lin_call 8 53 #[.int .i64 0] (some 14) _ (by kernel_rfl) (by kernel_rfl) (by kernel_rfl) (inb_yes 0 _ (by decide) (by decide)) ?_
  rintro e w' ⟨rfl, rfl⟩
  refine ⟨_, rfl, ?_⟩
  refine lin_now 9 (.bool false) (some 15) (by kernel_rfl) (by kernel_rfl) (by kernel_rfl) ?_
  refine lin_now 10 (.bool false) (some 16) (by kernel_rfl) (by kernel_rfl) (by kernel_rfl) ?_
  refine lin_done 11 (by kernel_rfl) ?_
  generalize hact : Act.put _ (some 16) _ = act
  simp only [Act.put, List.setIfInBounds_toArray, List.set_cons_succ, List.set_cons_zero] at hact
  subst hact
  go_upto_region 3 with (fail)
  refine lin_begin (opsOf Tryd.f50 3) (by kernel_rfl) ?_
  refine lin_now 0 (.int .i64 0) (some 18) (by kernel_rfl) (by kernel_rfl) (by kernel_rfl) ?_
  refine lin_call 1 49 #[.int .i64 0] (some 19) _ (by kernel_rfl) (by kernel_rfl) (by kernel_rfl) (num_walk 0 _) ?_
  rintro e w2 ⟨rfl, hb2⟩
  refine ⟨_, rfl, ?_⟩
  obtain ⟨g, hg⟩ : ∃ g, Hid (w2.heap.size = g) := ⟨_, rfl⟩
  have Z2 := b1.below hb2 b1.lt
  have QG : Hid (q < g) := by rw [Hid, ← hg.out]; exact Z2.lt
  have BE2 : Below q w w2 := be1.trans (hb2.mono (by rw [hs1.out]; exact Nat.le_succ _))
  refine lin_alloc 2 46 (ints .i64 z5) (g) (some 5) (by kernel_rfl) (by kernel_rfl) (by kernel_rfl) zeroLv hg ?_
  intro w3 b3 be3 hs3
  refine lin_put 3 46 (.tmp 5) (.tmp 19) (g) _ (ints .i64 z5) (ints .i64 (numL 0).zs) (by kernel_rfl) (by kernel_rfl) (by kernel_rfl) (by kernel_rfl) (by kernel_rfl) b3 (rfl) (lvSize (l := numL 0) rfl) (ints_oneCell _ _) ?_
  intro w4 b4 u4
  refine lin_done 4 (by kernel_rfl) ?_
  have G4 := Lib.hid b4
  have Z4 : Hid (Blk w4 q 46 (ints .i64 z5)) := u4.blk (Z2.below be3 QG.out) (by have := QG.out; omega)
  have BE4 : Hid (Below q w w4) := u4.below (BE2.trans (be3.mono (Nat.le_of_lt QG.out))) (Nat.le_of_lt QG.out) (by rw [hs3.out]; have := QG.out; omega)
  clear b1 be1 hs1 hb2 Z2 BE2 b3 be3 hs3 b4 u4 hg
  generalize hact : Act.put _ none undef = act
  simp only [Act.put, List.setIfInBounds_toArray, List.set_cons_succ, List.set_cons_zero] at hact
  subst hact
  go_upto_region 4 with (fail)
  refine lin_begin (opsOf Tryd.f50 4) (by kernel_rfl) ?_
  refine lin_now 0 (.int .i64 0) (some 20) (by kernel_rfl) (by kernel_rfl) (by kernel_rfl) ?_
  refine lin_now 1 (.int .i64 0) (some 21) (by kernel_rfl) (by kernel_rfl) (by kernel_rfl) ?_
  refine lin_now 2 (.pointer (some ⟨g, 1, none⟩)) (some 22) (by kernel_rfl) (by kernel_rfl) (by kernel_rfl) ?_
  refine lin_now 3 (.pointer (some ⟨g, 1 + 0, none⟩)) (some 23) (by kernel_rfl) (by kernel_rfl) (exec_indexAt 44 (.tmp 22) (.tmp 20) (by kernel_rfl) _ _ _ (by kernel_rfl) (by kernel_rfl) (run_at_arr4 g 1 0 (by omega) _)) ?_
  refine lin_cel 4 3 (.tmp 23) (.tmp 21) g 1 46 (ints .i64 (numL 0).zs) (.int .i64 0) (by kernel_rfl) (by kernel_rfl) (by kernel_rfl) (by kernel_rfl) (by kernel_rfl) G4.out (by decide) sizeInt rfl rfl ?_
  intro w5 b5 u5 hs5
  refine lin_done 5 (by kernel_rfl) ?_
  have G5 : Hid (Blk w5 g 46 (ints .i64 lP.zs)) := b5
  have Z5 : Hid (Blk w5 q 46 (ints .i64 z5)) := u5.blk Z4.out (by have := QG.out; omega)
  have BE5 : Hid (Below q w w5) := u5.below BE4.out (Nat.le_of_lt QG.out) (Nat.le_of_lt Z4.out.lt)
  clear b5 u5 hs5 G4 Z4 BE4
  generalize hact : Act.put _ none undef = act
  simp only [Act.put, List.setIfInBounds_toArray, List.set_cons_succ, List.set_cons_zero] at hact
  subst hact
  go_upto_region 5 with (fail)
  refine lin_begin (opsOf Tryd.f50 5) (by kernel_rfl) ?_
  refine lin_load 0 46 (.tmp 5) (g) _ (ints .i64 lP.zs) (some 24) (by kernel_rfl) (by kernel_rfl) (by kernel_rfl) (by kernel_rfl) G5.out _ Tryd.underlying46 rfl (lvSize (l := lP) rfl) ?_
  refine lin_put 1 46 (.tmp 4) (.tmp 24) (q) _ (ints .i64 z5) (ints .i64 lP.zs) (by kernel_rfl) (by kernel_rfl) (by kernel_rfl) (by kernel_rfl) (by kernel_rfl) Z5.out (rfl) (lvSize (l := lP) rfl) (ints_oneCell _ _) ?_
  intro w6 b6 u6
  refine lin_done 2 (by kernel_rfl) ?_
  have B6 := Lib.hid b6
  have BE6 : Hid (Below q w w6) := u6.below BE5.out (Nat.le_refl _) (Nat.le_of_lt Z5.out.lt)
  clear b6 u6
  generalize hact : Act.put _ none undef = act
  simp only [Act.put, List.setIfInBounds_toArray, List.set_cons_succ, List.set_cons_zero] at hact
  subst hact
  go_wp2
  refine bodyPost_ret (v := .agg (ints .i64 (lP.zs)).toArray) ?_ rfl ⟨rfl, BE6.out⟩
  exact results_cell_row (g := q) (t := 46) (cs := (ints .i64 (lP.zs)).toArray) (fr := (0, 0)) Tryd.results50 _ _ _ rfl B6.out Tryd.underlying46 rfl (by rw [List.size_toArray]; exact lvSize (l := lP) rfl)
set_option maxHeartbeats 4000000 in
theorem alive7_walk (w : World) (hT : TabW w) : Calls Tryd.prog 16 #[] w fun e w' => e = .returned (.bool true) ∧ Below w.heap.size w w' := by
  obtain ⟨q, hq⟩ : ∃ q, Hid (w.heap.size = q) := ⟨_, rfl⟩
  have HT := Lib.hid hT
  rw [hq.out]
  clear hT
  go_enter Tryd.func16, Tryd.ntmps16
  go_upto_region 1 with (fail)
  refine lin_begin (opsOf Tryd.f16 1) (by kernel_rfl) ?_
  refine lin_call 0 49 #[.int .i64 1] (some 6) _ (by kernel_rfl) (by kernel_rfl) (by kernel_rfl) (num_walk 1 _) ?_
  rintro e w1 ⟨rfl, hb1⟩
  refine ⟨_, rfl, ?_⟩
  refine lin_call 1 50 #[.int .i64 0, .int .i64 0] (some 7) _ (by kernel_rfl) (by kernel_rfl) (by kernel_rfl) (par0_walk _) ?_
  rintro e w2 ⟨rfl, hb2⟩
  refine ⟨_, rfl, ?_⟩
  have b02 : Below w.heap.size w w2 := hb1.trans (hb2.mono hb1.size)
  obtain ⟨s, hs⟩ : ∃ s, Hid (w2.heap.size = s) := ⟨_, rfl⟩
  refine lin_row 2 46 (ints .i64 ((numL 1).zs ++ lP.zs)) s 2 (some 8) (by kernel_rfl) (by kernel_rfl) hs (exec_of (Instr.buildSlice 53 2 #[(0, .agg (ints .i64 (numL 1).zs).toArray), (1, .agg (ints .i64 lP.zs).toArray)]) _ (by kernel_rfl) (run_build_lvs2 (a := numL 1) (b := lP) rfl rfl _)) ?_
  intro w3 b3 be3 hs3
  have be3' : Below w2.heap.size w2 w3 := by rw [hs.out]; exact be3
  refine lin_call 3 20 #[.slice (some ⟨s, 0, none⟩) 2 2] (some 9) _ (by kernel_rfl) (by kernel_rfl) (by kernel_rfl) (max_walk _ [numL 1, lP] _ (two_in (a := numL 1) (b := lP) rfl rfl b3)) ?_
  rintro e w4 ⟨rfl, hb4⟩
  rw [max_alive]
  refine ⟨_, rfl, ?_⟩
  have b04 : Below w.heap.size w w4 := (b02.trans (be3'.mono b02.size)).trans (hb4.mono (Nat.le_trans b02.size be3'.size))
  obtain ⟨bM, hbM⟩ : ∃ s, Hid (w4.heap.size = s) := ⟨_, rfl⟩
  refine lin_alloc 4 46 (ints .i64 z5) (bM) (some 1) (by kernel_rfl) (by kernel_rfl) (by kernel_rfl) zeroLv hbM ?_
  intro w5 b5 be5 hs5
  refine lin_put 5 46 (.tmp 1) (.tmp 9) (bM) _ (ints .i64 z5) (ints .i64 lM.zs) (by kernel_rfl) (by kernel_rfl) (by kernel_rfl) (by kernel_rfl) (by kernel_rfl) b5 (rfl) (lvSize (l := lM) rfl) (ints_oneCell _ _) ?_
  intro w6 b6 u6
  refine lin_done 6 (by kernel_rfl) ?_
  have be5' : Below w4.heap.size w4 w5 := by rw [hbM.out]; exact be5
  have QM : Hid (q ≤ bM) := by rw [Hid, ← hbM.out, ← hq.out]; exact b04.size
  have M6 := Lib.hid b6
  have BE6 : Hid (Below q w w6) := u6.below (by rw [← hq.out]; exact b04.trans (be5'.mono b04.size)) QM.out (by rw [hs5.out]; have := QM.out; omega)
  have T6 : Hid (TabW w6) := HT.out.below (by rw [hq.out]; exact BE6.out)
  clear hb1 hb2 b02 hs b3 be3 be3' hs3 hb4 b04 hbM b5 be5 be5' hs5 b6 u6
  generalize hact : Act.put _ none undef = act
  simp only [Act.put, List.setIfInBounds_toArray, List.set_cons_succ, List.set_cons_zero] at hact
  subst hact
  go_upto_region 2 with (fail)
  refine lin_begin (opsOf Tryd.f16 2) (by kernel_rfl) ?_
  refine lin_load 0 46 (.tmp 1) (bM) _ (ints .i64 lM.zs) (some 11) (by kernel_rfl) (by kernel_rfl) (by kernel_rfl) (by kernel_rfl) M6.out _ Tryd.underlying46 rfl (lvSize (l := lM) rfl) ?_
  refine lin_call 1 51 #[.agg (ints .i64 (lM).zs).toArray, .int .i64 1] (some 12) _ (by kernel_rfl) (by kernel_rfl) (by kernel_rfl) (up_walk lM rfl 1 _) ?_
  rintro e w7 ⟨rfl, hb7⟩
  rw [up_alive]
  refine ⟨_, rfl, ?_⟩
  refine lin_now 2 (.tuple #[.agg (ints .i64 lU.zs).toArray, .bool true]) (some 10) (by kernel_rfl) (by kernel_rfl) (by kernel_rfl) ?_
  refine lin_now 3 (.agg (ints .i64 (lU).zs).toArray) (some 13) (by kernel_rfl) (by kernel_rfl) (by kernel_rfl) ?_
  refine lin_now 4 (.bool true) (some 14) (by kernel_rfl) (by kernel_rfl) (by kernel_rfl) ?_
  obtain ⟨bU, hbU⟩ : ∃ s, Hid (w7.heap.size = s) := ⟨_, rfl⟩
  have M7 := M6.out.below hb7 M6.out.lt
  have MU : Hid (bM < bU) := by rw [Hid, ← hbU.out]; exact M7.lt
  have QS6 : Hid (q ≤ w6.heap.size) := Nat.le_trans QM.out (Nat.le_of_lt M6.out.lt)
  have BE7 : Below q w w7 := BE6.out.trans (hb7.mono QS6.out)
  refine lin_alloc 5 46 (ints .i64 z5) (bU) (some 2) (by kernel_rfl) (by kernel_rfl) (by kernel_rfl) zeroLv hbU ?_
  intro w8 b8 be8 hs8
  refine lin_put 6 46 (.tmp 2) (.tmp 13) (bU) _ (ints .i64 z5) (ints .i64 lU.zs) (by kernel_rfl) (by kernel_rfl) (by kernel_rfl) (by kernel_rfl) (by kernel_rfl) b8 (rfl) (lvSize (l := lU) rfl) (ints_oneCell _ _) ?_
  intro w9 b9 u9
  refine lin_now 7 (.bool true) (some 3) (by kernel_rfl) (by kernel_rfl) (by kernel_rfl) ?_
  refine lin_done 8 (by kernel_rfl) ?_
  have S9 : AlvS q w bM bU w9 := by
    have B : Below q w w9 := u9.below (BE7.trans (be8.mono (by have := QM.out; have := MU.out; omega))) (by have := QM.out; have := MU.out; omega) (by rw [hs8.out]; have := QM.out; have := MU.out; omega)
    exact ⟨u9.blk (M7.below be8 MU.out) (by have := MU.out; omega), b9, HT.out.below (by rw [hq.out]; exact B), B, by have := b9.lt; have := QM.out; have := MU.out; omega⟩
  have HS := Lib.hid S9
  clear S9 hb7 M7 QS6 BE7 hbU b8 be8 hs8 b9 u9 M6 BE6 T6
  generalize hact : Act.put _ (some 3) _ = act
  simp only [Act.put, List.setIfInBounds_toArray, List.set_cons_succ, List.set_cons_zero] at hact
  subst hact
  go_upto_region 3 with (fail)
  refine region_begin (opsOf Tryd.f16 3) (AlvS q w bM bU) (by kernel_rfl) (by kernel_rfl) 10 (by kernel_rfl) ?_
  intro Q' hQN hN
  have X : AlvS q w bM bU w9.drew := HS.out.next (Below.refl _ _).drew
  generalize w9.drew = w10 at X ⊢
  clear HS
  refine reg_nowIf 0 (.agg (ints .i64 (lU).zs).toArray) (some 16) hQN X (by kernel_rfl) (by kernel_rfl) (fun w' hw => exec_load_mid 46 (.tmp 2) (by kernel_rfl) bU 0 (by kernel_rfl) (ints .i64 lU.zs) _ hw.u.whole Tryd.underlying46 rfl (lvSize (l := lU) rfl)) ?_
  refine reg_chain 1 2 3 4 5 6 7 17 18 19 15 20 21 4 49 21 (fun s => .slice (some ⟨s, 0, none⟩) 1 1) (fun r => .pointer (some ⟨r, 0, none⟩)) (.cells (ints .i64 (numL 7).zs).toArray 46) (.cells (ints .i64 z5).toArray 46) #[.int .i64 7] (fun s => #[.agg (ints .i64 lU.zs).toArray, .slice (some ⟨s, 0, none⟩) 1 1]) (.agg (ints .i64 (numL 7).zs).toArray) (.tuple #[.agg (ints .i64 (numL 8).zs).toArray, .bool true]) (.tuple #[.agg (ints .i64 (numL 8).zs).toArray, .bool true]) (.agg (ints .i64 (numL 8).zs).toArray) (.bool true) (fun w' s => Blk w' s 46 (ints .i64 (numL 7).zs)) (fun w' r => Blk w' r 46 (ints .i64 z5) ∧ r ≠ bM ∧ r ≠ bU ∧ q ≤ r) hQN X (fun _ _ h hb => h.next hb) (by kernel_rfl) (by kernel_rfl) (by kernel_rfl) (by kernel_rfl) (by kernel_rfl) (by kernel_rfl) (by kernel_rfl) (by kernel_rfl) (by decide) (by kernel_rfl) (by kernel_rfl) (fun r => by kernel_rfl) (by kernel_rfl) (by kernel_rfl) (fun r => by kernel_rfl) (fun s => by kernel_rfl) (fun s => by kernel_rfl) (fun s r => by kernel_rfl) (fun s => by kernel_rfl) (fun s r => by kernel_rfl) (fun s => by kernel_rfl) (fun s r => by kernel_rfl) (fun s => by kernel_rfl) (fun s r => by kernel_rfl) (fun s => by kernel_rfl) (fun w1 => by kernel_rfl) (fun w1 => exec_alloc 46 (by kernel_rfl) _ zeroLv) (fun r w1 => by kernel_rfl) (fun w1 => by kernel_rfl) (fun w1 => exec_alloc 46 (by kernel_rfl) _ zeroLv) (fun r w1 => by kernel_rfl) (fun s w1 => by kernel_rfl) (fun s w1 => exec_alloc 46 (by kernel_rfl) _ zeroLv) (fun s r w1 => by kernel_rfl) (fun s w1 => by kernel_rfl) (fun s r w1 => by kernel_rfl) (fun s w1 => by kernel_rfl) (fun s r w1 => by kernel_rfl) (fun s w1 => by kernel_rfl) (fun s r w1 => by kernel_rfl) (fun s w1 => exec_alloc 46 (by kernel_rfl) _ zeroLv) (fun w1 => Blk.new w1 _ _) (fun w1 w2 s h hb => h.below hb h.lt) (fun w1 h => ⟨Blk.new w1 _ _, fun e => by have := h.m.lt; omega, fun e => by have := h.u.lt; omega, h.s⟩) (fun w1 w2 r h hb => ⟨h.1.below hb h.1.lt, h.2⟩) (fun w1 h => (num_walk 7 w1).mono fun e w' ⟨he, hb⟩ => ⟨he, hb⟩) (fun w1 s h hb => (inst_walk lU rfl _ [numL 7] w1 (one_in rfl hb)).mono fun e w' ⟨he, hb⟩ => ⟨by rw [he, inst_alive], hb⟩) ?_
  intro w11 sx bX S11 hX
  obtain ⟨hXb, hXM, hXU, hXq⟩ := hX
  clear X
  have B12 : Blk (w11.setCells bX 0 (ints .i64 (numL 8).zs)) bX 46 (ints .i64 (numL 8).zs) := hXb.setWhole _ rfl
  have U12 : Upd bX w11 (w11.setCells bX 0 (ints .i64 (numL 8).zs)) := (Upd.refl bX w11).setCells _ 0
  have S12 : AlvS q w bM bU (w11.setCells bX 0 (ints .i64 (numL 8).zs)) := by
    have B : Below q w (w11.setCells bX 0 (ints .i64 (numL 8).zs)) := U12.below S11.b hXq S11.s
    exact ⟨U12.blk S11.m (fun e => hXM e.symm), U12.blk S11.u (fun e => hXU e.symm), HT.out.below (by rw [hq.out]; exact B), B, Nat.le_trans S11.s U12.size⟩
  refine reg_store 8 (w11.setCells bX 0 (ints .i64 (numL 8).zs)) (by kernel_rfl) (by kernel_rfl) (exec_store_mid 46 (.tmp 4) (.tmp 20) (by kernel_rfl) bX 0 (ints .i64 (numL 8).zs) (by kernel_rfl) (by kernel_rfl) (hXb.there 0 _ (Nat.le_refl _)) (lvSize (l := numL 8) rfl) (ints_oneCell _ _)) S12 ?_
  have HT12 : Hid (AlvT q w bM bU bX (w11.setCells bX 0 (ints .i64 (numL 8).zs))) := ⟨S12, B12⟩
  refine reg_now 9 (.bool true) (some 5) hQN S12 (by kernel_rfl) (by kernel_rfl) (fun w => by kernel_rfl) ?_
  generalize w11.setCells bX 0 (ints .i64 (numL 8).zs) = w12 at HT12 S12 ⊢
  refine reg_done (by kernel_rfl) (hN _ _ ?_)
  clear B12 U12 S12 S11 hXb hXM hXU hXq hQN hN
  generalize hact : Act.put _ (some 5) _ = act
  simp only [Act.put, List.setIfInBounds_toArray, List.set_cons_succ, List.set_cons_zero] at hact
  subst hact
  go_upto_region 4 with (fail)
  refine region_begin (opsOf Tryd.f16 4) (AlvT q w bM bU bX) (by kernel_rfl) (by kernel_rfl) 57 (by kernel_rfl) ?_
  intro Q' hQN hN
  have X : AlvT q w bM bU bX w12.drew := HT12.out.next (Below.refl _ _).drew
  generalize w12.drew = w13 at X ⊢
  clear HT12
  refine reg_now 0 (.bool true) (some 22) hQN X (by kernel_rfl) (by kernel_rfl) (fun w => by kernel_rfl) ?_
  refine reg_now 1 (.bool true) (some 23) hQN X (by kernel_rfl) (by kernel_rfl) (fun w => by kernel_rfl) ?_
  refine reg_now 2 (.bool true) (some 24) hQN X (by kernel_rfl) (by kernel_rfl) (fun w => by kernel_rfl) ?_
  refine reg_now 3 (.bool true) (some 25) hQN X (by kernel_rfl) (by kernel_rfl) (fun w => by kernel_rfl) ?_
  refine reg_now 4 (.bool true) (some 26) hQN X (by kernel_rfl) (by kernel_rfl) (fun w => by kernel_rfl) ?_
  refine reg_nowIf 5 (.agg (ints .i64 (lM).zs).toArray) (some 27) hQN X (by kernel_rfl) (by kernel_rfl) (fun w' hw => exec_load_mid 46 (.tmp 1) (by kernel_rfl) bM 0 (by kernel_rfl) (ints .i64 lM.zs) _ hw.s.m.whole Tryd.underlying46 rfl (lvSize (l := lM) rfl)) ?_
  refine reg_now 6 (.agg (ints .i64 [0, -1, -1, -1]).toArray) (some 28) hQN X (by kernel_rfl) (by kernel_rfl) (fun w => by kernel_rfl) ?_
  refine reg_now 7 (.agg (ints .i64 (lM).zs).toArray) (some 29) hQN X (by kernel_rfl) (by kernel_rfl) (fun w => by kernel_rfl) ?_
  refine reg_now 8 (.bool true) (some 30) hQN X (by kernel_rfl) (by kernel_rfl) (fun w' => exec_eqlv_yes (.tmp 27) (.tmp 29) 46 (by kernel_rfl) (l := lM) rfl (by kernel_rfl) (by kernel_rfl)) ?_
  refine reg_now 9 (.bool true) (some 31) hQN X (by kernel_rfl) (by kernel_rfl) (fun w => by kernel_rfl) ?_
  refine reg_now 10 (.bool true) (some 32) hQN X (by kernel_rfl) (by kernel_rfl) (fun w => by kernel_rfl) ?_
  refine reg_nowIf 11 (.agg (ints .i64 (lU).zs).toArray) (some 33) hQN X (by kernel_rfl) (by kernel_rfl) (fun w' hw => exec_load_mid 46 (.tmp 2) (by kernel_rfl) bU 0 (by kernel_rfl) (ints .i64 lU.zs) _ hw.s.u.whole Tryd.underlying46 rfl (lvSize (l := lU) rfl)) ?_
  refine reg_call 12 22 #[.agg (ints .i64 (lU).zs).toArray] (some 34) _ (by kernel_rfl) (by kernel_rfl) (by kernel_rfl) (string_walk lU rfl _ X.s.t) ?_
  rintro e wc1 ⟨rfl, hc1⟩
  rw [text_alive]
  have Y1 : AlvT q w bM bU bX wc1 := X.next hc1
  clear hc1
  refine ⟨_, rfl, Y1, ?_⟩
  refine reg_now 13 (.bool true) (some 35) hQN Y1 (by kernel_rfl) (by kernel_rfl) (fun w => by kernel_rfl) ?_
  refine reg_now 14 (.bool true) (some 36) hQN Y1 (by kernel_rfl) (by kernel_rfl) (fun w => by kernel_rfl) ?_
  refine reg_now 15 (.bool true) (some 37) hQN Y1 (by kernel_rfl) (by kernel_rfl) (fun w => by kernel_rfl) ?_
  refine reg_nowIf 16 (.agg (ints .i64 (lU).zs).toArray) (some 38) hQN Y1 (by kernel_rfl) (by kernel_rfl) (fun w' hw => exec_load_mid 46 (.tmp 2) (by kernel_rfl) bU 0 (by kernel_rfl) (ints .i64 lU.zs) _ hw.s.u.whole Tryd.underlying46 rfl (lvSize (l := lU) rfl)) ?_
  obtain ⟨gi, hgi⟩ : ∃ s, Hid (wc1.heap.size = s) := ⟨_, rfl⟩
  refine reg_row 17 3 (ints .i64 [5]) gi 1 (some 39) (by kernel_rfl) (by kernel_rfl) hgi (exec_of (Instr.buildSlice 47 1 #[(0, .int .i64 5)]) _ (by kernel_rfl) (run_build_int1 5 _)) ?_
  intro wi bi bei hsi
  have Y1i : AlvT q w bM bU bX wi := Y1.next (by rw [hgi.out]; exact bei)
  refine ⟨Y1i, ?_⟩
  refine reg_call 18 18 #[.agg (ints .i64 (lU).zs).toArray, .slice (some ⟨gi, 0, none⟩) 1 1] (some 40) _ (by kernel_rfl) (by kernel_rfl) (by kernel_rfl) (value_walk lU rfl _ [5] _ (nums_one bi) trivial (by decide)) ?_
  rintro e wc2 ⟨rfl, hc2⟩
  rw [show valueL lU [5] = 6 by decide]
  have Y2 : AlvT q w bM bU bX wc2 := Y1i.next hc2
  clear hc2
  refine ⟨_, rfl, Y2, ?_⟩
  refine reg_now 19 (.bool true) (some 41) hQN Y2 (by kernel_rfl) (by kernel_rfl) (fun w => by kernel_rfl) ?_
  refine reg_now 20 (.bool true) (some 42) hQN Y2 (by kernel_rfl) (by kernel_rfl) (fun w => by kernel_rfl) ?_
  refine reg_now 21 (.bool true) (some 43) hQN Y2 (by kernel_rfl) (by kernel_rfl) (fun w => by kernel_rfl) ?_
  refine reg_nowIf 22 (.agg (ints .i64 (numL 8).zs).toArray) (some 44) hQN Y2 (by kernel_rfl) (by kernel_rfl) (fun w' hw => exec_load_mid 46 (.tmp 4) (by kernel_rfl) bX 0 (by kernel_rfl) (ints .i64 (numL 8).zs) _ hw.x.whole Tryd.underlying46 rfl (lvSize (l := numL 8) rfl)) ?_
  refine reg_call 23 49 #[.int .i64 8] (some 45) _ (by kernel_rfl) (by kernel_rfl) (by kernel_rfl) (num_walk 8 _) ?_
  rintro e wc3 ⟨rfl, hc3⟩
  have Y3 : AlvT q w bM bU bX wc3 := Y2.next hc3
  clear hc3
  refine ⟨_, rfl, Y3, ?_⟩
  refine reg_now 24 (.bool true) (some 46) hQN Y3 (by kernel_rfl) (by kernel_rfl) (fun w' => exec_eqlv_yes (.tmp 44) (.tmp 45) 46 (by kernel_rfl) (l := numL 8) rfl (by kernel_rfl) (by kernel_rfl)) ?_
  refine reg_now 25 (.bool true) (some 47) hQN Y3 (by kernel_rfl) (by kernel_rfl) (fun w => by kernel_rfl) ?_
  refine reg_now 26 (.bool true) (some 48) hQN Y3 (by kernel_rfl) (by kernel_rfl) (fun w => by kernel_rfl) ?_
  refine reg_nowIf 27 (.agg (ints .i64 (lM).zs).toArray) (some 49) hQN Y3 (by kernel_rfl) (by kernel_rfl) (fun w' hw => exec_load_mid 46 (.tmp 1) (by kernel_rfl) bM 0 (by kernel_rfl) (ints .i64 lM.zs) _ hw.s.m.whole Tryd.underlying46 rfl (lvSize (l := lM) rfl)) ?_
  refine reg_nowIf 28 (.agg (ints .i64 (lU).zs).toArray) (some 50) hQN Y3 (by kernel_rfl) (by kernel_rfl) (fun w' hw => exec_load_mid 46 (.tmp 2) (by kernel_rfl) bU 0 (by kernel_rfl) (ints .i64 lU.zs) _ hw.s.u.whole Tryd.underlying46 rfl (lvSize (l := lU) rfl)) ?_
  refine reg_call 29 17 #[.agg (ints .i64 (lM).zs).toArray, .agg (ints .i64 (lU).zs).toArray] (some 51) _ (by kernel_rfl) (by kernel_rfl) (by kernel_rfl) (leq_walk lM lU rfl rfl _) ?_
  rintro e wc4 ⟨rfl, hc4⟩
  rw [show leqL lM lU = true by decide]
  have Y4 : AlvT q w bM bU bX wc4 := Y3.next hc4
  clear hc4
  refine ⟨_, rfl, Y4, ?_⟩
  refine reg_now 30 (.bool true) (some 52) hQN Y4 (by kernel_rfl) (by kernel_rfl) (fun w => by kernel_rfl) ?_
  refine reg_now 31 (.bool true) (some 53) hQN Y4 (by kernel_rfl) (by kernel_rfl) (fun w => by kernel_rfl) ?_
  refine reg_nowIf 32 (.agg (ints .i64 (lU).zs).toArray) (some 54) hQN Y4 (by kernel_rfl) (by kernel_rfl) (fun w' hw => exec_load_mid 46 (.tmp 2) (by kernel_rfl) bU 0 (by kernel_rfl) (ints .i64 lU.zs) _ hw.s.u.whole Tryd.underlying46 rfl (lvSize (l := lU) rfl)) ?_
  refine reg_nowIf 33 (.agg (ints .i64 (lM).zs).toArray) (some 55) hQN Y4 (by kernel_rfl) (by kernel_rfl) (fun w' hw => exec_load_mid 46 (.tmp 1) (by kernel_rfl) bM 0 (by kernel_rfl) (ints .i64 lM.zs) _ hw.s.m.whole Tryd.underlying46 rfl (lvSize (l := lM) rfl)) ?_
  refine reg_call 34 17 #[.agg (ints .i64 (lU).zs).toArray, .agg (ints .i64 (lM).zs).toArray] (some 56) _ (by kernel_rfl) (by kernel_rfl) (by kernel_rfl) (leq_walk lU lM rfl rfl _) ?_
  rintro e wc5 ⟨rfl, hc5⟩
  rw [show leqL lU lM = false by decide]
  have Y5 : AlvT q w bM bU bX wc5 := Y4.next hc5
  clear hc5
  refine ⟨_, rfl, Y5, ?_⟩
  refine reg_now 35 (.bool true) (some 57) hQN Y5 (by kernel_rfl) (by kernel_rfl) (fun w => by kernel_rfl) ?_
  refine reg_now 36 (.bool true) (some 58) hQN Y5 (by kernel_rfl) (by kernel_rfl) (fun w => by kernel_rfl) ?_
  refine reg_now 37 (.bool true) (some 59) hQN Y5 (by kernel_rfl) (by kernel_rfl) (fun w => by kernel_rfl) ?_
  refine reg_nowIf 38 (.agg (ints .i64 (lU).zs).toArray) (some 60) hQN Y5 (by kernel_rfl) (by kernel_rfl) (fun w' hw => exec_load_mid 46 (.tmp 2) (by kernel_rfl) bU 0 (by kernel_rfl) (ints .i64 lU.zs) _ hw.s.u.whole Tryd.underlying46 rfl (lvSize (l := lU) rfl)) ?_
  refine reg_call 39 19 #[.agg (ints .i64 (lU).zs).toArray] (some 61) _ (by kernel_rfl) (by kernel_rfl) (by kernel_rfl) (right_walk lU rfl _) ?_
  rintro e wc6 ⟨rfl, hc6⟩
  rw [show rightL lU = true by decide]
  have Y6 : AlvT q w bM bU bX wc6 := Y5.next hc6
  clear hc6
  refine ⟨_, rfl, Y6, ?_⟩
  refine reg_now 40 (.bool true) (some 62) hQN Y6 (by kernel_rfl) (by kernel_rfl) (fun w => by kernel_rfl) ?_
  refine reg_now 41 (.bool true) (some 63) hQN Y6 (by kernel_rfl) (by kernel_rfl) (fun w => by kernel_rfl) ?_
  refine reg_call 42 49 #[.int .i64 (-1)] (some 64) _ (by kernel_rfl) (by kernel_rfl) (by kernel_rfl) (num_walk (-1) _) ?_
  rintro e wc7 ⟨rfl, hc7⟩
  have Y7 : AlvT q w bM bU bX wc7 := Y6.next hc7
  clear hc7
  refine ⟨_, rfl, Y7, ?_⟩
  refine reg_call 43 19 #[.agg (ints .i64 (numL (-1)).zs).toArray] (some 65) _ (by kernel_rfl) (by kernel_rfl) (by kernel_rfl) (right_walk (numL (-1)) rfl _) ?_
  rintro e wc8 ⟨rfl, hc8⟩
  rw [show rightL (numL (-1)) = false by decide]
  have Y8 : AlvT q w bM bU bX wc8 := Y7.next hc8
  clear hc8
  refine ⟨_, rfl, Y8, ?_⟩
  refine reg_now 44 (.bool true) (some 66) hQN Y8 (by kernel_rfl) (by kernel_rfl) (fun w => by kernel_rfl) ?_
  refine reg_now 45 (.bool true) (some 67) hQN Y8 (by kernel_rfl) (by kernel_rfl) (fun w => by kernel_rfl) ?_
  refine reg_now 46 (.bool true) (some 68) hQN Y8 (by kernel_rfl) (by kernel_rfl) (fun w => by kernel_rfl) ?_
  refine reg_nowIf 47 (.agg (ints .i64 (lU).zs).toArray) (some 69) hQN Y8 (by kernel_rfl) (by kernel_rfl) (fun w' hw => exec_load_mid 46 (.tmp 2) (by kernel_rfl) bU 0 (by kernel_rfl) (ints .i64 lU.zs) _ hw.s.u.whole Tryd.underlying46 rfl (lvSize (l := lU) rfl)) ?_
  refine reg_call 48 52 #[.agg (ints .i64 (lU).zs).toArray] (some 70) _ (by kernel_rfl) (by kernel_rfl) (by kernel_rfl) (width_walk lU rfl _) ?_
  rintro e wc9 ⟨rfl, hc9⟩
  rw [show widthL lU = 1 by decide]
  have Y9 : AlvT q w bM bU bX wc9 := Y8.next hc9
  clear hc9
  refine ⟨_, rfl, Y9, ?_⟩
  refine reg_now 49 (.bool true) (some 71) hQN Y9 (by kernel_rfl) (by kernel_rfl) (fun w => by kernel_rfl) ?_
  refine reg_now 50 (.bool true) (some 72) hQN Y9 (by kernel_rfl) (by kernel_rfl) (fun w => by kernel_rfl) ?_
  refine reg_now 51 (.bool true) (some 73) hQN Y9 (by kernel_rfl) (by kernel_rfl) (fun w => by kernel_rfl) ?_
  refine reg_call 52 20 #[.slice none 0 0] (some 74) _ (by kernel_rfl) (by kernel_rfl) (by kernel_rfl) (max_walk _ [] _ (none_in _)) ?_
  rintro e wc10 ⟨rfl, hc10⟩
  rw [show maxL [] = numL 0 by decide]
  have Y10 : AlvT q w bM bU bX wc10 := Y9.next hc10
  clear hc10
  refine ⟨_, rfl, Y10, ?_⟩
  refine reg_call 53 49 #[.int .i64 0] (some 75) _ (by kernel_rfl) (by kernel_rfl) (by kernel_rfl) (num_walk 0 _) ?_
  rintro e wc11 ⟨rfl, hc11⟩
  have Y11 : AlvT q w bM bU bX wc11 := Y10.next hc11
  clear hc11
  refine ⟨_, rfl, Y11, ?_⟩
  refine reg_now 54 (.bool true) (some 76) hQN Y11 (by kernel_rfl) (by kernel_rfl) (fun w' => exec_eqlv_yes (.tmp 74) (.tmp 75) 46 (by kernel_rfl) (l := numL 0) rfl (by kernel_rfl) (by kernel_rfl)) ?_
  refine reg_now 55 (.bool true) (some 77) hQN Y11 (by kernel_rfl) (by kernel_rfl) (fun w => by kernel_rfl) ?_
  refine reg_now 56 (.bool true) (some 0) hQN Y11 (by kernel_rfl) (by kernel_rfl) (fun w => by kernel_rfl) ?_
  refine reg_done (by kernel_rfl) (hN _ _ ?_)
  have BF := Lib.hid Y11.s.b
  generalize hact : Act.put _ (some 0) _ = act
  have h0 : act.tmps.getD 0 undef = .bool true := by rw [← hact]; kernel_rfl
  have hd : act.defers = [] := by rw [← hact]; kernel_rfl
  clear hact
  go_wp2
  exact bodyPost_ret (results_tmp Tryd.results16 _ _ _) hd ⟨by rw [h0], BF.out⟩
end Go.Proofs.YtngpmilojfbpmaaDoor
