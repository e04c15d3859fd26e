/- The reference's disk: Write. -/
import Derived.Test.YtpbilngjjlabiaaDskRd
namespace Go.Proofs.Ytpbilngjjlabiaa
open Go Go.RowKit
set_option maxRecDepth 100000

theorem rwrite_range (r sz : Nat) (F : List Nat) (last : List Int) (pend : List Wr) (left n : Int) (b : List Int) (w : World) (h : Rk w F r sz last pend left) (hn : n < 0 ∨ (sz : Int) ≤ n) :
    Calls Try.prog 9 #[.pointer (some ⟨r, 0, none⟩), .int .i64 n, .agg (ints .u8 b).toArray] w (RkPost F r sz last pend left (.int .i64 11) w) := by
  have BE : Hid (Below w.heap.size w (w.alloc (.cells (ints .u8 b).toArray 33))) := (Below.refl _ _).alloc (Nat.le_refl _) _
  have HD := Lib.hid (h.below BE.out)
  clear h
  go_enter Try.func9, Try.ntmps9
  go_wp2_with fail
  obtain ⟨lB, lc, rl, pv, -, hx⟩ := id HD.out
  refine (there_no r sz lc n _ _ hx.c0 hn hx.big).mono ?_
  rintro e w1 ⟨rfl, rfl⟩
  clear hx
  go_wp2
  go_ret
  exact ⟨rfl, F, HD.out, Step.of_below BE.out (Nat.le_refl _)⟩
theorem rwrite_full (r sz n : Nat) (F : List Nat) (last : List Int) (pend : List Wr) (b : List Int) (w : World) (h : Rk w F r sz last pend 0) (hn : n < sz) :
    Calls Try.prog 9 #[.pointer (some ⟨r, 0, none⟩), .int .i64 (n : Int), .agg (ints .u8 b).toArray] w (RkPost F r sz last pend 0 (.int .i64 15) w) := by
  have BE : Hid (Below w.heap.size w (w.alloc (.cells (ints .u8 b).toArray 33))) := (Below.refl _ _).alloc (Nat.le_refl _) _
  have HD := Lib.hid (h.below BE.out)
  clear h
  go_enter Try.func9, Try.ntmps9
  go_wp2_with fail
  obtain ⟨lB, lc, rl, pv, -, hx⟩ := id HD.out
  refine (there_yes r sz n lc _ _ hx.c0 hn hx.big).mono ?_
  rintro e w1 ⟨rfl, rfl⟩
  have c2 := hx.c2
  clear hx
  go_wp2
  go_ret
  exact ⟨rfl, F, HD.out, Step.of_below BE.out (Nat.le_refl _)⟩
theorem Rkx.wrote {w w2 : World} {r sz lB lc n : Nat} {rl : List Value} {pv pv' : Value} {last b : List Int} {pend : List Wr} {left : Int} (h : Rkx w r sz lB lc rl pv last pend left) (hn : n < sz) (hb : b.length = 64)
    (o : Obj) (h2 : (w.alloc o).grownBy w2 pv.ownBlock) (h2p : w2.ownsRow 0 60 65 pv' (pend.length + 1) (pcells pend ++ wcells (n, b))) (hp' : pv'.ownBlock = pv.ownBlock ∨ ∃ g, pv'.ownBlock = some g ∧ w.heap.size < g) :
    Rkx (w2.setCell ⟨r, 1, none⟩ pv') r sz lB lc rl pv' last (pend ++ [(n, b)]) left ∧ Step (rfoot r lB pv) w (rfoot r lB pv') (w2.setCell ⟨r, 1, none⟩ pv') := by
  have keep : ∀ {k : Nat} {t : TypeId} {cs : List Value}, Blk w k t cs → (∀ g, pv.ownBlock = some g → g ≠ k) → Blk w2 k t cs := fun {k t cs} hk hne => by
    unfold Blk
    rw [h2.block k (by simp; have := hk.lt; omega) (fun e => hne k e.symm rfl)]
    exact hk.alloc o
  have hd2 := keep h.hd (fun g hg => (h.n4 g hg).1)
  have hl2 := keep h.hl (fun g hg => (h.n4 g hg).2)
  have n4' : ∀ g, pv'.ownBlock = some g → g ≠ r ∧ g ≠ lB := fun g hg => by
    rcases hp' with e | ⟨g', e, hlt⟩
    · exact h.n4 g (e ▸ hg)
    · rw [e] at hg
      obtain rfl := Option.some.inj hg
      have := h.hd.lt
      have := h.hl.lt
      exact ⟨by omega, by omega⟩
  refine ⟨⟨hd2.set 1 _, hl2.other (Ne.symm h.n1) _, ?_, h.n1, n4', h.ls, h.lc, fun x hx => ?_, h.one, h.big⟩, ⟨h2.os, h2.tape, h2.output, ?_, fun k hk hF => ?_, fun k hk => ?_⟩⟩
  · rw [pcells_snoc, List.length_append]
    exact own_upd h2p ((Upd.refl r w2).setCell 1 _) (fun g hg => (n4' g hg).1)
  · rcases List.mem_append.1 hx with h3 | h3
    · exact h.ok x h3
    · obtain rfl : x = (n, b) := by simpa using h3
      exact ⟨hn, hb⟩
  · have := h2.size
    simp [World.setCell] at this ⊢
    omega
  · simp only [rfoot, List.mem_cons, Option.mem_toList, not_or] at hF
    rw [heap_setCell_other w2 ⟨r, 1, none⟩ k _ hF.1, h2.block k (by simp; omega) (fun e => hF.2.2 e.symm), Below.heap_alloc w o k (by omega)]
  · simp only [rfoot, List.mem_cons, Option.mem_toList] at hk ⊢
    rcases hk with rfl | rfl | hk
    · exact .inl (.inl rfl)
    · exact .inl (.inr (.inl rfl))
    · rcases hp' with e | ⟨g', e, hlt⟩
      · exact .inl (.inr (.inr (e ▸ hk)))
      · rw [e] at hk
        obtain rfl := Option.some.inj hk
        exact .inr (by omega)
set_option maxHeartbeats 2000000 in
theorem rwrite_ok (r sz n : Nat) (F : List Nat) (last : List Int) (pend : List Wr) (left : Int) (b : List Int) (w : World) (h : Rk w F r sz last pend left) (hn : n < sz) (hb : b.length = 64) (hl0 : left ≠ 0) (hl1 : left ≤ 9223372036854775807) (hm : pend.length ≤ 1000000) :
    Calls Try.prog 9 #[.pointer (some ⟨r, 0, none⟩), .int .i64 (n : Int), .agg (ints .u8 b).toArray] w (RkPost F r sz last (pend ++ [(n, b)]) (if 0 < left then left - 1 else left) (.int .i64 0) w) := by
  obtain ⟨lB, lc, rl, pv, rfl, hx⟩ := h
  obtain ⟨i0, hi, hz0, hz1, hz2⟩ := info_parts infoRwr3
  have HI := Lib.hid hi
  have HZ0 := Lib.hid hz0
  have HZ1 := Lib.hid hz1
  have HZ2 := Lib.hid hz2
  clear hi hz0 hz1 hz2
  have BE : Hid (Below w.heap.size w (w.alloc (.cells (ints .u8 b).toArray 33))) := (Below.refl _ _).alloc (Nat.le_refl _) _
  have HX := Lib.hid (hx.alloc (.cells (ints .u8 b).toArray 33))
  have HQ : Hid (Blk (w.alloc (.cells (ints .u8 b).toArray 33)) w.heap.size 33 (ints .u8 b)) := Blk.new _ _ _
  have hdq : r < w.heap.size := hx.hd.lt
  have HB := Lib.hid hb
  have HPQ : Hid (∀ g, pv.ownBlock = some g → g < w.heap.size) := fun g hg => (hx.hp.lt g hg).2
  clear hx hb
  obtain ⟨q, hq⟩ : ∃ q, Hid (q = w.heap.size) := ⟨_, rfl⟩
  rw [← hq.out] at HQ hdq HPQ
  have IB : Hid ((Try.prog.info? 33).map (·.size) = some (ints .u8 b).length) := infoBlk b HB.out
  have STQ : Hid (Step (rfoot r lB pv) w (rfoot r lB pv) (w.alloc (.cells (ints .u8 b).toArray 33))) := Step.of_below BE.out (Nat.le_refl _)
  have l0 : (left == 0) = false := by simpa using hl0
  obtain ⟨lf, hlf⟩ : ∃ l, Hid ((if 0 < left then left - 1 else left) = l) := ⟨_, rfl⟩
  rw [hlf.out]
  go_enter Try.func9, Try.ntmps9
  go_wp2_with fail
  rw [← hq.out]
  generalize w.alloc (.cells (ints .u8 b).toArray 33) = W0 at *
  refine (there_yes r sz n lc _ _ HX.out.c0 hn HX.out.big).mono ?_
  rintro e w1 ⟨rfl, rfl⟩
  have c2 := HX.out.c2
  have f2 := HX.out.hd.free 2
  have KEY : ∃ W1, Hid (W1 = (if 0 < left then W0.setCell ⟨r, 2, none⟩ (.int .i64 (left - 1)) else W0)) ∧ Hid (Rkx W1 r sz lB lc rl pv last pend lf) ∧ Hid (Blk W1 q 33 (ints .u8 b)) ∧ Hid (Step (rfoot r lB pv) w (rfoot r lB pv) W1) := by
    refine ⟨_, rfl, ?_⟩
    have hl := hlf.out
    by_cases h : 0 < left
    · rw [if_pos h] at hl ⊢
      rw [← hl]
      exact ⟨HX.out.limit _, HQ.out.other (by simp; omega) _, STQ.out.trans (Step.of_upd ((Upd.refl r W0).setCell 2 _) (by simp [rfoot]))⟩
    · rw [if_neg h] at hl ⊢
      rw [← hl]
      exact ⟨HX.out, HQ.out, STQ.out⟩
  obtain ⟨W1, HW1, HX1, HQ1, ST1⟩ := KEY
  have hsz1 : q < W1.heap.size := HQ1.out.lt
  clear HX HQ STQ BE
  rcases Int.lt_or_gt_of_ne hl0 with hneg | hpos
  · have l1 : ¬ (0 < left) := by omega
    go_upto_region 7 with (fail)
    have hW := HW1.out
    rw [if_neg (by omega)] at hW
    rw [← hW]
    clear hW
    refine region_begin (opsOf Try.f9 7) (fun w' => Blk w' q 33 (ints .u8 b)) (by kernel_rfl) (by kernel_rfl) 13 (by kernel_rfl) ?_
    intro Q' hQN hN
    have hS : Blk W1.drew q 33 (ints .u8 b) := HQ1.out
    have hd3 : Blk W1.drew r 47 (rcells (64 * sz) lB lc pv lf) := HX1.out.hd
    refine reg_now 0 (.pointer (some ⟨r, 0, none⟩)) (some 28) hQN hS (by kernel_rfl) (by kernel_rfl) (fun w => by kernel_rfl) ?_
    refine reg_now 1 (.pointer (some ⟨r, 0, none⟩)) (some 29) hQN hS (by kernel_rfl) (by kernel_rfl) (fun w => by kernel_rfl) ?_
    refine reg_now 2 (.pointer (some ⟨r, 0, none⟩)) (some 30) hQN hS (by kernel_rfl) (by kernel_rfl) (fun w => by kernel_rfl) ?_
    refine reg_now 3 (.pointer (some ⟨r, 1, none⟩)) (some 31) hQN hS (by kernel_rfl) (by kernel_rfl) (fun w => by kernel_rfl) ?_
    refine reg_now 5 (.int .i64 (n : Int)) (some 33) hQN hS (by kernel_rfl) (by kernel_rfl) (fun w => by kernel_rfl) ?_
    refine reg_nowIf 6 (.agg (ints .u8 b).toArray) (some 34) hQN hS (by kernel_rfl) (by kernel_rfl) (fun w' hw => exec_load_mid 33 (.tmp 5) (by kernel_rfl) q 0 (by kernel_rfl) (ints .u8 b) _ hw.whole Try.underlying33 rfl IB.out) ?_
    refine reg_now 7 (.agg (wcells (n, b)).toArray) (some 35) hQN hS (by kernel_rfl) (by kernel_rfl) (fun w' => exec_of (Instr.build 60 #[(0, .int .i64 (n : Int)), (1, .agg (ints .u8 b).toArray)]) _ (by kernel_rfl) (run_build_rwr (n, b) HB.out w')) ?_
    have hSa : Blk (W1.drew.alloc (.cells (wcells (n, b)).toArray 60)) q 33 (ints .u8 b) := hS.alloc _
    refine reg_swap 4 8 pv (.slice (some ⟨W1.drew.heap.size, 0, none⟩) 1 1) (some 32) (some 36) hS hSa (by kernel_rfl) (by decide) (by kernel_rfl) (by kernel_rfl)
      (exec_load_cell 45 (.tmp 31) (by kernel_rfl) r 1 (by kernel_rfl) _ (hd3.cell rfl) _ Try.underlying45 rfl)
      (exec_of (Instr.buildSlice 45 1 #[(0, .agg (wcells (n, b)).toArray)]) _ (by kernel_rfl) (run_buildSlice_rwr (n, b) HB.out _))
      (exec_of (Instr.buildSlice 45 1 #[(0, .agg (wcells (n, b)).toArray)]) _ (by kernel_rfl) (run_buildSlice_rwr (n, b) HB.out _))
      (exec_load_cell 45 (.tmp 31) (by kernel_rfl) r 1 (by kernel_rfl) _ ((hd3.alloc _).cell rfl) _ Try.underlying45 rfl) (fun _ h => by cases h; decide) ?_
    have HP3 : Hid (W1.drew.ownsRow 0 60 65 pv pend.length (pcells pend)) := own_upd (w' := W1.drew) HX1.out.hp ((Upd.refl q W1).drew) (fun g hg e => by have := HPQ.out g hg; omega)
    obtain ⟨g, cap, W5, hr5, ho5, hg5, hat5, hlt5⟩ := run_append_lies (P := Try.prog) (W1.drew.alloc (.cells (wcells (n, b)).toArray 60)) 45 45 0 60 i0 _ 65 72 Try.underlying45 HI.out HZ0.out HZ1.out HZ2.out rfl (by decide) pv pend.length (pcells pend) (HP3.out.alloc _)
      ⟨W1.drew.heap.size, 0, none⟩ 1 1 (wcells (n, b)) (by rw [wcells_length HB.out]) (fun j u hu => by rw [Addr.add_mid, Nat.zero_add]; exact (Blk.new W1.drew 60 (wcells (n, b))).cell hu) (wcells_one _) (by decide) (by unfold maxLen; omega) (by omega) (by omega) _ rfl
    have hS5 : Blk W5 q 33 (ints .u8 b) := by
      unfold Blk
      rw [hg5.block q (by have := hSa.lt; omega) (fun e => by have := HPQ.out q e.symm; omega)]
      exact hSa
    have hd5 : Blk W5 r 47 (rcells (64 * sz) lB lc pv lf) := by
      unfold Blk
      rw [hg5.block r (by have := (hd3.alloc (.cells (wcells (n, b)).toArray 60)).lt; omega) (fun e => (HX1.out.n4 r e.symm).1 rfl)]
      exact hd3.alloc _
    refine reg_value 9 (.slice (some ⟨g, 0, none⟩) (pend.length + 1) cap) (some 37) W5 (by kernel_rfl) (by kernel_rfl) (exec_of (Builtin.append_ #[45, 45] 45 #[pv, .slice (some ⟨W1.drew.heap.size, 0, none⟩) 1 1]) _ (by kernel_rfl) hr5) hS5 ?_
    refine reg_now 10 (.pointer (some ⟨r, 0, none⟩)) (some 38) hQN hS5 (by kernel_rfl) (by kernel_rfl) (fun w => by kernel_rfl) ?_
    refine reg_now 11 (.pointer (some ⟨r, 1, none⟩)) (some 39) hQN hS5 (by kernel_rfl) (by kernel_rfl) (fun w => by kernel_rfl) ?_
    refine reg_store 12 (W5.setCell ⟨r, 1, none⟩ (.slice (some ⟨g, 0, none⟩) (pend.length + 1) cap)) (by kernel_rfl) (by kernel_rfl) (exec_store_cell 45 (.tmp 39) (.tmp 37) (by kernel_rfl) r 1 _ (by kernel_rfl) (by kernel_rfl) _ _ hd5 (by simp [rcells]) sizeRwrs rfl rfl) (hS5.other (by simp; omega) _) ?_
    refine reg_done (by kernel_rfl) (hN _ _ ?_)
    have HXd : Rkx W1.drew r sz lB lc rl pv last pend lf := ⟨HX1.out.hd, HX1.out.hl, HP3.out, HX1.out.n1, HX1.out.n4, HX1.out.ls, HX1.out.lc, HX1.out.ok, HX1.out.one, HX1.out.big⟩
    have FIN := Lib.hid (HXd.wrote hn HB.out (.cells (wcells (n, b)).toArray 60) hg5 ho5 (by
        rcases hat5 with h | h
        · exact .inl h.symm
        · exact .inr ⟨g, rfl, by rw [h]; simp⟩))
    have STD : Hid (Step (rfoot r lB pv) w (rfoot r lB pv) W1.drew) := ST1.out.trans (Step.of_upd ((Upd.refl r W1).drew) (by simp [rfoot]))
    have ST6 := Lib.hid (STD.out.trans FIN.out.2)
    have FI1 := Lib.hid FIN.out.1
    clear hQN hN hS hSa hS5 hd5 hd3 hr5 ho5 hg5 hat5 hlt5 HP3 HXd FIN STD
    generalize W5.setCell ⟨r, 1, none⟩ (.slice (some ⟨g, 0, none⟩) (pend.length + 1) cap) = W6 at *
    generalize hact : Act.put _ none undef = act
    simp only [Act.put, List.setIfInBounds_toArray, List.set_cons_succ, List.set_cons_zero] at hact
    subst hact
    go_wp2
    go_ret
    exact ⟨rfl, _, ⟨lB, lc, rl, _, rfl, FI1.out⟩, ST6.out⟩
  · have l1 : 0 < left := hpos
    go_upto_region 7 with (fail)
    have hW := HW1.out
    rw [if_pos l1] at hW
    rw [← hW]
    clear hW
    refine region_begin (opsOf Try.f9 7) (fun w' => Blk w' q 33 (ints .u8 b)) (by kernel_rfl) (by kernel_rfl) 13 (by kernel_rfl) ?_
    intro Q' hQN hN
    have hS : Blk W1.drew q 33 (ints .u8 b) := HQ1.out
    have hd3 : Blk W1.drew r 47 (rcells (64 * sz) lB lc pv lf) := HX1.out.hd
    refine reg_now 0 (.pointer (some ⟨r, 0, none⟩)) (some 28) hQN hS (by kernel_rfl) (by kernel_rfl) (fun w => by kernel_rfl) ?_
    refine reg_now 1 (.pointer (some ⟨r, 0, none⟩)) (some 29) hQN hS (by kernel_rfl) (by kernel_rfl) (fun w => by kernel_rfl) ?_
    refine reg_now 2 (.pointer (some ⟨r, 0, none⟩)) (some 30) hQN hS (by kernel_rfl) (by kernel_rfl) (fun w => by kernel_rfl) ?_
    refine reg_now 3 (.pointer (some ⟨r, 1, none⟩)) (some 31) hQN hS (by kernel_rfl) (by kernel_rfl) (fun w => by kernel_rfl) ?_
    refine reg_now 5 (.int .i64 (n : Int)) (some 33) hQN hS (by kernel_rfl) (by kernel_rfl) (fun w => by kernel_rfl) ?_
    refine reg_nowIf 6 (.agg (ints .u8 b).toArray) (some 34) hQN hS (by kernel_rfl) (by kernel_rfl) (fun w' hw => exec_load_mid 33 (.tmp 5) (by kernel_rfl) q 0 (by kernel_rfl) (ints .u8 b) _ hw.whole Try.underlying33 rfl IB.out) ?_
    refine reg_now 7 (.agg (wcells (n, b)).toArray) (some 35) hQN hS (by kernel_rfl) (by kernel_rfl) (fun w' => exec_of (Instr.build 60 #[(0, .int .i64 (n : Int)), (1, .agg (ints .u8 b).toArray)]) _ (by kernel_rfl) (run_build_rwr (n, b) HB.out w')) ?_
    have hSa : Blk (W1.drew.alloc (.cells (wcells (n, b)).toArray 60)) q 33 (ints .u8 b) := hS.alloc _
    refine reg_swap 4 8 pv (.slice (some ⟨W1.drew.heap.size, 0, none⟩) 1 1) (some 32) (some 36) hS hSa (by kernel_rfl) (by decide) (by kernel_rfl) (by kernel_rfl)
      (exec_load_cell 45 (.tmp 31) (by kernel_rfl) r 1 (by kernel_rfl) _ (hd3.cell rfl) _ Try.underlying45 rfl)
      (exec_of (Instr.buildSlice 45 1 #[(0, .agg (wcells (n, b)).toArray)]) _ (by kernel_rfl) (run_buildSlice_rwr (n, b) HB.out _))
      (exec_of (Instr.buildSlice 45 1 #[(0, .agg (wcells (n, b)).toArray)]) _ (by kernel_rfl) (run_buildSlice_rwr (n, b) HB.out _))
      (exec_load_cell 45 (.tmp 31) (by kernel_rfl) r 1 (by kernel_rfl) _ ((hd3.alloc _).cell rfl) _ Try.underlying45 rfl) (fun _ h => by cases h; decide) ?_
    have HP3 : Hid (W1.drew.ownsRow 0 60 65 pv pend.length (pcells pend)) := own_upd (w' := W1.drew) HX1.out.hp ((Upd.refl q W1).drew) (fun g hg e => by have := HPQ.out g hg; omega)
    obtain ⟨g, cap, W5, hr5, ho5, hg5, hat5, hlt5⟩ := run_append_lies (P := Try.prog) (W1.drew.alloc (.cells (wcells (n, b)).toArray 60)) 45 45 0 60 i0 _ 65 72 Try.underlying45 HI.out HZ0.out HZ1.out HZ2.out rfl (by decide) pv pend.length (pcells pend) (HP3.out.alloc _)
      ⟨W1.drew.heap.size, 0, none⟩ 1 1 (wcells (n, b)) (by rw [wcells_length HB.out]) (fun j u hu => by rw [Addr.add_mid, Nat.zero_add]; exact (Blk.new W1.drew 60 (wcells (n, b))).cell hu) (wcells_one _) (by decide) (by unfold maxLen; omega) (by omega) (by omega) _ rfl
    have hS5 : Blk W5 q 33 (ints .u8 b) := by
      unfold Blk
      rw [hg5.block q (by have := hSa.lt; omega) (fun e => by have := HPQ.out q e.symm; omega)]
      exact hSa
    have hd5 : Blk W5 r 47 (rcells (64 * sz) lB lc pv lf) := by
      unfold Blk
      rw [hg5.block r (by have := (hd3.alloc (.cells (wcells (n, b)).toArray 60)).lt; omega) (fun e => (HX1.out.n4 r e.symm).1 rfl)]
      exact hd3.alloc _
    refine reg_value 9 (.slice (some ⟨g, 0, none⟩) (pend.length + 1) cap) (some 37) W5 (by kernel_rfl) (by kernel_rfl) (exec_of (Builtin.append_ #[45, 45] 45 #[pv, .slice (some ⟨W1.drew.heap.size, 0, none⟩) 1 1]) _ (by kernel_rfl) hr5) hS5 ?_
    refine reg_now 10 (.pointer (some ⟨r, 0, none⟩)) (some 38) hQN hS5 (by kernel_rfl) (by kernel_rfl) (fun w => by kernel_rfl) ?_
    refine reg_now 11 (.pointer (some ⟨r, 1, none⟩)) (some 39) hQN hS5 (by kernel_rfl) (by kernel_rfl) (fun w => by kernel_rfl) ?_
    refine reg_store 12 (W5.setCell ⟨r, 1, none⟩ (.slice (some ⟨g, 0, none⟩) (pend.length + 1) cap)) (by kernel_rfl) (by kernel_rfl) (exec_store_cell 45 (.tmp 39) (.tmp 37) (by kernel_rfl) r 1 _ (by kernel_rfl) (by kernel_rfl) _ _ hd5 (by simp [rcells]) sizeRwrs rfl rfl) (hS5.other (by simp; omega) _) ?_
    refine reg_done (by kernel_rfl) (hN _ _ ?_)
    have HXd : Rkx W1.drew r sz lB lc rl pv last pend lf := ⟨HX1.out.hd, HX1.out.hl, HP3.out, HX1.out.n1, HX1.out.n4, HX1.out.ls, HX1.out.lc, HX1.out.ok, HX1.out.one, HX1.out.big⟩
    have FIN := Lib.hid (HXd.wrote hn HB.out (.cells (wcells (n, b)).toArray 60) hg5 ho5 (by
        rcases hat5 with h | h
        · exact .inl h.symm
        · exact .inr ⟨g, rfl, by rw [h]; simp⟩))
    have STD : Hid (Step (rfoot r lB pv) w (rfoot r lB pv) W1.drew) := ST1.out.trans (Step.of_upd ((Upd.refl r W1).drew) (by simp [rfoot]))
    have ST6 := Lib.hid (STD.out.trans FIN.out.2)
    have FI1 := Lib.hid FIN.out.1
    clear hQN hN hS hSa hS5 hd5 hd3 hr5 ho5 hg5 hat5 hlt5 HP3 HXd FIN STD
    generalize W5.setCell ⟨r, 1, none⟩ (.slice (some ⟨g, 0, none⟩) (pend.length + 1) cap) = W6 at *
    generalize hact : Act.put _ none undef = act
    simp only [Act.put, List.setIfInBounds_toArray, List.set_cons_succ, List.set_cons_zero] at hact
    subst hact
    go_wp2
    go_ret
    exact ⟨rfl, _, ⟨lB, lc, rl, _, rfl, FI1.out⟩, ST6.out⟩
end Go.Proofs.Ytpbilngjjlabiaa
