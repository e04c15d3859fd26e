/- package disk: Write. -/
import Derived.Test.YtngpmilojfbpmaaDoorDskW
import Derived.Deep.Cut
import Derived.Deep.AppendLies
namespace Go.Proofs.YtngpmilojfbpmaaDoor
open Go Go.RowKit
set_option maxRecDepth 100000

/-- A value that leaves the world alone, and one that makes memory: whichever comes up first. -/
theorem reg_swap {P : Program} {ops : Array Oper} {Q : Exit → Act → World → Prop} {S : World → Prop} {fuel : Nat} {listed : Array Bool} {a : Act} {w w' : World} (i j : Nat) (vi vj : Value) (di dj : Option Tmp) (hS : S w) (hS' : S w')
    (hi : (ops[i]?.isSome && ops[j]?.isSome && (Region.ready .any ops listed == [i, j]) && (Region.ready .any ops (listed.setIfInBounds i true) == [j]) && (Region.ready .any ops (listed.setIfInBounds j true) == [i]) && (opAt ops i).guard.isNone && (opAt ops j).guard.isNone) = true) (hij : i ≠ j)
    (hdi : (opAt ops i).dst = di) (hdj : (opAt ops j).dst = dj)
    (h1 : (execOp a.eval (opAt ops i)).run P w = .ok (.value vi) w) (h2 : (execOp (a.put di vi).eval (opAt ops j)).run P w = .ok (.value vj) w')
    (h3 : (execOp a.eval (opAt ops j)).run P w = .ok (.value vj) w') (h4 : (execOp (a.put dj vj).eval (opAt ops i)).run P w' = .ok (.value vi) w') (hne : ∀ d, dj = some d → di ≠ some d)
    (h : wpAnyH P .any ops Q S fuel ((listed.setIfInBounds i true).setIfInBounds j true) ((a.put di vi).put dj vj) w') : wpAnyH P .any ops Q S (fuel + 2) listed a w := by
  simp only [Bool.and_eq_true, beq_iff_eq] at hi
  obtain ⟨⟨⟨⟨⟨⟨g1, g2⟩, g3⟩, g4⟩, g5⟩, g6⟩, g7⟩ := hi
  have wi : ∀ y, Region.wanted (opAt ops i) y = true := fun y => by simp [Region.wanted, Option.isNone_iff_eq_none.1 g6]
  have wj : ∀ y, Region.wanted (opAt ops j) y = true := fun y => by simp [Region.wanted, Option.isNone_iff_eq_none.1 g7]
  subst hdi
  subst hdj
  refine wpAnyH_two g3 (wpOp_value vi (get_opAt g1) (wi _) h1 ⟨hS, wpAnyH_one g4 (wpOp_value vj (get_opAt g2) (wj _) h2 ⟨hS', h⟩)⟩) (wpOp_value vj (get_opAt g2) (wj _) h3 ⟨hS', wpAnyH_one g5 (wpOp_value vi (get_opAt g1) (wi _) h4 ⟨hS', ?_⟩)⟩)
  rw [Act.put_comm a vj vi hne, Array.setIfInBounds_comm _ _ (Ne.symm hij)]
  exact h

theorem write_range (d sz : Nat) (F : List Nat) (seen dur : List Int) (pend : List Wr) (left n : Int) (b : List Int) (w : World) (h : Dk w F d sz seen dur pend left) (hn : n < 0 ∨ (sz : Int) ≤ n) :
    Calls Tryd.prog 91 #[.pointer (some ⟨d, 0, none⟩), .int .i64 n, .agg (ints .u8 b).toArray] w (DkPost F d sz seen dur pend left (.int .i64 11) w) := by
  have BE : Hid (Below w.heap.size w (w.alloc (.cells (ints .u8 b).toArray 91))) := (Below.refl _ _).alloc (Nat.le_refl _) _
  have HD := Lib.hid (h.below BE.out)
  clear h
  go_enter Tryd.func91, Tryd.ntmps91
  go_wp2_with fail
  obtain ⟨sB, dB, sc, dc, rs, rd, pv, -, hx⟩ := id HD.out
  refine (has_no d sz sc n _ _ hx.c0 hn).mono ?_
  rintro e w1 ⟨rfl, rfl⟩
  clear hx
  go_wp2
  go_ret
  exact ⟨rfl, F, HD.out, Step.of_below BE.out (Nat.le_refl _)⟩
theorem write_full (d sz n : Nat) (F : List Nat) (seen dur : List Int) (pend : List Wr) (b : List Int) (w : World) (h : Dk w F d sz seen dur pend 0) (hn : n < sz) :
    Calls Tryd.prog 91 #[.pointer (some ⟨d, 0, none⟩), .int .i64 (n : Int), .agg (ints .u8 b).toArray] w (DkPost F d sz seen dur pend 0 (.int .i64 15) w) := by
  have BE : Hid (Below w.heap.size w (w.alloc (.cells (ints .u8 b).toArray 91))) := (Below.refl _ _).alloc (Nat.le_refl _) _
  have HD := Lib.hid (h.below BE.out)
  clear h
  go_enter Tryd.func91, Tryd.ntmps91
  go_wp2_with fail
  obtain ⟨sB, dB, sc, dc, rs, rd, pv, -, hx⟩ := id HD.out
  refine (has_yes d sz n sc _ _ hx.c0 hn).mono ?_
  rintro e w1 ⟨rfl, rfl⟩
  have c3 := hx.c3
  clear hx
  go_wp2
  go_ret
  exact ⟨rfl, F, HD.out, Step.of_below BE.out (Nat.le_refl _)⟩

structure Wsx (d q : Nat) (cs : List Value) (b : List Int) (w : World) : Prop where
  d : Blk w d 89 cs
  q : Blk w q 91 (ints .u8 b)
theorem Dkx.wrote {w w1 w2 : World} {d sz sB dB sc dc n : Nat} {rs rd : List Value} {pv pv' : Value} {seen dur b : List Int} {pend : List Wr} {left : Int} (h : Dkx w d sz sB dB sc dc rs rd pv seen dur pend left) (hn : n < sz) (hb : b.length = 64)
    (h1 : Upd sB w w1) (h1s : Blk w1 sB 91 (ints .u8 (putB seen n b) ++ rs)) (o : Obj) (h2 : (w1.alloc o).grownBy w2 pv.ownBlock) (h2p : w2.ownsRow 0 93 65 pv' (pend.length + 1) (pcells pend ++ wcells (n, b))) (hp' : pv'.ownBlock = pv.ownBlock ∨ ∃ g, pv'.ownBlock = some g ∧ w1.heap.size < g) :
    Dkx (w2.setCell ⟨d, 2, none⟩ pv') d sz sB dB sc dc rs rd pv' (putB seen n b) dur (pend ++ [(n, b)]) left ∧ Step (foot d sB dB pv) w (foot d sB dB pv') (w2.setCell ⟨d, 2, none⟩ pv') := by
  have hd1 := h1.blk h.hd h.n1
  have hu1 := h1.blk h.hu (Ne.symm h.n3)
  have keep : ∀ {k : Nat} {t : TypeId} {cs : List Value}, Blk w1 k t cs → (∀ g, pv.ownBlock = some g → g ≠ k) → Blk w2 k t cs := fun {k t cs} hk hne => by
    unfold Blk
    rw [h2.block k (by simp; have := hk.lt; omega) (fun e => hne k e.symm rfl)]
    exact hk.alloc o
  have hd2 := keep hd1 (fun g hg => (h.n4 g hg).1)
  have hs2 := keep h1s (fun g hg => (h.n4 g hg).2.1)
  have hu2 := keep hu1 (fun g hg => (h.n4 g hg).2.2)
  have hsz := h1.size
  have n4' : ∀ g, pv'.ownBlock = some g → g ≠ d ∧ g ≠ sB ∧ g ≠ dB := fun g hg => by
    rcases hp' with e | ⟨g', e, hlt⟩
    · exact h.n4 g (e ▸ hg)
    · rw [e] at hg
      obtain rfl := Option.some.inj hg
      have := hd1.lt
      have := h1s.lt
      have := hu1.lt
      exact ⟨by omega, by omega, by omega⟩
  refine ⟨⟨hd2.set 2 _, hs2.other (Ne.symm h.n1) _, hu2.other (Ne.symm h.n2) _, ?_, h.n1, h.n2, h.n3, n4', putB_length h.ls hn hb, h.lu, fun x hx => ?_, h.one, h.big⟩, ⟨h2.os.trans h1.os, h2.tape.trans h1.tape, h2.output.trans h1.output, ?_, fun k hk hF => ?_, fun k hk => ?_⟩⟩
  · rw [pcells_snoc, List.length_append]
    exact own_upd h2p ((Upd.refl d w2).setCell 2 _) (fun g hg => (n4' g hg).1)
  · rcases List.mem_append.1 hx with h3 | h3
    · exact h.ok x h3
    · obtain rfl : x = (n, b) := by simpa using h3
      exact ⟨hn, hb⟩
  · have := h2.size
    simp [World.setCell] at this ⊢
    omega
  · simp only [foot, List.mem_cons, Option.mem_toList, not_or] at hF
    rw [heap_setCell_other w2 ⟨d, 2, none⟩ k _ hF.1, h2.block k (by simp; omega) (fun e => hF.2.2.2 e.symm), Below.heap_alloc w1 o k (by omega), h1.block k hk hF.2.1]
  · simp only [foot, List.mem_cons, Option.mem_toList] at hk ⊢
    rcases hk with rfl | rfl | rfl | hk
    · exact .inl (.inl rfl)
    · exact .inl (.inr (.inl rfl))
    · exact .inl (.inr (.inr (.inl rfl)))
    · rcases hp' with e | ⟨g', e, hlt⟩
      · exact .inl (.inr (.inr (.inr (e ▸ hk))))
      · rw [e] at hk
        obtain rfl := Option.some.inj hk
        exact .inr (by omega)
set_option maxHeartbeats 2000000 in
theorem write_ok (d sz n : Nat) (F : List Nat) (seen dur : List Int) (pend : List Wr) (left : Int) (b : List Int) (w : World) (h : Dk w F d sz seen dur pend left) (hn : n < sz) (hb : b.length = 64) (hl0 : left ≠ 0) (hl1 : left ≤ 9223372036854775807) (hm : pend.length ≤ 1000000) :
    Calls Tryd.prog 91 #[.pointer (some ⟨d, 0, none⟩), .int .i64 (n : Int), .agg (ints .u8 b).toArray] w (DkPost F d sz (putB seen n b) dur (pend ++ [(n, b)]) (if 0 < left then left - 1 else left) (.int .i64 0) w) := by
  obtain ⟨sB, dB, sc, dc, rs, rd, pv, rfl, hx⟩ := h
  obtain ⟨i0, hi, hz0, hz1, hz2⟩ := info_parts infoWrite3
  have HI := Lib.hid hi
  have HZ0 := Lib.hid hz0
  have HZ1 := Lib.hid hz1
  have HZ2 := Lib.hid hz2
  clear hi hz0 hz1 hz2
  have BE : Hid (Below w.heap.size w (w.alloc (.cells (ints .u8 b).toArray 91))) := (Below.refl _ _).alloc (Nat.le_refl _) _
  have HX := Lib.hid (hx.alloc (.cells (ints .u8 b).toArray 91))
  have HQ : Hid (Blk (w.alloc (.cells (ints .u8 b).toArray 91)) w.heap.size 91 (ints .u8 b)) := Blk.new _ _ _
  have hdq : d < w.heap.size := hx.hd.lt
  have hsq : sB < w.heap.size := hx.hs.lt
  have HB := Lib.hid hb
  have HPQ : Hid (∀ g, pv.ownBlock = some g → g < w.heap.size) := fun g hg => (hx.hp.lt g hg).2
  clear hx hb
  obtain ⟨q, hq⟩ : ∃ q, Hid (q = w.heap.size) := ⟨_, rfl⟩
  rw [← hq.out] at HQ hdq hsq HPQ
  have IB : Hid ((Tryd.prog.info? 91).map (·.size) = some (ints .u8 b).length) := infoBlk b HB.out
  have STQ : Hid (Step (foot d sB dB pv) w (foot d sB dB pv) (w.alloc (.cells (ints .u8 b).toArray 91))) := Step.of_below BE.out (Nat.le_refl _)
  have l0 : (left == 0) = false := by simpa using hl0
  obtain ⟨lf, hlf⟩ : ∃ l, Hid ((if 0 < left then left - 1 else left) = l) := ⟨_, rfl⟩
  rw [hlf.out]
  go_enter Tryd.func91, Tryd.ntmps91
  go_wp2_with fail
  rw [← hq.out]
  generalize w.alloc (.cells (ints .u8 b).toArray 91) = W0 at *
  refine (has_yes d sz n sc _ _ HX.out.c0 hn).mono ?_
  rintro e w1 ⟨rfl, rfl⟩
  have c3 := HX.out.c3
  have f3 := HX.out.hd.free 3
  have KEY : ∃ W1, Hid (W1 = (if 0 < left then W0.setCell ⟨d, 3, none⟩ (.int .i64 (left - 1)) else W0)) ∧ Hid (Dkx W1 d sz sB dB sc dc rs rd pv seen dur pend lf) ∧ Hid (Blk W1 q 91 (ints .u8 b)) ∧ Hid (Step (foot d sB dB pv) w (foot d sB dB pv) W1) := by
    refine ⟨_, rfl, ?_⟩
    have hl := hlf.out
    by_cases h : 0 < left
    · rw [if_pos h] at hl ⊢
      rw [← hl]
      exact ⟨HX.out.limit _, HQ.out.other (by simp; omega) _, STQ.out.trans (Step.of_upd ((Upd.refl d W0).setCell 3 _) (by simp [foot]))⟩
    · rw [if_neg h] at hl ⊢
      rw [← hl]
      exact ⟨HX.out, HQ.out, STQ.out⟩
  obtain ⟨W1, HW1, HX1, HQ1, ST1⟩ := KEY
  have hsz1 : q < W1.heap.size := HQ1.out.lt
  clear HX HQ STQ BE
  rcases Int.lt_or_gt_of_ne hl0 with hneg | hpos
  · have l1 : ¬ (0 < left) := by omega
    go_upto_region 7 with (fail)
    have hW := HW1.out
    rw [if_neg (by omega)] at hW
    rw [← hW]
    clear hW
    refine region_begin (opsOf Tryd.f91 7) (Wsx d q (dcells sz sB dB sc dc pv lf) b) (by kernel_rfl) (by kernel_rfl) 8 (by kernel_rfl) ?_
    intro Q' hQN hN
    have hS : Wsx d q (dcells sz sB dB sc dc pv lf) b W1.drew := ⟨HX1.out.hd, HQ1.out⟩
    have there : W1.drew.there sB (0 + 64 * n) (ints .u8 b).length := HX1.out.hs.there (0 + 64 * n) _ (by rw [ints_length, HB.out, List.length_append, ints_length, HX1.out.ls]; omega)
    refine reg_now 0 (.pointer (some ⟨d, 0, none⟩)) (some 28) hQN hS (by kernel_rfl) (by kernel_rfl) (fun w => by kernel_rfl) ?_
    refine reg_now 1 (.pointer (some ⟨d, 0, none⟩)) (some 29) hQN hS (by kernel_rfl) (by kernel_rfl) (fun w => by kernel_rfl) ?_
    refine reg_now 2 (.pointer (some ⟨d, 0, none⟩)) (some 30) hQN hS (by kernel_rfl) (by kernel_rfl) (fun w => by kernel_rfl) ?_
    refine reg_nowIf 3 (.slice (some ⟨sB, 0, none⟩) sz sc) (some 31) hQN hS (by kernel_rfl) (by kernel_rfl) (fun w' hw => exec_load_cell 67 (.tmp 30) (by kernel_rfl) d 0 (by kernel_rfl) _ (hw.d.cell rfl) _ Tryd.underlying67 rfl) ?_
    refine reg_now 4 (.int .i64 (n : Int)) (some 32) hQN hS (by kernel_rfl) (by kernel_rfl) (fun w => by kernel_rfl) ?_
    refine reg_nowIf 5 (.agg (ints .u8 b).toArray) (some 33) hQN hS (by kernel_rfl) (by kernel_rfl) (fun w' hw => exec_load_mid 91 (.tmp 5) (by kernel_rfl) q 0 (by kernel_rfl) (ints .u8 b) _ hw.q.whole Tryd.underlying91 rfl IB.out) ?_
    refine reg_now 6 (.pointer (some ⟨sB, 0 + 64 * n, none⟩)) (some 34) hQN hS (by kernel_rfl) (by kernel_rfl) (fun w' => exec_indexAt 67 (.tmp 31) (.tmp 32) (by kernel_rfl) _ _ _ (by kernel_rfl) (by kernel_rfl) (run_at_block sB 0 sz sc n hn w')) ?_
    have S3 : Hid (Blk (W1.drew.setCells sB (0 + 64 * n) (ints .u8 b)) sB 91 (ints .u8 (putB seen n b) ++ rs)) := by
      have h1 := Blk.setCells (ints .u8 b) (w := W1.drew) HX1.out.hs (0 + 64 * n) (by rw [ints_length, HB.out, List.length_append, ints_length, HX1.out.ls]; omega)
      rw [Nat.zero_add, splice_putB HX1.out.ls hn HB.out] at h1
      unfold Hid
      rw [Nat.zero_add]
      exact h1
    have U3 : Hid (Upd sB W1 (W1.drew.setCells sB (0 + 64 * n) (ints .u8 b))) := ((Upd.refl sB W1).drew).setCells _ _
    have hS3 : Wsx d q (dcells sz sB dB sc dc pv lf) b (W1.drew.setCells sB (0 + 64 * n) (ints .u8 b)) := ⟨U3.out.blk HX1.out.hd HX1.out.n1, U3.out.blk HQ1.out (by omega)⟩
    refine reg_store 7 (W1.drew.setCells sB (0 + 64 * n) (ints .u8 b)) (by kernel_rfl) (by kernel_rfl) (exec_store_mid 91 (.tmp 34) (.tmp 33) (by kernel_rfl) sB (0 + 64 * n) (ints .u8 b) (by kernel_rfl) (by kernel_rfl) there IB.out (ints_oneCell _ _)) hS3 ?_
    refine reg_done (by kernel_rfl) (hN _ _ ?_)
    have HS3 := Lib.hid hS3
    clear hQN hN hS hS3 there
    generalize hw3 : W1.drew.setCells sB (0 + 64 * n) (ints .u8 b) = W3 at *
    clear hw3
    generalize hact : Act.put _ none undef = act
    simp only [Act.put, List.setIfInBounds_toArray, List.set_cons_succ, List.set_cons_zero] at hact
    subst hact
    go_upto_region 8 with (fail)
    refine region_begin (opsOf Tryd.f91 8) (fun w' => Blk w' q 91 (ints .u8 b)) (by kernel_rfl) (by kernel_rfl) 13 (by kernel_rfl) ?_
    intro Q' hQN hN
    have hS : Blk W3.drew q 91 (ints .u8 b) := HS3.out.q
    have hsz3 : q < W3.heap.size := HS3.out.q.lt
    have hd3 : Blk W3.drew d 89 (dcells sz sB dB sc dc pv lf) := HS3.out.d
    refine reg_now 0 (.pointer (some ⟨d, 0, none⟩)) (some 35) hQN hS (by kernel_rfl) (by kernel_rfl) (fun w => by kernel_rfl) ?_
    refine reg_now 1 (.pointer (some ⟨d, 0, none⟩)) (some 36) hQN hS (by kernel_rfl) (by kernel_rfl) (fun w => by kernel_rfl) ?_
    refine reg_now 2 (.pointer (some ⟨d, 0, none⟩)) (some 37) hQN hS (by kernel_rfl) (by kernel_rfl) (fun w => by kernel_rfl) ?_
    refine reg_now 3 (.pointer (some ⟨d, 2, none⟩)) (some 38) hQN hS (by kernel_rfl) (by kernel_rfl) (fun w => by kernel_rfl) ?_
    refine reg_now 5 (.int .i64 (n : Int)) (some 40) hQN hS (by kernel_rfl) (by kernel_rfl) (fun w => by kernel_rfl) ?_
    refine reg_nowIf 6 (.agg (ints .u8 b).toArray) (some 41) hQN hS (by kernel_rfl) (by kernel_rfl) (fun w' hw => exec_load_mid 91 (.tmp 5) (by kernel_rfl) q 0 (by kernel_rfl) (ints .u8 b) _ hw.whole Tryd.underlying91 rfl IB.out) ?_
    refine reg_now 7 (.agg (wcells (n, b)).toArray) (some 42) hQN hS (by kernel_rfl) (by kernel_rfl) (fun w' => exec_of (Instr.build 93 #[(0, .int .i64 (n : Int)), (1, .agg (ints .u8 b).toArray)]) _ (by kernel_rfl) (run_build_write (n, b) HB.out w')) ?_
    have hSa : Blk (W3.drew.alloc (.cells (wcells (n, b)).toArray 93)) q 91 (ints .u8 b) := hS.alloc _
    refine reg_swap 4 8 pv (.slice (some ⟨W3.drew.heap.size, 0, none⟩) 1 1) (some 39) (some 43) hS hSa (by kernel_rfl) (by decide) (by kernel_rfl) (by kernel_rfl)
      (exec_load_cell 87 (.tmp 38) (by kernel_rfl) d 2 (by kernel_rfl) _ (hd3.cell rfl) _ Tryd.underlying87 rfl)
      (exec_of (Instr.buildSlice 87 1 #[(0, .agg (wcells (n, b)).toArray)]) _ (by kernel_rfl) (run_buildSlice_write (n, b) HB.out _))
      (exec_of (Instr.buildSlice 87 1 #[(0, .agg (wcells (n, b)).toArray)]) _ (by kernel_rfl) (run_buildSlice_write (n, b) HB.out _))
      (exec_load_cell 87 (.tmp 38) (by kernel_rfl) d 2 (by kernel_rfl) _ ((hd3.alloc _).cell rfl) _ Tryd.underlying87 rfl) (fun _ h => by cases h; decide) ?_
    have HP3 : Hid (W3.drew.ownsRow 0 93 65 pv pend.length (pcells pend)) := own_upd (w' := W3.drew) HX1.out.hp U3.out.drew (fun g hg => (HX1.out.n4 g hg).2.1)
    obtain ⟨g, cap, W5, hr5, ho5, hg5, hat5, hlt5⟩ := run_append_lies (P := Tryd.prog) (W3.drew.alloc (.cells (wcells (n, b)).toArray 93)) 87 87 0 93 i0 _ 65 72 Tryd.underlying87 HI.out HZ0.out HZ1.out HZ2.out rfl (by decide) pv pend.length (pcells pend) (HP3.out.alloc _)
      ⟨W3.drew.heap.size, 0, none⟩ 1 1 (wcells (n, b)) (by rw [wcells_length HB.out]) (fun j u hu => by rw [Addr.add_mid, Nat.zero_add]; exact (Blk.new W3.drew 93 (wcells (n, b))).cell hu) (wcells_one _) (by decide) (by unfold maxLen; omega) (by omega) (by omega) _ rfl
    have hS5 : Blk W5 q 91 (ints .u8 b) := by
      unfold Blk
      rw [hg5.block q (by have := hSa.lt; omega) (fun e => by have := HPQ.out q e.symm; omega)]
      exact hSa
    have hd5 : Blk W5 d 89 (dcells sz sB dB sc dc pv lf) := by
      unfold Blk
      rw [hg5.block d (by have := (hd3.alloc (.cells (wcells (n, b)).toArray 93)).lt; omega) (fun e => (HX1.out.n4 d e.symm).1 rfl)]
      exact hd3.alloc _
    refine reg_value 9 (.slice (some ⟨g, 0, none⟩) (pend.length + 1) cap) (some 44) W5 (by kernel_rfl) (by kernel_rfl) (exec_of (Builtin.append_ #[87, 87] 87 #[pv, .slice (some ⟨W3.drew.heap.size, 0, none⟩) 1 1]) _ (by kernel_rfl) hr5) hS5 ?_
    refine reg_now 10 (.pointer (some ⟨d, 0, none⟩)) (some 45) hQN hS5 (by kernel_rfl) (by kernel_rfl) (fun w => by kernel_rfl) ?_
    refine reg_now 11 (.pointer (some ⟨d, 2, none⟩)) (some 46) hQN hS5 (by kernel_rfl) (by kernel_rfl) (fun w => by kernel_rfl) ?_
    refine reg_store 12 (W5.setCell ⟨d, 2, none⟩ (.slice (some ⟨g, 0, none⟩) (pend.length + 1) cap)) (by kernel_rfl) (by kernel_rfl) (exec_store_cell 87 (.tmp 46) (.tmp 44) (by kernel_rfl) d 2 _ (by kernel_rfl) (by kernel_rfl) _ _ hd5 (by simp [dcells]) sizeWrites rfl rfl) (hS5.other (by simp; omega) _) ?_
    refine reg_done (by kernel_rfl) (hN _ _ ?_)
    have FIN : Hid (Dkx (W5.setCell ⟨d, 2, none⟩ (.slice (some ⟨g, 0, none⟩) (pend.length + 1) cap)) d sz sB dB sc dc rs rd (.slice (some ⟨g, 0, none⟩) (pend.length + 1) cap) (putB seen n b) dur (pend ++ [(n, b)]) lf ∧ Step (foot d sB dB pv) W1 (foot d sB dB (.slice (some ⟨g, 0, none⟩) (pend.length + 1) cap)) (W5.setCell ⟨d, 2, none⟩ (.slice (some ⟨g, 0, none⟩) (pend.length + 1) cap))) :=
      HX1.out.wrote hn HB.out (w1 := W3.drew) U3.out.drew S3.out (.cells (wcells (n, b)).toArray 93) hg5 ho5 (by
        rcases hat5 with h | h
        · exact .inl h.symm
        · exact .inr ⟨g, rfl, by rw [h]; simp⟩)
    clear hQN hN hS hSa hS5 hd5 hd3 hr5 ho5 hg5 hat5 hlt5 hsz3 HP3 HS3 U3 S3
    generalize W5.setCell ⟨d, 2, none⟩ (.slice (some ⟨g, 0, none⟩) (pend.length + 1) cap) = W6 at *
    generalize hact : Act.put _ none undef = act
    simp only [Act.put, List.setIfInBounds_toArray, List.set_cons_succ, List.set_cons_zero] at hact
    subst hact
    go_wp2
    go_ret
    exact ⟨rfl, _, ⟨sB, dB, sc, dc, rs, rd, _, rfl, FIN.out.1⟩, ST1.out.trans FIN.out.2⟩
  · have l1 : 0 < left := hpos
    go_upto_region 7 with (fail)
    have hW := HW1.out
    rw [if_pos l1] at hW
    rw [← hW]
    clear hW
    refine region_begin (opsOf Tryd.f91 7) (Wsx d q (dcells sz sB dB sc dc pv lf) b) (by kernel_rfl) (by kernel_rfl) 8 (by kernel_rfl) ?_
    intro Q' hQN hN
    have hS : Wsx d q (dcells sz sB dB sc dc pv lf) b W1.drew := ⟨HX1.out.hd, HQ1.out⟩
    have there : W1.drew.there sB (0 + 64 * n) (ints .u8 b).length := HX1.out.hs.there (0 + 64 * n) _ (by rw [ints_length, HB.out, List.length_append, ints_length, HX1.out.ls]; omega)
    refine reg_now 0 (.pointer (some ⟨d, 0, none⟩)) (some 28) hQN hS (by kernel_rfl) (by kernel_rfl) (fun w => by kernel_rfl) ?_
    refine reg_now 1 (.pointer (some ⟨d, 0, none⟩)) (some 29) hQN hS (by kernel_rfl) (by kernel_rfl) (fun w => by kernel_rfl) ?_
    refine reg_now 2 (.pointer (some ⟨d, 0, none⟩)) (some 30) hQN hS (by kernel_rfl) (by kernel_rfl) (fun w => by kernel_rfl) ?_
    refine reg_nowIf 3 (.slice (some ⟨sB, 0, none⟩) sz sc) (some 31) hQN hS (by kernel_rfl) (by kernel_rfl) (fun w' hw => exec_load_cell 67 (.tmp 30) (by kernel_rfl) d 0 (by kernel_rfl) _ (hw.d.cell rfl) _ Tryd.underlying67 rfl) ?_
    refine reg_now 4 (.int .i64 (n : Int)) (some 32) hQN hS (by kernel_rfl) (by kernel_rfl) (fun w => by kernel_rfl) ?_
    refine reg_nowIf 5 (.agg (ints .u8 b).toArray) (some 33) hQN hS (by kernel_rfl) (by kernel_rfl) (fun w' hw => exec_load_mid 91 (.tmp 5) (by kernel_rfl) q 0 (by kernel_rfl) (ints .u8 b) _ hw.q.whole Tryd.underlying91 rfl IB.out) ?_
    refine reg_now 6 (.pointer (some ⟨sB, 0 + 64 * n, none⟩)) (some 34) hQN hS (by kernel_rfl) (by kernel_rfl) (fun w' => exec_indexAt 67 (.tmp 31) (.tmp 32) (by kernel_rfl) _ _ _ (by kernel_rfl) (by kernel_rfl) (run_at_block sB 0 sz sc n hn w')) ?_
    have S3 : Hid (Blk (W1.drew.setCells sB (0 + 64 * n) (ints .u8 b)) sB 91 (ints .u8 (putB seen n b) ++ rs)) := by
      have h1 := Blk.setCells (ints .u8 b) (w := W1.drew) HX1.out.hs (0 + 64 * n) (by rw [ints_length, HB.out, List.length_append, ints_length, HX1.out.ls]; omega)
      rw [Nat.zero_add, splice_putB HX1.out.ls hn HB.out] at h1
      unfold Hid
      rw [Nat.zero_add]
      exact h1
    have U3 : Hid (Upd sB W1 (W1.drew.setCells sB (0 + 64 * n) (ints .u8 b))) := ((Upd.refl sB W1).drew).setCells _ _
    have hS3 : Wsx d q (dcells sz sB dB sc dc pv lf) b (W1.drew.setCells sB (0 + 64 * n) (ints .u8 b)) := ⟨U3.out.blk HX1.out.hd HX1.out.n1, U3.out.blk HQ1.out (by omega)⟩
    refine reg_store 7 (W1.drew.setCells sB (0 + 64 * n) (ints .u8 b)) (by kernel_rfl) (by kernel_rfl) (exec_store_mid 91 (.tmp 34) (.tmp 33) (by kernel_rfl) sB (0 + 64 * n) (ints .u8 b) (by kernel_rfl) (by kernel_rfl) there IB.out (ints_oneCell _ _)) hS3 ?_
    refine reg_done (by kernel_rfl) (hN _ _ ?_)
    have HS3 := Lib.hid hS3
    clear hQN hN hS hS3 there
    generalize hw3 : W1.drew.setCells sB (0 + 64 * n) (ints .u8 b) = W3 at *
    clear hw3
    generalize hact : Act.put _ none undef = act
    simp only [Act.put, List.setIfInBounds_toArray, List.set_cons_succ, List.set_cons_zero] at hact
    subst hact
    go_upto_region 8 with (fail)
    refine region_begin (opsOf Tryd.f91 8) (fun w' => Blk w' q 91 (ints .u8 b)) (by kernel_rfl) (by kernel_rfl) 13 (by kernel_rfl) ?_
    intro Q' hQN hN
    have hS : Blk W3.drew q 91 (ints .u8 b) := HS3.out.q
    have hsz3 : q < W3.heap.size := HS3.out.q.lt
    have hd3 : Blk W3.drew d 89 (dcells sz sB dB sc dc pv lf) := HS3.out.d
    refine reg_now 0 (.pointer (some ⟨d, 0, none⟩)) (some 35) hQN hS (by kernel_rfl) (by kernel_rfl) (fun w => by kernel_rfl) ?_
    refine reg_now 1 (.pointer (some ⟨d, 0, none⟩)) (some 36) hQN hS (by kernel_rfl) (by kernel_rfl) (fun w => by kernel_rfl) ?_
    refine reg_now 2 (.pointer (some ⟨d, 0, none⟩)) (some 37) hQN hS (by kernel_rfl) (by kernel_rfl) (fun w => by kernel_rfl) ?_
    refine reg_now 3 (.pointer (some ⟨d, 2, none⟩)) (some 38) hQN hS (by kernel_rfl) (by kernel_rfl) (fun w => by kernel_rfl) ?_
    refine reg_now 5 (.int .i64 (n : Int)) (some 40) hQN hS (by kernel_rfl) (by kernel_rfl) (fun w => by kernel_rfl) ?_
    refine reg_nowIf 6 (.agg (ints .u8 b).toArray) (some 41) hQN hS (by kernel_rfl) (by kernel_rfl) (fun w' hw => exec_load_mid 91 (.tmp 5) (by kernel_rfl) q 0 (by kernel_rfl) (ints .u8 b) _ hw.whole Tryd.underlying91 rfl IB.out) ?_
    refine reg_now 7 (.agg (wcells (n, b)).toArray) (some 42) hQN hS (by kernel_rfl) (by kernel_rfl) (fun w' => exec_of (Instr.build 93 #[(0, .int .i64 (n : Int)), (1, .agg (ints .u8 b).toArray)]) _ (by kernel_rfl) (run_build_write (n, b) HB.out w')) ?_
    have hSa : Blk (W3.drew.alloc (.cells (wcells (n, b)).toArray 93)) q 91 (ints .u8 b) := hS.alloc _
    refine reg_swap 4 8 pv (.slice (some ⟨W3.drew.heap.size, 0, none⟩) 1 1) (some 39) (some 43) hS hSa (by kernel_rfl) (by decide) (by kernel_rfl) (by kernel_rfl)
      (exec_load_cell 87 (.tmp 38) (by kernel_rfl) d 2 (by kernel_rfl) _ (hd3.cell rfl) _ Tryd.underlying87 rfl)
      (exec_of (Instr.buildSlice 87 1 #[(0, .agg (wcells (n, b)).toArray)]) _ (by kernel_rfl) (run_buildSlice_write (n, b) HB.out _))
      (exec_of (Instr.buildSlice 87 1 #[(0, .agg (wcells (n, b)).toArray)]) _ (by kernel_rfl) (run_buildSlice_write (n, b) HB.out _))
      (exec_load_cell 87 (.tmp 38) (by kernel_rfl) d 2 (by kernel_rfl) _ ((hd3.alloc _).cell rfl) _ Tryd.underlying87 rfl) (fun _ h => by cases h; decide) ?_
    have HP3 : Hid (W3.drew.ownsRow 0 93 65 pv pend.length (pcells pend)) := own_upd (w' := W3.drew) HX1.out.hp U3.out.drew (fun g hg => (HX1.out.n4 g hg).2.1)
    obtain ⟨g, cap, W5, hr5, ho5, hg5, hat5, hlt5⟩ := run_append_lies (P := Tryd.prog) (W3.drew.alloc (.cells (wcells (n, b)).toArray 93)) 87 87 0 93 i0 _ 65 72 Tryd.underlying87 HI.out HZ0.out HZ1.out HZ2.out rfl (by decide) pv pend.length (pcells pend) (HP3.out.alloc _)
      ⟨W3.drew.heap.size, 0, none⟩ 1 1 (wcells (n, b)) (by rw [wcells_length HB.out]) (fun j u hu => by rw [Addr.add_mid, Nat.zero_add]; exact (Blk.new W3.drew 93 (wcells (n, b))).cell hu) (wcells_one _) (by decide) (by unfold maxLen; omega) (by omega) (by omega) _ rfl
    have hS5 : Blk W5 q 91 (ints .u8 b) := by
      unfold Blk
      rw [hg5.block q (by have := hSa.lt; omega) (fun e => by have := HPQ.out q e.symm; omega)]
      exact hSa
    have hd5 : Blk W5 d 89 (dcells sz sB dB sc dc pv lf) := by
      unfold Blk
      rw [hg5.block d (by have := (hd3.alloc (.cells (wcells (n, b)).toArray 93)).lt; omega) (fun e => (HX1.out.n4 d e.symm).1 rfl)]
      exact hd3.alloc _
    refine reg_value 9 (.slice (some ⟨g, 0, none⟩) (pend.length + 1) cap) (some 44) W5 (by kernel_rfl) (by kernel_rfl) (exec_of (Builtin.append_ #[87, 87] 87 #[pv, .slice (some ⟨W3.drew.heap.size, 0, none⟩) 1 1]) _ (by kernel_rfl) hr5) hS5 ?_
    refine reg_now 10 (.pointer (some ⟨d, 0, none⟩)) (some 45) hQN hS5 (by kernel_rfl) (by kernel_rfl) (fun w => by kernel_rfl) ?_
    refine reg_now 11 (.pointer (some ⟨d, 2, none⟩)) (some 46) hQN hS5 (by kernel_rfl) (by kernel_rfl) (fun w => by kernel_rfl) ?_
    refine reg_store 12 (W5.setCell ⟨d, 2, none⟩ (.slice (some ⟨g, 0, none⟩) (pend.length + 1) cap)) (by kernel_rfl) (by kernel_rfl) (exec_store_cell 87 (.tmp 46) (.tmp 44) (by kernel_rfl) d 2 _ (by kernel_rfl) (by kernel_rfl) _ _ hd5 (by simp [dcells]) sizeWrites rfl rfl) (hS5.other (by simp; omega) _) ?_
    refine reg_done (by kernel_rfl) (hN _ _ ?_)
    have FIN : Hid (Dkx (W5.setCell ⟨d, 2, none⟩ (.slice (some ⟨g, 0, none⟩) (pend.length + 1) cap)) d sz sB dB sc dc rs rd (.slice (some ⟨g, 0, none⟩) (pend.length + 1) cap) (putB seen n b) dur (pend ++ [(n, b)]) lf ∧ Step (foot d sB dB pv) W1 (foot d sB dB (.slice (some ⟨g, 0, none⟩) (pend.length + 1) cap)) (W5.setCell ⟨d, 2, none⟩ (.slice (some ⟨g, 0, none⟩) (pend.length + 1) cap))) :=
      HX1.out.wrote hn HB.out (w1 := W3.drew) U3.out.drew S3.out (.cells (wcells (n, b)).toArray 93) hg5 ho5 (by
        rcases hat5 with h | h
        · exact .inl h.symm
        · exact .inr ⟨g, rfl, by rw [h]; simp⟩)
    clear hQN hN hS hSa hS5 hd5 hd3 hr5 ho5 hg5 hat5 hlt5 hsz3 HP3 HS3 U3 S3
    generalize W5.setCell ⟨d, 2, none⟩ (.slice (some ⟨g, 0, none⟩) (pend.length + 1) cap) = W6 at *
    generalize hact : Act.put _ none undef = act
    simp only [Act.put, List.setIfInBounds_toArray, List.set_cons_succ, List.set_cons_zero] at hact
    subst hact
    go_wp2
    go_ret
    exact ⟨rfl, _, ⟨sB, dB, sc, dc, rs, rd, _, rfl, FIN.out.1⟩, ST1.out.trans FIN.out.2⟩
end Go.Proofs.YtngpmilojfbpmaaDoor
