/- package disk: Flush. -/
import Derived.Test.YtpafgoaeokgfcaaGreatDoorDskFl
namespace Go.Proofs.YtpafgoaeokgfcaaGreatDoor
open Go Go.RowKit
set_option maxRecDepth 100000

/-- What a region that stores a sector may look at: the disk's own block, and a write. -/
structure Fsx (d W : Nat) (cs : List Value) (x : Wr) (w : World) : Prop where
  d : Blk w d 77 cs
  w : Blk w W 81 (wcells x)
theorem wcells_block {w : World} {W : Nat} {x : Wr} (h : Blk w W 81 (wcells x)) : w.rangeAt W 1 (ints .u8 x.2) := fun j v hv => by
  refine h.cell ?_
  rw [wcells, Nat.add_comm, List.getElem?_cons_succ]
  exact hv
section
variable {w : World} {d sz sB dB sc dc : Nat} {rs rd : List Value} {pv : Value} {seen dur : List Int} {pend : List Wr} {left : Int}
/-- A sector of what lasts is overwritten. -/
theorem Dkx.durable {w' : World} {n : Nat} {b : List Int} (h : Dkx w d sz sB dB sc dc rs rd pv seen dur pend left) (hn : n < sz) (hb : b.length = 64) (hu : Upd dB w w') (hs : Blk w' dB 79 (ints .u8 (putB dur n b) ++ rd)) : Dkx w' d sz sB dB sc dc rs rd pv seen (putB dur n b) pend left :=
  ⟨hu.blk h.hd h.n2, hu.blk h.hs h.n3, hs, own_upd h.hp hu (fun g hg => (h.n4 g hg).2.2), h.n1, h.n2, h.n3, h.n4, h.ls, putB_length h.lu hn hb, h.ok, h.one, h.big⟩
/-- .. of what is read. -/
theorem Dkx.seen' {w' : World} {n : Nat} {b : List Int} (h : Dkx w d sz sB dB sc dc rs rd pv seen dur pend left) (hn : n < sz) (hb : b.length = 64) (hu : Upd sB w w') (hs : Blk w' sB 79 (ints .u8 (putB seen n b) ++ rs)) : Dkx w' d sz sB dB sc dc rs rd pv (putB seen n b) dur pend left :=
  ⟨hu.blk h.hd h.n1, hs, hu.blk h.hu (Ne.symm h.n3), own_upd h.hp hu (fun g hg => (h.n4 g hg).2.1), h.n1, h.n2, h.n3, h.n4, putB_length h.ls hn hb, h.lu, h.ok, h.one, h.big⟩
/-- Nothing is pending any more. -/
theorem Dkx.none (h : Dkx w d sz sB dB sc dc rs rd pv seen dur pend left) : Dkx (w.setCell ⟨d, 2, none⟩ (.slice none 0 0)) d sz sB dB sc dc rs rd (.slice none 0 0) seen dur [] left :=
  ⟨h.hd.set 2 _, h.hs.other (Ne.symm h.n1) _, h.hu.other (Ne.symm h.n2) _, ⟨rfl, .inl ⟨rfl, rfl⟩⟩, h.n1, h.n2, h.n3, (fun g hg => by cases hg), h.ls, h.lu, (fun x hx => by simp at hx), h.one, h.big⟩
theorem store_block {w : World} {B n sz : Nat} {l b : List Int} {r : List Value} (h : Blk w B 79 (ints .u8 l ++ r)) (hl : l.length = 64 * sz) (hn : n < sz) (hb : b.length = 64) :
    w.there B (0 + 64 * n) (ints .u8 b).length ∧ Blk (w.setCells B (0 + 64 * n) (ints .u8 b)) B 79 (ints .u8 (putB l n b) ++ r) ∧ Upd B w (w.setCells B (0 + 64 * n) (ints .u8 b)) := by
  refine ⟨h.there _ _ (by rw [ints_length, hb, List.length_append, ints_length, hl]; omega), ?_, (Upd.refl B w).setCells _ _⟩
  have h1 := Blk.setCells (ints .u8 b) h (0 + 64 * n) (by rw [ints_length, hb, List.length_append, ints_length, hl]; omega)
  rw [Nat.zero_add, splice_putB hl hn hb] at h1
  rw [Nat.zero_add]
  exact h1
theorem foot_none (d sB dB : Nat) (pv : Value) : ∀ k ∈ foot d sB dB (.slice none 0 0), k ∈ foot d sB dB pv := fun k hk => by
  simp only [foot, Value.ownBlock, Option.toList_none, List.mem_cons, List.not_mem_nil, or_false] at hk
  simp only [foot, List.mem_cons]
  rcases hk with h | h | h
  · exact .inl h
  · exact .inr (.inl h)
  · exact .inr (.inr (.inl h))
end
set_option maxHeartbeats 2000000 in
theorem flush_walk (d sz : Nat) (F : List Nat) (seen dur : List Int) (pend : List Wr) (left : Int) (w : World) (h : Dk w F d sz seen dur pend left) (hm : pend.length ≤ 1000000) :
    Calls Tryz.prog 56 #[.pointer (some ⟨d, 0, none⟩)] w (DkPost F d sz seen (applyK dur pend pend.length) [] left (.tuple #[]) w) := by
  obtain ⟨sB, dB, sc, dc, rs, rd, pv, rfl, hx⟩ := h
  have HX := Lib.hid hx
  have HOK := Lib.hid hx.ok
  have HLU := Lib.hid hx.lu
  have c2 := hx.c2
  obtain ⟨a, c, hpv⟩ := hx.pv'
  obtain ⟨m, hmm⟩ : ∃ m, Hid (pend.length = m) := ⟨_, rfl⟩
  rw [hmm.out] at hm hpv ⊢
  subst hpv
  clear hx
  go_enter Tryz.func56, Tryz.ntmps56
  go_wp2
  go_loopw [9] (fun i wr => ∃ k : Nat, k ≤ m ∧ i = .int .i64 (k : Int) ∧ Dkx wr d sz sB dB sc dc rs rd (.slice a m c) seen (applyK dur pend k) pend left ∧ Step (foot d sB dB (.slice a m c)) w (foot d sB dB (.slice a m c)) wr) (fun i _ => m - (intOf i).toNat)
  case atStart => exact ⟨0, by omega, rfl, HX.out, Step.refl _ _⟩
  case round =>
    obtain ⟨k, hk, rfl, hx, hst⟩ := hrel
    have HXK := Lib.hid hx
    have HST := Lib.hid hst
    clear hx hst HX c2
    by_cases hlt : k < m
    · have q1 : (k : Int) < (m : Int) := by omega
      have hkl : Hid (k < pend.length) := by unfold Hid; rw [hmm.out]; exact hlt
      obtain ⟨x, hxe⟩ : ∃ x, Hid (wrAt pend k = x) := ⟨_, rfl⟩
      have HXO : Hid (x.1 < sz ∧ x.2.length = 64) := by unfold Hid; rw [← hxe.out]; exact wrAt_ok HOK.out hkl.out
      obtain ⟨g, hg⟩ : ∃ g, a = some ⟨g, 0, none⟩ := by
        rcases HXK.out.hp.2 with ⟨e, h0⟩ | ⟨g, cap, cur, e, _⟩
        · have := hkl.out; omega
        · obtain ⟨e1, -, -⟩ := Value.slice.inj e
          exact ⟨g, e1⟩
      subst hg
      have HRG : Hid (wr.rangeAt g (0 + 65 * k) (wcells x)) := by
        unfold Hid
        rw [← hxe.out]
        exact own_range HXK.out.hp HOK.out hkl.out
      have IW : Hid ((Tryz.prog.info? 81).map (·.size) = some (wcells x).length) := infoWr x HXO.out.2
      have IB : Hid ((Tryz.prog.info? 79).map (·.size) = some (ints .u8 x.2).length) := infoBlk x.2 HXO.out.2
      have BX := Lib.hid (boxed wr 81 zW (wcells x) (by rw [wcells_length HXO.out.2, zW_length]))
      have TH : Hid (World.there (wr.alloc (.cells zW.toArray 81)) wr.heap.size 0 (wcells x).length) := (Blk.new wr 81 zW).there 0 _ (by rw [wcells_length HXO.out.2, zW_length]; omega)
      go_upto_region 2 with (fail)
      refine lin_begin (opsOf Tryz.f56 2) (by kernel_rfl) ?_
      refine lin_now 0 (.pointer (some ⟨g, 0 + 65 * k, none⟩)) (some 11) (by kernel_rfl) (by kernel_rfl) (exec_indexAt 75 (.tmp 7) (.tmp 9) (by kernel_rfl) _ _ _ (by kernel_rfl) (by kernel_rfl) (run_at_write g 0 m c k hlt _)) ?_
      refine lin_now 1 (.agg (wcells x).toArray) (some 12) (by kernel_rfl) (by kernel_rfl) (exec_load_mid 81 (.tmp 11) (by kernel_rfl) g (0 + 65 * k) (by kernel_rfl) (wcells x) _ HRG.out Tryz.underlying81 rfl IW.out) ?_
      refine lin_value 2 (.pointer (some ⟨wr.heap.size, 0, none⟩)) (some 3) (wr.alloc (.cells zW.toArray 81)) (by kernel_rfl) (by kernel_rfl) (exec_alloc 81 (by kernel_rfl) (.agg zW.toArray) zeroWr) ?_
      refine lin_store 3 ((wr.alloc (.cells zW.toArray 81)).setCells wr.heap.size 0 (wcells x)) (by kernel_rfl) (by kernel_rfl) (exec_store_mid 81 (.tmp 3) (.tmp 12) (by kernel_rfl) wr.heap.size 0 (wcells x) (by kernel_rfl) (by kernel_rfl) TH.out IW.out (wcells_ok x)) ?_
      refine lin_done 4 (by kernel_rfl) ?_
      have HX2 := Lib.hid (HXK.out.next BX.out.2.1)
      have ST2 := Lib.hid (HST.out.trans (Step.of_below BX.out.2.1 (Nat.le_refl _)))
      have BW := Lib.hid BX.out.1
      have hdW : d < wr.heap.size := HXK.out.hd.lt
      have hdBW : dB < wr.heap.size := HXK.out.hu.lt
      clear TH HRG HXK HST BX
      generalize (wr.alloc (.cells zW.toArray 81)).setCells wr.heap.size 0 (wcells x) = W2 at *
      generalize wr.heap.size = W at *
      generalize hact : Act.put _ none undef = act
      simp only [Act.put, List.setIfInBounds_toArray, List.set_cons_succ, List.set_cons_zero] at hact
      subst hact
      go_upto_region 3 with (fail)
      refine region_begin (opsOf Tryz.f56 3) (Fsx d W (dcells sz sB dB sc dc (.slice (some ⟨g, 0, none⟩) m c) left) x) (by kernel_rfl) (by kernel_rfl) 10 (by kernel_rfl) ?_
      intro Q' hQN hN
      have hS : Fsx d W (dcells sz sB dB sc dc (.slice (some ⟨g, 0, none⟩) m c) left) x W2.drew := ⟨HX2.out.hd, BW.out⟩
      obtain ⟨th, bs, ub⟩ := store_block (w := W2.drew) HX2.out.hu HX2.out.lu HXO.out.1 HXO.out.2
      refine reg_now 0 (.pointer (some ⟨d, 0, none⟩)) (some 13) hQN hS (by kernel_rfl) (by kernel_rfl) (fun w => by kernel_rfl) ?_
      refine reg_now 1 (.pointer (some ⟨d, 0, none⟩)) (some 14) hQN hS (by kernel_rfl) (by kernel_rfl) (fun w => by kernel_rfl) ?_
      refine reg_now 2 (.pointer (some ⟨d, 1, none⟩)) (some 15) hQN hS (by kernel_rfl) (by kernel_rfl) (fun w => by kernel_rfl) ?_
      refine reg_nowIf 3 (.slice (some ⟨dB, 0, none⟩) sz dc) (some 16) hQN hS (by kernel_rfl) (by kernel_rfl) (fun w' hw => exec_load_cell 61 (.tmp 15) (by kernel_rfl) d 1 (by kernel_rfl) _ (hw.d.cell rfl) _ Tryz.underlying61 rfl) ?_
      refine reg_now 4 (.pointer (some ⟨W, 0, none⟩)) (some 17) hQN hS (by kernel_rfl) (by kernel_rfl) (fun w => by kernel_rfl) ?_
      refine reg_nowIf 5 (.int .i64 (x.1 : Int)) (some 18) hQN hS (by kernel_rfl) (by kernel_rfl) (fun w' hw => exec_load_cell 3 (.tmp 17) (by kernel_rfl) W 0 (by kernel_rfl) _ (hw.w.cell rfl) _ Tryz.underlying3 rfl) ?_
      refine reg_now 6 (.pointer (some ⟨W, 1, none⟩)) (some 19) hQN hS (by kernel_rfl) (by kernel_rfl) (fun w => by kernel_rfl) ?_
      refine reg_nowIf 7 (.agg (ints .u8 x.2).toArray) (some 20) hQN hS (by kernel_rfl) (by kernel_rfl) (fun w' hw => exec_load_mid 79 (.tmp 19) (by kernel_rfl) W 1 (by kernel_rfl) (ints .u8 x.2) _ (wcells_block hw.w) Tryz.underlying79 rfl IB.out) ?_
      refine reg_now 8 (.pointer (some ⟨dB, 0 + 64 * x.1, none⟩)) (some 21) hQN hS (by kernel_rfl) (by kernel_rfl) (fun w' => exec_indexAt 61 (.tmp 16) (.tmp 18) (by kernel_rfl) _ _ _ (by kernel_rfl) (by kernel_rfl) (run_at_block dB 0 sz dc x.1 HXO.out.1 w')) ?_
      refine reg_store 9 (W2.drew.setCells dB (0 + 64 * x.1) (ints .u8 x.2)) (by kernel_rfl) (by kernel_rfl) (exec_store_mid 79 (.tmp 21) (.tmp 20) (by kernel_rfl) dB (0 + 64 * x.1) (ints .u8 x.2) (by kernel_rfl) (by kernel_rfl) th IB.out (ints_oneCell _ _)) ⟨ub.blk hS.d HX2.out.n2, ub.blk hS.w (by omega)⟩ ?_
      refine reg_done (by kernel_rfl) (hN _ _ ?_)
      have ub' : Upd dB W2 (W2.drew.setCells dB (0 + 64 * x.1) (ints .u8 x.2)) := ((Upd.refl dB W2).drew).setCells _ _
      have HX3 : Hid (Dkx (W2.drew.setCells dB (0 + 64 * x.1) (ints .u8 x.2)) d sz sB dB sc dc rs rd (.slice (some ⟨g, 0, none⟩) m c) seen (applyK dur pend (k + 1)) pend left) := by
        have h1 := HX2.out.durable HXO.out.1 HXO.out.2 ub' bs
        unfold Hid
        rw [applyK, hxe.out]
        exact h1
      have ST3 : Hid (Step (foot d sB dB (.slice (some ⟨g, 0, none⟩) m c)) w (foot d sB dB (.slice (some ⟨g, 0, none⟩) m c)) (W2.drew.setCells dB (0 + 64 * x.1) (ints .u8 x.2))) := ST2.out.trans (Step.of_upd ub' (by simp [foot]))
      clear hQN hN hS th bs ub ub' HX2 ST2 BW
      generalize W2.drew.setCells dB (0 + 64 * x.1) (ints .u8 x.2) = W3 at *
      generalize hact : Act.put _ none undef = act
      simp only [Act.put, List.setIfInBounds_toArray, List.set_cons_succ, List.set_cons_zero] at hact
      subst hact
      go_wp2
      exact ⟨⟨k + 1, by omega, by go_num, HX3.out, ST3.out⟩, by simp [intOf]; omega⟩
    · have q1 : ¬ (k : Int) < (m : Int) := by omega
      have e : k = m := by omega
      have HN : Hid (Dkx (wr.setCell ⟨d, 2, none⟩ (.slice none 0 0)) d sz sB dB sc dc rs rd (.slice none 0 0) seen (applyK dur pend m) [] left) := by rw [← e]; exact HXK.out.none
      have ST : Hid (Step (foot d sB dB (.slice a m c)) w (foot d sB dB (.slice none 0 0)) (wr.setCell ⟨d, 2, none⟩ (.slice none 0 0))) := (HST.out.trans (Step.of_upd ((Upd.refl d wr).setCell 2 _) (by simp [foot]))).sub (foot_none d sB dB _)
      have c2 := HXK.out.c2
      have f2 := HXK.out.hd.free 2
      clear HXK HST e
      go_wp2
      go_end0
      exact ⟨rfl, _, ⟨sB, dB, sc, dc, rs, rd, _, rfl, HN.out⟩, ST.out⟩
end Go.Proofs.YtpafgoaeokgfcaaGreatDoor
