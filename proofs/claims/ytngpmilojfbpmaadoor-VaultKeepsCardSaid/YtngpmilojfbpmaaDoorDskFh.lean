/- package disk: Flush. -/
import Derived.Test.YtngpmilojfbpmaaDoorDskFl
import Derived.IntWalk
import Derived.Laws.OwnMore
namespace Go.Proofs.YtngpmilojfbpmaaDoor
open Go Go.RowKit
set_option maxRecDepth 100000

/-- What a region that stores a sector may look at: the disk's own block, and a write. -/
structure Fsx (d W : Nat) (cs : List Value) (x : Wr) (w : World) : Prop where
  d : Blk w d 89 cs
  w : Blk w W 93 (wcells x)
theorem wcells_block {w : World} {W : Nat} {x : Wr} (h : Blk w W 93 (wcells x)) : w.rangeAt W 1 (ints .u8 x.2) := fun j v hv => by
  refine h.cell ?_
  rw [wcells, Nat.add_comm, List.getElem?_cons_succ]
  exact hv
section
variable {w : World} {d sz sB dB sc dc : Nat} {rs rd : List Value} {pv : Value} {seen dur : List Int} {pend : List Wr} {left : Int}
/-- A sector of what lasts is overwritten. -/
theorem Dkx.durable {w' : World} {n : Nat} {b : List Int} (h : Dkx w d sz sB dB sc dc rs rd pv seen dur pend left) (hn : n < sz) (hb : b.length = 64) (hu : Upd dB w w') (hs : Blk w' dB 91 (ints .u8 (putB dur n b) ++ rd)) : Dkx w' d sz sB dB sc dc rs rd pv seen (putB dur n b) pend left :=
  ⟨hu.blk h.hd h.n2, hu.blk h.hs h.n3, hs, own_upd h.hp hu (fun g hg => (h.n4 g hg).2.2), h.n1, h.n2, h.n3, h.n4, h.ls, putB_length h.lu hn hb, h.ok, h.one, h.big⟩
/-- .. of what is read. -/
theorem Dkx.seen' {w' : World} {n : Nat} {b : List Int} (h : Dkx w d sz sB dB sc dc rs rd pv seen dur pend left) (hn : n < sz) (hb : b.length = 64) (hu : Upd sB w w') (hs : Blk w' sB 91 (ints .u8 (putB seen n b) ++ rs)) : Dkx w' d sz sB dB sc dc rs rd pv (putB seen n b) dur pend left :=
  ⟨hu.blk h.hd h.n1, hs, hu.blk h.hu (Ne.symm h.n3), own_upd h.hp hu (fun g hg => (h.n4 g hg).2.1), h.n1, h.n2, h.n3, h.n4, putB_length h.ls hn hb, h.lu, h.ok, h.one, h.big⟩
/-- Nothing is pending any more. -/
theorem Dkx.none (h : Dkx w d sz sB dB sc dc rs rd pv seen dur pend left) : Dkx (w.setCell ⟨d, 2, none⟩ (.slice none 0 0)) d sz sB dB sc dc rs rd (.slice none 0 0) seen dur [] left :=
  ⟨h.hd.set 2 _, h.hs.other (Ne.symm h.n1) _, h.hu.other (Ne.symm h.n2) _, ⟨rfl, .inl ⟨rfl, rfl⟩⟩, h.n1, h.n2, h.n3, (fun g hg => by cases hg), h.ls, h.lu, (fun x hx => by simp at hx), h.one, h.big⟩
theorem store_block {w : World} {B n sz : Nat} {l b : List Int} {r : List Value} (h : Blk w B 91 (ints .u8 l ++ r)) (hl : l.length = 64 * sz) (hn : n < sz) (hb : b.length = 64) :
    w.there B (0 + 64 * n) (ints .u8 b).length ∧ Blk (w.setCells B (0 + 64 * n) (ints .u8 b)) B 91 (ints .u8 (putB l n b) ++ r) ∧ Upd B w (w.setCells B (0 + 64 * n) (ints .u8 b)) := by
  refine ⟨h.there _ _ (by rw [ints_length, hb, List.length_append, ints_length, hl]; omega), ?_, (Upd.refl B w).setCells _ _⟩
  have h1 := Blk.setCells (ints .u8 b) h (0 + 64 * n) (by rw [ints_length, hb, List.length_append, ints_length, hl]; omega)
  rw [Nat.zero_add, splice_putB hl hn hb] at h1
  rw [Nat.zero_add]
  exact h1
theorem foot_none (d sB dB : Nat) (pv : Value) : ∀ k ∈ foot d sB dB (.slice none 0 0), k ∈ foot d sB dB pv := fun k hk => by
  simp only [foot, Value.ownBlock, Option.toList_none, List.mem_cons, List.not_mem_nil, or_false] at hk
  simp only [foot, List.mem_cons]
  rcases hk with h | h | h
  · exact .inl h
  · exact .inr (.inl h)
  · exact .inr (.inr (.inl h))
end
set_option maxHeartbeats 2000000 in
theorem flush_walk (d sz : Nat) (F : List Nat) (seen dur : List Int) (pend : List Wr) (left : Int) (w : World) (h : Dk w F d sz seen dur pend left) (hm : pend.length ≤ 1000000) :
    Calls Tryd.prog 80 #[.pointer (some ⟨d, 0, none⟩)] w (DkPost F d sz seen (applyK dur pend pend.length) [] left (.tuple #[]) w) := by
  obtain ⟨sB, dB, sc, dc, rs, rd, pv, rfl, hx⟩ := h
  have HX := Lib.hid hx
  have HOK := Lib.hid hx.ok
  have HLU := Lib.hid hx.lu
  have c2 := hx.c2
  obtain ⟨a, c, hpv⟩ := hx.pv'
  obtain ⟨m, hmm⟩ : ∃ m, Hid (pend.length = m) := ⟨_, rfl⟩
  rw [hmm.out] at hm hpv ⊢
  subst hpv
  clear hx
  go_enter Tryd.func80, Tryd.ntmps80
  go_wp2
  go_loopw [9] (fun i wr => ∃ k : Nat, k ≤ m ∧ i = .int .i64 (k : Int) ∧ Dkx wr d sz sB dB sc dc rs rd (.slice a m c) seen (applyK dur pend k) pend left ∧ Step (foot d sB dB (.slice a m c)) w (foot d sB dB (.slice a m c)) wr) (fun i _ => m - (intOf i).toNat)
  case atStart => exact ⟨0, by omega, rfl, HX.out, Step.refl _ _⟩
  case round =>
    obtain ⟨k, hk, rfl, hx, hst⟩ := hrel
    have HXK := Lib.hid hx
    have HST := Lib.hid hst
    clear hx hst HX c2
    by_cases hlt : k < m
    · have q1 : (k : Int) < (m : Int) := by omega
      have hkl : Hid (k < pend.length) := by unfold Hid; rw [hmm.out]; exact hlt
      obtain ⟨x, hxe⟩ : ∃ x, Hid (wrAt pend k = x) := ⟨_, rfl⟩
      have HXO : Hid (x.1 < sz ∧ x.2.length = 64) := by unfold Hid; rw [← hxe.out]; exact wrAt_ok HOK.out hkl.out
      obtain ⟨g, hg⟩ : ∃ g, a = some ⟨g, 0, none⟩ := by
        rcases HXK.out.hp.2 with ⟨e, h0⟩ | ⟨g, cap, cur, e, _⟩
        · have := hkl.out; omega
        · obtain ⟨e1, -, -⟩ := Value.slice.inj e
          exact ⟨g, e1⟩
      subst hg
      have HRG : Hid (wr.rangeAt g (0 + 65 * k) (wcells x)) := by
        unfold Hid
        rw [← hxe.out]
        exact own_range HXK.out.hp HOK.out hkl.out
      have IW : Hid ((Tryd.prog.info? 93).map (·.size) = some (wcells x).length) := infoWr x HXO.out.2
      have IB : Hid ((Tryd.prog.info? 91).map (·.size) = some (ints .u8 x.2).length) := infoBlk x.2 HXO.out.2
      have BX := Lib.hid (boxed wr 93 zW (wcells x) (by rw [wcells_length HXO.out.2, zW_length]))
      have TH : Hid (World.there (wr.alloc (.cells zW.toArray 93)) wr.heap.size 0 (wcells x).length) := (Blk.new wr 93 zW).there 0 _ (by rw [wcells_length HXO.out.2, zW_length]; omega)
      go_upto_region 2 with (fail)
      refine lin_begin (opsOf Tryd.f80 2) (by kernel_rfl) ?_
      refine lin_now 0 (.pointer (some ⟨g, 0 + 65 * k, none⟩)) (some 11) (by kernel_rfl) (by kernel_rfl) (exec_indexAt 87 (.tmp 7) (.tmp 9) (by kernel_rfl) _ _ _ (by kernel_rfl) (by kernel_rfl) (run_at_write g 0 m c k hlt _)) ?_
      refine lin_now 1 (.agg (wcells x).toArray) (some 12) (by kernel_rfl) (by kernel_rfl) (exec_load_mid 93 (.tmp 11) (by kernel_rfl) g (0 + 65 * k) (by kernel_rfl) (wcells x) _ HRG.out Tryd.underlying93 rfl IW.out) ?_
      refine lin_value 2 (.pointer (some ⟨wr.heap.size, 0, none⟩)) (some 3) (wr.alloc (.cells zW.toArray 93)) (by kernel_rfl) (by kernel_rfl) (exec_alloc 93 (by kernel_rfl) (.agg zW.toArray) zeroWr) ?_
      refine lin_store 3 ((wr.alloc (.cells zW.toArray 93)).setCells wr.heap.size 0 (wcells x)) (by kernel_rfl) (by kernel_rfl) (exec_store_mid 93 (.tmp 3) (.tmp 12) (by kernel_rfl) wr.heap.size 0 (wcells x) (by kernel_rfl) (by kernel_rfl) TH.out IW.out (wcells_ok x)) ?_
      refine lin_done 4 (by kernel_rfl) ?_
      have HX2 := Lib.hid (HXK.out.next BX.out.2.1)
      have ST2 := Lib.hid (HST.out.trans (Step.of_below BX.out.2.1 (Nat.le_refl _)))
      have BW := Lib.hid BX.out.1
      have hdW : d < wr.heap.size := HXK.out.hd.lt
      have hdBW : dB < wr.heap.size := HXK.out.hu.lt
      clear TH HRG HXK HST BX
      generalize (wr.alloc (.cells zW.toArray 93)).setCells wr.heap.size 0 (wcells x) = W2 at *
      generalize wr.heap.size = W at *
      generalize hact : Act.put _ none undef = act
      simp only [Act.put, List.setIfInBounds_toArray, List.set_cons_succ, List.set_cons_zero] at hact
      subst hact
      go_upto_region 3 with (fail)
      refine region_begin (opsOf Tryd.f80 3) (Fsx d W (dcells sz sB dB sc dc (.slice (some ⟨g, 0, none⟩) m c) left) x) (by kernel_rfl) (by kernel_rfl) 10 (by kernel_rfl) ?_
      intro Q' hQN hN
      have hS : Fsx d W (dcells sz sB dB sc dc (.slice (some ⟨g, 0, none⟩) m c) left) x W2.drew := ⟨HX2.out.hd, BW.out⟩
      obtain ⟨th, bs, ub⟩ := store_block (w := W2.drew) HX2.out.hu HX2.out.lu HXO.out.1 HXO.out.2
      refine reg_now 0 (.pointer (some ⟨d, 0, none⟩)) (some 13) hQN hS (by kernel_rfl) (by kernel_rfl) (fun w => by kernel_rfl) ?_
      refine reg_now 1 (.pointer (some ⟨d, 0, none⟩)) (some 14) hQN hS (by kernel_rfl) (by kernel_rfl) (fun w => by kernel_rfl) ?_
      refine reg_now 2 (.pointer (some ⟨d, 1, none⟩)) (some 15) hQN hS (by kernel_rfl) (by kernel_rfl) (fun w => by kernel_rfl) ?_
      refine reg_nowIf 3 (.slice (some ⟨dB, 0, none⟩) sz dc) (some 16) hQN hS (by kernel_rfl) (by kernel_rfl) (fun w' hw => exec_load_cell 67 (.tmp 15) (by kernel_rfl) d 1 (by kernel_rfl) _ (hw.d.cell rfl) _ Tryd.underlying67 rfl) ?_
      refine reg_now 4 (.pointer (some ⟨W, 0, none⟩)) (some 17) hQN hS (by kernel_rfl) (by kernel_rfl) (fun w => by kernel_rfl) ?_
      refine reg_nowIf 5 (.int .i64 (x.1 : Int)) (some 18) hQN hS (by kernel_rfl) (by kernel_rfl) (fun w' hw => exec_load_cell 3 (.tmp 17) (by kernel_rfl) W 0 (by kernel_rfl) _ (hw.w.cell rfl) _ Tryd.underlying3 rfl) ?_
      refine reg_now 6 (.pointer (some ⟨W, 1, none⟩)) (some 19) hQN hS (by kernel_rfl) (by kernel_rfl) (fun w => by kernel_rfl) ?_
      refine reg_nowIf 7 (.agg (ints .u8 x.2).toArray) (some 20) hQN hS (by kernel_rfl) (by kernel_rfl) (fun w' hw => exec_load_mid 91 (.tmp 19) (by kernel_rfl) W 1 (by kernel_rfl) (ints .u8 x.2) _ (wcells_block hw.w) Tryd.underlying91 rfl IB.out) ?_
      refine reg_now 8 (.pointer (some ⟨dB, 0 + 64 * x.1, none⟩)) (some 21) hQN hS (by kernel_rfl) (by kernel_rfl) (fun w' => exec_indexAt 67 (.tmp 16) (.tmp 18) (by kernel_rfl) _ _ _ (by kernel_rfl) (by kernel_rfl) (run_at_block dB 0 sz dc x.1 HXO.out.1 w')) ?_
      refine reg_store 9 (W2.drew.setCells dB (0 + 64 * x.1) (ints .u8 x.2)) (by kernel_rfl) (by kernel_rfl) (exec_store_mid 91 (.tmp 21) (.tmp 20) (by kernel_rfl) dB (0 + 64 * x.1) (ints .u8 x.2) (by kernel_rfl) (by kernel_rfl) th IB.out (ints_oneCell _ _)) ⟨ub.blk hS.d HX2.out.n2, ub.blk hS.w (by omega)⟩ ?_
      refine reg_done (by kernel_rfl) (hN _ _ ?_)
      have ub' : Upd dB W2 (W2.drew.setCells dB (0 + 64 * x.1) (ints .u8 x.2)) := ((Upd.refl dB W2).drew).setCells _ _
      have HX3 : Hid (Dkx (W2.drew.setCells dB (0 + 64 * x.1) (ints .u8 x.2)) d sz sB dB sc dc rs rd (.slice (some ⟨g, 0, none⟩) m c) seen (applyK dur pend (k + 1)) pend left) := by
        have h1 := HX2.out.durable HXO.out.1 HXO.out.2 ub' bs
        unfold Hid
        rw [applyK, hxe.out]
        exact h1
      have ST3 : Hid (Step (foot d sB dB (.slice (some ⟨g, 0, none⟩) m c)) w (foot d sB dB (.slice (some ⟨g, 0, none⟩) m c)) (W2.drew.setCells dB (0 + 64 * x.1) (ints .u8 x.2))) := ST2.out.trans (Step.of_upd ub' (by simp [foot]))
      clear hQN hN hS th bs ub ub' HX2 ST2 BW
      generalize W2.drew.setCells dB (0 + 64 * x.1) (ints .u8 x.2) = W3 at *
      generalize hact : Act.put _ none undef = act
      simp only [Act.put, List.setIfInBounds_toArray, List.set_cons_succ, List.set_cons_zero] at hact
      subst hact
      go_wp2
      exact ⟨⟨k + 1, by omega, by go_num, HX3.out, ST3.out⟩, by simp [intOf]; omega⟩
    · have q1 : ¬ (k : Int) < (m : Int) := by omega
      have e : k = m := by omega
      have HN : Hid (Dkx (wr.setCell ⟨d, 2, none⟩ (.slice none 0 0)) d sz sB dB sc dc rs rd (.slice none 0 0) seen (applyK dur pend m) [] left) := by rw [← e]; exact HXK.out.none
      have ST : Hid (Step (foot d sB dB (.slice a m c)) w (foot d sB dB (.slice none 0 0)) (wr.setCell ⟨d, 2, none⟩ (.slice none 0 0))) := (HST.out.trans (Step.of_upd ((Upd.refl d wr).setCell 2 _) (by simp [foot]))).sub (foot_none d sB dB _)
      have c2 := HXK.out.c2
      have f2 := HXK.out.hd.free 2
      clear HXK HST e
      go_wp2
      go_end0
      exact ⟨rfl, _, ⟨sB, dB, sc, dc, rs, rd, _, rfl, HN.out⟩, ST.out⟩
end Go.Proofs.YtngpmilojfbpmaaDoor
/- package disk: pickOf, joined, crashed. -/
namespace Go.Proofs.YtngpmilojfbpmaaDoor
open Go Go.RowKit
set_option maxRecDepth 100000

theorem wp_at {P : Program} {c : Code} {Q : Exit → Act → World → Prop} {a : Act} {w w' : World} (h : w = w') (hc : c.wp P Q a w') : c.wp P Q a w := by rw [h]; exact hc
theorem pick_walk (u : Value) (picks : List Int) (i : Nat) (w : World) (hu : BytesIn w u picks) (hl : picks.length ≤ 1000000000) (hi : i ≤ 1000000000) :
    Calls Tryd.prog 48 #[u, .int .i64 (i : Int)] w fun e w' => e = .returned (.int .u8 (pickL picks i)) ∧ w = w' := by
  obtain ⟨a, c, rfl, hc, hp⟩ := hu
  obtain ⟨m, hm⟩ : ∃ m, Hid (picks.length = m) := ⟨_, rfl⟩
  obtain ⟨z, hz⟩ : ∃ z, Hid (pickL picks i = z) := ⟨_, rfl⟩
  rw [hz.out]
  rw [hm.out] at hl hp ⊢
  by_cases h0 : m = 0
  · have HZ : Hid (z = 0) := by unfold Hid; rw [← hz.out, pickL, if_pos (hm.out.trans h0)]
    have q0 : ((m : Int) == 0) = true := by simpa using h0
    clear hp hc h0
    go_enter Tryd.func48, Tryd.ntmps48
    go_wp2
    go_ret
    refine ⟨?_, rfl⟩
    rw [HZ.out]
    rfl
  · have q0 : ((m : Int) == 0) = false := by simpa using h0
    obtain ⟨pb, po, rfl, _, hr⟩ := hp (by omega)
    have hlt : i % m < m := Nat.mod_lt _ (by omega)
    have HZ : Hid (picks.getD (i % m) 0 = z) := by
      have h1 := hz.out
      rw [pickL, if_neg (by rw [hm.out]; exact h0), hm.out] at h1
      exact h1
    have cz : w.cell? ⟨pb, po + i % m, none⟩ = some (.int .u8 z) := by
      rw [← HZ.out]
      exact hr (i % m) _ (ints_getD (by rw [hm.out]; exact hlt))
    have e1 : ((i : Int) % (m : Int)) = ((i % m : Nat) : Int) := rfl
    have m0 : (0 : Int) < (m : Int) := by omega
    have EI : Hid (((i : Int) % (m : Int)) = ((i % m : Nat) : Int)) := rfl
    clear hr hp e1
    go_enter Tryd.func48, Tryd.ntmps48
    go_wp2
    go_ret
    exact ⟨rfl, rfl⟩
def joinL (f l : List Int) (n : Nat) : List Int := f.take n ++ l.drop n
theorem joinL_length {f l : List Int} (hf : f.length = 64) (hl : l.length = 64) (n : Nat) (hn : n ≤ 64) : (joinL f l n).length = 64 := by
  unfold joinL
  rw [List.length_append, List.length_take, List.length_drop]; omega
set_option maxHeartbeats 1000000 in
theorem joined_walk (f l : List Int) (cut : Int) (hf : f.length = 64) (hl : l.length = 64) (h0 : 0 ≤ cut) (h1 : cut ≤ 64) (w : World) :
    Calls Tryd.prog 73 #[.agg (ints .u8 f).toArray, .agg (ints .u8 l).toArray, .int .i64 cut] w fun e w' => e = .returned (.agg (ints .u8 (joinL f l cut.toNat)).toArray) ∧ Below w.heap.size w w' := by
  obtain ⟨n, rfl⟩ := Int.eq_ofNat_of_zero_le h0
  rw [Int.toNat_natCast]
  have hn : n ≤ 64 := by omega
  have HF := Lib.hid hf
  have HL := Lib.hid hl
  obtain ⟨r, hr⟩ : ∃ r, Hid (joinL f l n = r) := ⟨_, rfl⟩
  have HRL : Hid (r.length = 64) := by unfold Hid; rw [← hr.out]; exact joinL_length hf hl n hn
  clear hf hl h0 h1
  obtain ⟨W0, hW0⟩ : ∃ W0, Hid (W0 = ((w.alloc (.cells (ints .u8 f).toArray 91)).alloc (.cells (ints .u8 l).toArray 91)).alloc (.cells (ints .u8 zB).toArray 91)) := ⟨_, rfl⟩
  have B1 : Hid (Blk W0 w.heap.size 91 (ints .u8 f)) := by unfold Hid; rw [hW0.out]; exact ((Blk.new _ _ _).alloc _).alloc _
  have B2 : Hid (Blk W0 (w.heap.size + 1) 91 (ints .u8 l)) := by unfold Hid; rw [hW0.out]; exact (Blk.new2 _ _ _ _ _ (by simp) rfl).alloc _
  have B3 : Hid (Blk W0 (w.heap.size + 1 + 1) 91 (ints .u8 zB)) := by unfold Hid; rw [hW0.out]; exact Blk.new2 _ _ _ _ _ (by simp) rfl
  have BE0 : Hid (Below w.heap.size w W0) := by unfold Hid; rw [hW0.out]; exact (((Below.refl _ _).alloc (Nat.le_refl _) _).alloc (by simp) _).alloc (by simp; omega) _
  rw [hr.out]
  go_enter Tryd.func73, Tryd.ntmps73
  go_upto_region 1 with (fail)
  refine wp_at (w' := W0) (by rw [hW0.out]; kernel_rfl) ?_
  refine region_begin (opsOf Tryd.f73 1) (fun _ => True) (by kernel_rfl) (by kernel_rfl) 5 (by kernel_rfl) ?_
  intro Q' hQN hN
  refine reg_now 0 (.int .i64 (n : Int)) (some 7) hQN trivial (by kernel_rfl) (by kernel_rfl) (fun w => by kernel_rfl) ?_
  refine reg_now 1 (.slice (some ⟨w.heap.size + 1, 0, none⟩) n 64) (some 8) hQN trivial (by kernel_rfl) (by kernel_rfl) (fun w' => exec_of (Instr.sliceAt 91 (.pointer (some ⟨w.heap.size + 1, 0, none⟩)) none (some (.int .i64 (n : Int))) none) _ (by kernel_rfl) (run_arr_head (w.heap.size + 1) n hn w')) ?_
  refine reg_now 2 (.int .i64 (n : Int)) (some 9) hQN trivial (by kernel_rfl) (by kernel_rfl) (fun w => by kernel_rfl) ?_
  refine reg_now 3 (.slice (some ⟨w.heap.size, 0, none⟩) n 64) (some 10) hQN trivial (by kernel_rfl) (by kernel_rfl) (fun w' => exec_of (Instr.sliceAt 91 (.pointer (some ⟨w.heap.size, 0, none⟩)) none (some (.int .i64 (n : Int))) none) _ (by kernel_rfl) (run_arr_head w.heap.size n hn w')) ?_
  have hcp := run_copy_row (P := Tryd.prog) W0.drew 22 22 3 5 (w.heap.size + 1) 0 n 64 ⟨w.heap.size, 0, none⟩ n 64 (ints .u8 l).toArray 91 (ints .u8 (f.take n)) Tryd.underlying22 (by kernel_rfl) B2.out (by rw [ints_length, List.length_take, HF.out]; simp; omega)
    (fun j v hv => by
      rw [Addr.add_mid, Nat.zero_add]
      refine B1.out.cell ?_
      rw [ints, List.getElem?_map, List.getElem?_take] at hv
      rw [ints, List.getElem?_map]
      split at hv
      · exact hv
      · cases hv) (by rw [ints_length, List.length_take, HF.out, List.size_toArray, ints_length, HL.out]; omega) (ints_one _ _)
  have hcell : ((ints .u8 l).toArray.toList.take 0 ++ ints .u8 (f.take n) ++ (ints .u8 l).toArray.toList.drop (0 + (ints .u8 (f.take n)).length)) = ints .u8 r := by
    rw [← hr.out, joinL]
    simp only [List.take_zero, List.nil_append, Nat.zero_add]
    rw [ints_length, List.length_take, HF.out, Nat.min_eq_left hn]
    simp [ints]
  rw [hcell] at hcp
  refine reg_value 4 (goInt (ints .u8 (f.take n)).length) (some 11) (W0.drew.setRow (w.heap.size + 1) (ints .u8 r).toArray) (by kernel_rfl) (by kernel_rfl) (exec_of (Builtin.copy_ #[22, 22] 3 #[.slice (some ⟨w.heap.size + 1, 0, none⟩) n 64, .slice (some ⟨w.heap.size, 0, none⟩) n 64]) _ (by kernel_rfl) hcp) trivial ?_
  refine reg_done (by kernel_rfl) (hN _ _ ?_)
  have U1 : Hid (Upd (w.heap.size + 1) W0 (W0.drew.setRow (w.heap.size + 1) (ints .u8 r).toArray)) := ((Upd.refl _ W0).drew).setRow _
  have C2 : Hid (Blk (W0.drew.setRow (w.heap.size + 1) (ints .u8 r).toArray) (w.heap.size + 1) 91 (ints .u8 r)) := Blk.setRow (w := W0.drew) B2.out _
  have C3 := Lib.hid (U1.out.blk B3.out (by omega))
  have BE1 := Lib.hid (U1.out.below BE0.out (by omega) BE0.out.size)
  clear hQN hN hcp hcell B1 B2 B3 BE0 U1 hW0
  generalize W0.drew.setRow (w.heap.size + 1) (ints .u8 r).toArray = W1 at *
  generalize hact : Act.put _ (some 11) _ = act
  simp only [Act.put, List.setIfInBounds_toArray, List.set_cons_succ, List.set_cons_zero] at hact
  subst hact
  have IR : Hid ((Tryd.prog.info? 91).map (·.size) = some (ints .u8 r).length) := infoBlk r HRL.out
  have BW : Hid (Blk (W1.setCells (w.heap.size + 1 + 1) 0 (ints .u8 r)) (w.heap.size + 1 + 1) 91 (ints .u8 r)) := C3.out.setWhole _ (by rw [ints_length, ints_length, HRL.out, zB_length])
  have BE2 := Lib.hid (below_setCells (ints .u8 r) BE1.out (b := w.heap.size + 1 + 1) 0 (by omega))
  have TH : Hid (W1.there (w.heap.size + 1 + 1) 0 (ints .u8 r).length) := C3.out.there 0 _ (by rw [ints_length, ints_length, HRL.out, zB_length]; omega)
  go_upto_region 2 with (fail)
  refine lin_begin (opsOf Tryd.f73 2) (by kernel_rfl) ?_
  refine lin_now 0 (.agg (ints .u8 r).toArray) (some 12) (by kernel_rfl) (by kernel_rfl) (exec_load_mid 91 (.tmp 4) (by kernel_rfl) (w.heap.size + 1) 0 (by kernel_rfl) (ints .u8 r) _ C2.out.whole Tryd.underlying91 rfl IR.out) ?_
  refine lin_store 1 (W1.setCells (w.heap.size + 1 + 1) 0 (ints .u8 r)) (by kernel_rfl) (by kernel_rfl) (exec_store_mid 91 (.tmp 6) (.tmp 12) (by kernel_rfl) (w.heap.size + 1 + 1) 0 (ints .u8 r) (by kernel_rfl) (by kernel_rfl) TH.out IR.out (ints_oneCell _ _)) ?_
  refine lin_done 2 (by kernel_rfl) ?_
  clear TH C2 C3 BE1
  generalize W1.setCells (w.heap.size + 1 + 1) 0 (ints .u8 r) = W2 at *
  generalize hact : Act.put _ none undef = act
  have h6 : act.tmps.getD 6 undef = .pointer (some ⟨w.heap.size + 1 + 1, 0, none⟩) := by rw [← hact]; kernel_rfl
  have hd : act.defers = [] := by rw [← hact]; kernel_rfl
  clear hact
  go_wp2
  refine bodyPost_ret (v := .agg (ints .u8 r).toArray) ?_ hd ⟨rfl, BE2.out⟩
  exact results_cell_row Tryd.results73 _ _ (w.heap.size + 1 + 1) 91 (ints .u8 r).toArray (0, 0) _ h6 BW.out Tryd.underlying91 rfl (by rw [List.size_toArray]; exact IR.out)
end Go.Proofs.YtngpmilojfbpmaaDoor
/- package disk: crashed. -/
namespace Go.Proofs.YtngpmilojfbpmaaDoor
open Go Go.RowKit
set_option maxRecDepth 100000

theorem ret_tup2 {a b : List Int} {t u : Bool} (h : a = b) (h2 : t = u) : Ending.returned (.tuple #[.agg (ints .u8 a).toArray, .bool t]) = .returned (.tuple #[.agg (ints .u8 b).toArray, .bool u]) := by rw [h, h2]
set_option maxHeartbeats 2000000 in
theorem crashed_walk (bf af : List Int) (p : Int) (hb : bf.length = 64) (ha : af.length = 64) (h0 : 0 ≤ p) (h1 : p ≤ 255) (w : World) :
    Calls Tryd.prog 47 #[.agg (ints .u8 bf).toArray, .agg (ints .u8 af).toArray, .int .u8 p] w fun e w' => e = .returned (.tuple #[.agg (ints .u8 (crash1 bf af p)).toArray, .bool (decide (64 ≤ p))]) ∧ Below w.heap.size w w' := by
  have HB := Lib.hid hb
  have HA := Lib.hid ha
  have m0 : 0 ≤ p % 64 := Int.emod_nonneg p (by decide)
  have m1 : p % 64 ≤ 63 := by have := Int.emod_lt_of_pos p (show (0 : Int) < 64 by decide); omega
  have IBF : Hid ((Tryd.prog.info? 91).map (·.size) = some (ints .u8 bf).length) := infoBlk bf hb
  have IAF : Hid ((Tryd.prog.info? 91).map (·.size) = some (ints .u8 af).length) := infoBlk af ha
  clear hb ha
  obtain ⟨W0, hW0⟩ : ∃ W0, Hid (W0 = ((w.alloc (.cells (ints .u8 bf).toArray 91)).alloc (.cells (ints .u8 af).toArray 91)).alloc (.cells (ints .u8 zB).toArray 91)) := ⟨_, rfl⟩
  have B1 : Hid (Blk W0 w.heap.size 91 (ints .u8 bf)) := by unfold Hid; rw [hW0.out]; exact ((Blk.new _ _ _).alloc _).alloc _
  have B2 : Hid (Blk W0 (w.heap.size + 1) 91 (ints .u8 af)) := by unfold Hid; rw [hW0.out]; exact (Blk.new2 _ _ _ _ _ (by simp) rfl).alloc _
  have B3 : Hid (Blk W0 (w.heap.size + 1 + 1) 91 (ints .u8 zB)) := by unfold Hid; rw [hW0.out]; exact Blk.new2 _ _ _ _ _ (by simp) rfl
  have BE0 : Hid (Below w.heap.size w W0) := by unfold Hid; rw [hW0.out]; exact (((Below.refl _ _).alloc (Nat.le_refl _) _).alloc (by simp) _).alloc (by simp; omega) _
  have hq : p / 64 = 0 ∨ p / 64 = 1 ∨ p / 64 = 2 ∨ p / 64 = 3 := by omega
  go_enter Tryd.func47, Tryd.ntmps47
  go_upto_region 1 with (fail)
  refine wp_at (w' := W0) (by rw [hW0.out]; kernel_rfl) ?_
  clear hW0
  rcases hq with hq | hq | hq | hq
  · have HQ := Lib.hid hq
    have s1 : (p / 64 == 1) = false := by rw [hq]; rfl
    have s2 : (p / 64 == 2) = false := by rw [hq]; rfl
    have s3 : (p / 64 == 3) = false := by rw [hq]; rfl
    clear hq
    have BW : Hid (Blk (W0.setCells (w.heap.size + 1 + 1) 0 (ints .u8 bf)) (w.heap.size + 1 + 1) 91 (ints .u8 bf)) := B3.out.setWhole _ (by rw [ints_length, ints_length, HB.out, zB_length])
    have BE2 := Lib.hid (below_setCells (ints .u8 bf) BE0.out (b := w.heap.size + 1 + 1) 0 (by omega))
    have TH : Hid (W0.there (w.heap.size + 1 + 1) 0 (ints .u8 bf).length) := B3.out.there 0 _ (by rw [ints_length, ints_length, HB.out, zB_length]; omega)
    go_upto_region 9 with (fail)
    refine lin_begin (opsOf Tryd.f47 9) (by kernel_rfl) ?_
    refine lin_now 0 (.agg (ints .u8 bf).toArray) (some 30) (by kernel_rfl) (by kernel_rfl) (exec_load_mid 91 (.tmp 3) (by kernel_rfl) w.heap.size 0 (by kernel_rfl) (ints .u8 bf) _ B1.out.whole Tryd.underlying91 rfl IBF.out) ?_
    refine lin_store 1 (W0.setCells (w.heap.size + 1 + 1) 0 (ints .u8 bf)) (by kernel_rfl) (by kernel_rfl) (exec_store_mid 91 (.tmp 6) (.tmp 30) (by kernel_rfl) (w.heap.size + 1 + 1) 0 (ints .u8 bf) (by kernel_rfl) (by kernel_rfl) TH.out IBF.out (ints_oneCell _ _)) ?_
    refine lin_now 2 (.bool false) (some 7) (by kernel_rfl) (by kernel_rfl) (by kernel_rfl) ?_
    refine lin_done 3 (by kernel_rfl) ?_
    clear TH B1 B2 B3 BE0
    generalize W0.setCells (w.heap.size + 1 + 1) 0 (ints .u8 bf) = W2 at *
    have HFIN : Hid (bf = crash1 bf af p) := by unfold Hid; unfold crash1; rw [if_neg (by rw [HQ.out]; decide), if_neg (by rw [HQ.out]; decide), if_neg (by rw [HQ.out]; decide)]
    have HGE : Hid (false = decide (64 ≤ p)) := by unfold Hid; have := HQ.out; first | exact (decide_eq_true (by omega)).symm | exact (decide_eq_false (by omega)).symm
    generalize hact : Act.put _ (some 7) (.bool false) = act
    have h6 : act.tmps.getD 6 undef = .pointer (some ⟨w.heap.size + 1 + 1, 0, none⟩) := by rw [← hact]; kernel_rfl
    have h7 : act.tmps.getD 7 undef = .bool false := by rw [← hact]; kernel_rfl
    have hd : act.defers = [] := by rw [← hact]; kernel_rfl
    clear hact
    go_wp2
    refine bodyPost_ret (v := .tuple #[.agg (ints .u8 bf).toArray, .bool false]) ?_ hd ⟨ret_tup2 HFIN.out HGE.out, BE2.out⟩
    exact results_cell_tmp Tryd.results47 _ _ (w.heap.size + 1 + 1) 91 (ints .u8 bf).toArray (0, 0) _ _ h6 h7 BW.out Tryd.underlying91 rfl (by rw [List.size_toArray]; exact IBF.out)
  · have HQ := Lib.hid hq
    have s1 : (p / 64 == 1) = true := by rw [hq]; rfl
    have s2 : (p / 64 == 2) = false := by rw [hq]; rfl
    have s3 : (p / 64 == 3) = false := by rw [hq]; rfl
    clear hq
    have BW : Hid (Blk (W0.setCells (w.heap.size + 1 + 1) 0 (ints .u8 af)) (w.heap.size + 1 + 1) 91 (ints .u8 af)) := B3.out.setWhole _ (by rw [ints_length, ints_length, HA.out, zB_length])
    have BE2 := Lib.hid (below_setCells (ints .u8 af) BE0.out (b := w.heap.size + 1 + 1) 0 (by omega))
    have TH : Hid (W0.there (w.heap.size + 1 + 1) 0 (ints .u8 af).length) := B3.out.there 0 _ (by rw [ints_length, ints_length, HA.out, zB_length]; omega)
    go_upto_region 4 with (fail)
    refine lin_begin (opsOf Tryd.f47 4) (by kernel_rfl) ?_
    refine lin_now 0 (.agg (ints .u8 af).toArray) (some 16) (by kernel_rfl) (by kernel_rfl) (exec_load_mid 91 (.tmp 4) (by kernel_rfl) (w.heap.size + 1) 0 (by kernel_rfl) (ints .u8 af) _ B2.out.whole Tryd.underlying91 rfl IAF.out) ?_
    refine lin_store 1 (W0.setCells (w.heap.size + 1 + 1) 0 (ints .u8 af)) (by kernel_rfl) (by kernel_rfl) (exec_store_mid 91 (.tmp 6) (.tmp 16) (by kernel_rfl) (w.heap.size + 1 + 1) 0 (ints .u8 af) (by kernel_rfl) (by kernel_rfl) TH.out IAF.out (ints_oneCell _ _)) ?_
    refine lin_now 2 (.bool true) (some 7) (by kernel_rfl) (by kernel_rfl) (by kernel_rfl) ?_
    refine lin_done 3 (by kernel_rfl) ?_
    clear TH B1 B2 B3 BE0
    generalize W0.setCells (w.heap.size + 1 + 1) 0 (ints .u8 af) = W2 at *
    have HFIN : Hid (af = crash1 bf af p) := by unfold Hid; unfold crash1; rw [if_pos HQ.out]
    have HGE : Hid (true = decide (64 ≤ p)) := by unfold Hid; have := HQ.out; first | exact (decide_eq_true (by omega)).symm | exact (decide_eq_false (by omega)).symm
    generalize hact : Act.put _ (some 7) (.bool true) = act
    have h6 : act.tmps.getD 6 undef = .pointer (some ⟨w.heap.size + 1 + 1, 0, none⟩) := by rw [← hact]; kernel_rfl
    have h7 : act.tmps.getD 7 undef = .bool true := by rw [← hact]; kernel_rfl
    have hd : act.defers = [] := by rw [← hact]; kernel_rfl
    clear hact
    go_wp2
    refine bodyPost_ret (v := .tuple #[.agg (ints .u8 af).toArray, .bool true]) ?_ hd ⟨ret_tup2 HFIN.out HGE.out, BE2.out⟩
    exact results_cell_tmp Tryd.results47 _ _ (w.heap.size + 1 + 1) 91 (ints .u8 af).toArray (0, 0) _ _ h6 h7 BW.out Tryd.underlying91 rfl (by rw [List.size_toArray]; exact IAF.out)
  · have HQ := Lib.hid hq
    have s1 : (p / 64 == 1) = false := by rw [hq]; rfl
    have s2 : (p / 64 == 2) = true := by rw [hq]; rfl
    have s3 : (p / 64 == 3) = false := by rw [hq]; rfl
    clear hq
    obtain ⟨r, hr⟩ : ∃ r, Hid (joinL af bf (p % 64).toNat = r) := ⟨_, rfl⟩
    have HRL : Hid (r.length = 64) := by unfold Hid; rw [← hr.out]; exact joinL_length HA.out HB.out _ (by omega)
    have IR : Hid ((Tryd.prog.info? 91).map (·.size) = some (ints .u8 r).length) := infoBlk r HRL.out
    have HJ := Lib.hid (joined_walk af bf (p % 64) HA.out HB.out (by omega) (by omega) W0)
    rw [hr.out] at HJ
    go_upto_region 6 with (fail)
    refine lin_begin (opsOf Tryd.f47 6) (by kernel_rfl) ?_
    refine lin_now 0 (.agg (ints .u8 af).toArray) (some 19) (by kernel_rfl) (by kernel_rfl) (exec_load_mid 91 (.tmp 4) (by kernel_rfl) (w.heap.size + 1) 0 (by kernel_rfl) (ints .u8 af) _ B2.out.whole Tryd.underlying91 rfl IAF.out) ?_
    refine lin_now 1 (.agg (ints .u8 bf).toArray) (some 20) (by kernel_rfl) (by kernel_rfl) (exec_load_mid 91 (.tmp 3) (by kernel_rfl) w.heap.size 0 (by kernel_rfl) (ints .u8 bf) _ B1.out.whole Tryd.underlying91 rfl IBF.out) ?_
    refine lin_now 2 (.int .i64 (p % 64)) (some 21) (by kernel_rfl) (by kernel_rfl) (by kernel_rfl) ?_
    refine lin_call 3 73 #[.agg (ints .u8 af).toArray, .agg (ints .u8 bf).toArray, .int .i64 (p % 64)] (some 22) _ (by kernel_rfl) (by kernel_rfl) (by kernel_rfl) HJ.out ?_
    rintro e W1 ⟨rfl, hbj⟩
    refine ⟨_, rfl, ?_⟩
    have C3 := Lib.hid (B3.out.below hbj B3.out.lt)
    have BE1 := Lib.hid (BE0.out.trans (hbj.mono BE0.out.size))
    clear hbj B1 B2 B3 BE0 HJ
    have BW : Hid (Blk (W1.setCells (w.heap.size + 1 + 1) 0 (ints .u8 r)) (w.heap.size + 1 + 1) 91 (ints .u8 r)) := C3.out.setWhole _ (by rw [ints_length, ints_length, HRL.out, zB_length])
    have BE2 := Lib.hid (below_setCells (ints .u8 r) BE1.out (b := w.heap.size + 1 + 1) 0 (by omega))
    have TH : Hid (W1.there (w.heap.size + 1 + 1) 0 (ints .u8 r).length) := C3.out.there 0 _ (by rw [ints_length, ints_length, HRL.out, zB_length]; omega)
    refine lin_store 4 (W1.setCells (w.heap.size + 1 + 1) 0 (ints .u8 r)) (by kernel_rfl) (by kernel_rfl) (exec_store_mid 91 (.tmp 6) (.tmp 22) (by kernel_rfl) (w.heap.size + 1 + 1) 0 (ints .u8 r) (by kernel_rfl) (by kernel_rfl) TH.out IR.out (ints_oneCell _ _)) ?_
    refine lin_now 5 (.bool true) (some 7) (by kernel_rfl) (by kernel_rfl) (by kernel_rfl) ?_
    refine lin_done 6 (by kernel_rfl) ?_
    clear TH C3 BE1
    generalize W1.setCells (w.heap.size + 1 + 1) 0 (ints .u8 r) = W2 at *
    have HFIN : Hid (r = crash1 bf af p) := by unfold Hid; rw [← hr.out]; unfold crash1 joinL; rw [if_neg (by rw [HQ.out]; decide), if_pos HQ.out]
    have HGE : Hid (true = decide (64 ≤ p)) := by unfold Hid; have := HQ.out; first | exact (decide_eq_true (by omega)).symm | exact (decide_eq_false (by omega)).symm
    generalize hact : Act.put _ (some 7) (.bool true) = act
    have h6 : act.tmps.getD 6 undef = .pointer (some ⟨w.heap.size + 1 + 1, 0, none⟩) := by rw [← hact]; kernel_rfl
    have h7 : act.tmps.getD 7 undef = .bool true := by rw [← hact]; kernel_rfl
    have hd : act.defers = [] := by rw [← hact]; kernel_rfl
    clear hact
    go_wp2
    refine bodyPost_ret (v := .tuple #[.agg (ints .u8 r).toArray, .bool true]) ?_ hd ⟨ret_tup2 HFIN.out HGE.out, BE2.out⟩
    exact results_cell_tmp Tryd.results47 _ _ (w.heap.size + 1 + 1) 91 (ints .u8 r).toArray (0, 0) _ _ h6 h7 BW.out Tryd.underlying91 rfl (by rw [List.size_toArray]; exact IR.out)
  · have HQ := Lib.hid hq
    have s1 : (p / 64 == 1) = false := by rw [hq]; rfl
    have s2 : (p / 64 == 2) = false := by rw [hq]; rfl
    have s3 : (p / 64 == 3) = true := by rw [hq]; rfl
    clear hq
    obtain ⟨r, hr⟩ : ∃ r, Hid (joinL bf af (64 - p % 64).toNat = r) := ⟨_, rfl⟩
    have HRL : Hid (r.length = 64) := by unfold Hid; rw [← hr.out]; exact joinL_length HB.out HA.out _ (by omega)
    have IR : Hid ((Tryd.prog.info? 91).map (·.size) = some (ints .u8 r).length) := infoBlk r HRL.out
    have HJ := Lib.hid (joined_walk bf af (64 - p % 64) HB.out HA.out (by omega) (by omega) W0)
    rw [hr.out] at HJ
    go_upto_region 8 with (fail)
    refine lin_begin (opsOf Tryd.f47 8) (by kernel_rfl) ?_
    refine lin_now 0 (.agg (ints .u8 bf).toArray) (some 25) (by kernel_rfl) (by kernel_rfl) (exec_load_mid 91 (.tmp 3) (by kernel_rfl) w.heap.size 0 (by kernel_rfl) (ints .u8 bf) _ B1.out.whole Tryd.underlying91 rfl IBF.out) ?_
    refine lin_now 1 (.agg (ints .u8 af).toArray) (some 26) (by kernel_rfl) (by kernel_rfl) (exec_load_mid 91 (.tmp 4) (by kernel_rfl) (w.heap.size + 1) 0 (by kernel_rfl) (ints .u8 af) _ B2.out.whole Tryd.underlying91 rfl IAF.out) ?_
    refine lin_now 2 (.int .i64 (p % 64)) (some 27) (by kernel_rfl) (by kernel_rfl) (by kernel_rfl) ?_
    refine lin_now 3 (.int .i64 (IntKind.i64.wrap (64 - p % 64))) (some 28) (by kernel_rfl) (by kernel_rfl) (by kernel_rfl) ?_
    rw [show IntKind.i64.wrap (64 - p % 64) = 64 - p % 64 from IntWalk.i64_in _ (by omega)]
    refine lin_call 4 73 #[.agg (ints .u8 bf).toArray, .agg (ints .u8 af).toArray, .int .i64 (64 - p % 64)] (some 29) _ (by kernel_rfl) (by kernel_rfl) (by kernel_rfl) HJ.out ?_
    rintro e W1 ⟨rfl, hbj⟩
    refine ⟨_, rfl, ?_⟩
    have C3 := Lib.hid (B3.out.below hbj B3.out.lt)
    have BE1 := Lib.hid (BE0.out.trans (hbj.mono BE0.out.size))
    clear hbj B1 B2 B3 BE0 HJ
    have BW : Hid (Blk (W1.setCells (w.heap.size + 1 + 1) 0 (ints .u8 r)) (w.heap.size + 1 + 1) 91 (ints .u8 r)) := C3.out.setWhole _ (by rw [ints_length, ints_length, HRL.out, zB_length])
    have BE2 := Lib.hid (below_setCells (ints .u8 r) BE1.out (b := w.heap.size + 1 + 1) 0 (by omega))
    have TH : Hid (W1.there (w.heap.size + 1 + 1) 0 (ints .u8 r).length) := C3.out.there 0 _ (by rw [ints_length, ints_length, HRL.out, zB_length]; omega)
    refine lin_store 5 (W1.setCells (w.heap.size + 1 + 1) 0 (ints .u8 r)) (by kernel_rfl) (by kernel_rfl) (exec_store_mid 91 (.tmp 6) (.tmp 29) (by kernel_rfl) (w.heap.size + 1 + 1) 0 (ints .u8 r) (by kernel_rfl) (by kernel_rfl) TH.out IR.out (ints_oneCell _ _)) ?_
    refine lin_now 6 (.bool true) (some 7) (by kernel_rfl) (by kernel_rfl) (by kernel_rfl) ?_
    refine lin_done 7 (by kernel_rfl) ?_
    clear TH C3 BE1
    generalize W1.setCells (w.heap.size + 1 + 1) 0 (ints .u8 r) = W2 at *
    have HFIN : Hid (r = crash1 bf af p) := by unfold Hid; rw [← hr.out]; unfold crash1 joinL; rw [if_neg (by rw [HQ.out]; decide), if_neg (by rw [HQ.out]; decide), if_pos HQ.out, show (64 - p % 64).toNat = 64 - (p % 64).toNat by omega]
    have HGE : Hid (true = decide (64 ≤ p)) := by unfold Hid; have := HQ.out; first | exact (decide_eq_true (by omega)).symm | exact (decide_eq_false (by omega)).symm
    generalize hact : Act.put _ (some 7) (.bool true) = act
    have h6 : act.tmps.getD 6 undef = .pointer (some ⟨w.heap.size + 1 + 1, 0, none⟩) := by rw [← hact]; kernel_rfl
    have h7 : act.tmps.getD 7 undef = .bool true := by rw [← hact]; kernel_rfl
    have hd : act.defers = [] := by rw [← hact]; kernel_rfl
    clear hact
    go_wp2
    refine bodyPost_ret (v := .tuple #[.agg (ints .u8 r).toArray, .bool true]) ?_ hd ⟨ret_tup2 HFIN.out HGE.out, BE2.out⟩
    exact results_cell_tmp Tryd.results47 _ _ (w.heap.size + 1 + 1) 91 (ints .u8 r).toArray (0, 0) _ _ h6 h7 BW.out Tryd.underlying91 rfl (by rw [List.size_toArray]; exact IR.out)
end Go.Proofs.YtngpmilojfbpmaaDoor
/- package disk: Crash. -/
namespace Go.Proofs.YtngpmilojfbpmaaDoor
open Go Go.RowKit
set_option maxRecDepth 100000

structure Csx (d W X : Nat) (cs : List Value) (x : Wr) (b : List Int) (ww : World) : Prop where
  d : Blk ww d 89 cs
  w : Blk ww W 93 (wcells x)
  x : Blk ww X 91 (ints .u8 b)
structure Ksx (d W dB : Nat) (cs : List Value) (x : Wr) (ds : List Value) (ww : World) : Prop where
  d : Blk ww d 89 cs
  w : Blk ww W 93 (wcells x)
  u : Blk ww dB 91 ds
theorem keptK_next (picks : List Int) (k : Nat) (b : Bool) (h : decide (64 ≤ pickL picks k) = b) : keptK picks (k + 1) = keptK picks k + if b then 1 else 0 := by
  rw [keptK]
  cases b with
  | true => rw [if_pos (of_decide_eq_true h), if_pos rfl]
  | false => rw [if_neg (of_decide_eq_false h), if_neg (by decide)]
theorem kept_big (picks : List Int) (k : Nat) : (keptK picks k : Int) ≤ k := by have := keptK_le picks k; omega
/-- The cells of a write lie in a new block of their own. -/
theorem Dkx.boxed {w : World} {d sz sB dB sc dc : Nat} {rs rd : List Value} {pv : Value} {seen dur : List Int} {pend : List Wr} {left : Int} (h : Dkx w d sz sB dB sc dc rs rd pv seen dur pend left) (x : Wr) (hx : x.2.length = 64) :
    Dkx ((w.alloc (.cells zW.toArray 93)).setCells w.heap.size 0 (wcells x)) d sz sB dB sc dc rs rd pv seen dur pend left ∧ Blk ((w.alloc (.cells zW.toArray 93)).setCells w.heap.size 0 (wcells x)) w.heap.size 93 (wcells x) ∧ Below w.heap.size w ((w.alloc (.cells zW.toArray 93)).setCells w.heap.size 0 (wcells x)) ∧ World.there (w.alloc (.cells zW.toArray 93)) w.heap.size 0 (wcells x).length := by
  obtain ⟨h1, h2, h3⟩ := Proofs.YtngpmilojfbpmaaDoor.boxed w 93 zW (wcells x) (by rw [wcells_length hx, zW_length])
  exact ⟨h.next h2, h1, h2, (Blk.new w 93 zW).there 0 _ (by rw [wcells_length hx, zW_length]; omega)⟩
set_option maxHeartbeats 4000000 in
theorem crash_walk (d sz : Nat) (F : List Nat) (seen dur : List Int) (pend : List Wr) (left : Int) (u : Value) (picks : List Int) (w : World) (h : Dk w F d sz seen dur pend left) (hm : pend.length ≤ 1000000) (hu : BytesOff F w u picks) (hpb : isBytes picks) (hpl : picks.length ≤ 1000000000) :
    Calls Tryd.prog 13 #[.pointer (some ⟨d, 0, none⟩), u] w (DkPost F d sz (seenK seen (crashK dur pend picks pend.length) pend pend.length) (crashK dur pend picks pend.length) [] (-1) (.int .i64 (keptK picks pend.length : Int)) w) := by
  obtain ⟨sB, dB, sc, dc, rs, rd, pv, rfl, hx⟩ := h
  have HX := Lib.hid hx
  have HOK := Lib.hid hx.ok
  have HLU := Lib.hid hx.lu
  have HLS := Lib.hid hx.ls
  have c2 := hx.c2
  obtain ⟨a, c, hpv⟩ := hx.pv'
  obtain ⟨m, hmm⟩ : ∃ m, Hid (pend.length = m) := ⟨_, rfl⟩
  rw [hmm.out] at hm hpv ⊢
  subst hpv
  obtain ⟨ua, uc, hue, -⟩ := id hu
  have HU := Lib.hid hu
  have HPB := Lib.hid hpb
  have HPL := Lib.hid hpl
  obtain ⟨pn, hpn⟩ : ∃ n, Hid (picks.length = n) := ⟨_, rfl⟩
  rw [hpn.out] at hue
  subst hue
  obtain ⟨durF, hdF⟩ : ∃ l, Hid (crashK dur pend picks m = l) := ⟨_, rfl⟩
  rw [hdF.out]
  have HLF : Hid (durF.length = 64 * sz) := by unfold Hid; rw [← hdF.out]; exact crashK_length HLU.out HOK.out HPB.out m (by rw [hmm.out]; exact Nat.le_refl _)
  clear hx hu hpb hpl
  go_enter Tryd.func13, Tryd.ntmps13
  go_wp2
  go_loopw [17, 5] (fun i kv wr => ∃ k : Nat, k ≤ m ∧ i = .int .i64 (k : Int) ∧ kv = .int .i64 (keptK picks k : Int) ∧ Dkx wr d sz sB dB sc dc rs rd (.slice a m c) seen (crashK dur pend picks k) pend left ∧ Step (foot d sB dB (.slice a m c)) w (foot d sB dB (.slice a m c)) wr) (fun i _ _ => m - (intOf i).toNat)
  case atStart => exact ⟨0, by omega, rfl, rfl, HX.out, Step.refl _ _⟩
  case round =>
    obtain ⟨k, hk, rfl, rfl, hx, hst⟩ := hrel
    have HXK := Lib.hid hx
    have HST := Lib.hid hst
    clear hx hst HX c2
    have kb := kept_big picks k
    by_cases hlt : k < m
    · have q1 : (k : Int) < (m : Int) := by omega
      have hkl : Hid (k < pend.length) := by unfold Hid; rw [hmm.out]; exact hlt
      obtain ⟨x, hxe⟩ : ∃ x, Hid (wrAt pend k = x) := ⟨_, rfl⟩
      have HXO : Hid (x.1 < sz ∧ x.2.length = 64) := by unfold Hid; rw [← hxe.out]; exact wrAt_ok HOK.out hkl.out
      obtain ⟨g, hg⟩ : ∃ g, a = some ⟨g, 0, none⟩ := by
        rcases HXK.out.hp.2 with ⟨e, h0⟩ | ⟨g, cap, cur, e, _⟩
        · have := hkl.out; omega
        · obtain ⟨e1, -, -⟩ := Value.slice.inj e
          exact ⟨g, e1⟩
      subst hg
      have HRG : Hid (wr.rangeAt g (0 + 65 * k) (wcells x)) := by
        unfold Hid
        rw [← hxe.out]
        exact own_range HXK.out.hp HOK.out hkl.out
      have IW : Hid ((Tryd.prog.info? 93).map (·.size) = some (wcells x).length) := infoWr x HXO.out.2
      have IB : Hid ((Tryd.prog.info? 91).map (·.size) = some (ints .u8 x.2).length) := infoBlk x.2 HXO.out.2
      obtain ⟨p, hp⟩ : ∃ p, Hid (pickL picks k = p) := ⟨_, rfl⟩
      have HPR : Hid (0 ≤ p ∧ p ≤ 255) := by unfold Hid; rw [← hp.out]; exact pickL_range HPB.out k
      have HKN := Lib.hid (keptK_next picks k)
      rw [hp.out] at HKN
      have HCK : Hid (crashK dur pend picks (k + 1) = putB (crashK dur pend picks k) x.1 (crash1 (getB (crashK dur pend picks k) x.1) x.2 p)) := by unfold Hid; rw [crashK, hxe.out, hp.out]
      generalize crashK dur pend picks k = dk at *
      obtain ⟨bf, hbf⟩ : ∃ b, Hid (getB dk x.1 = b) := ⟨_, rfl⟩
      have HBF : Hid (bf.length = 64) := by unfold Hid; rw [← hbf.out]; exact getB_length HXK.out.lu HXO.out.1
      have IBF : Hid ((Tryd.prog.info? 91).map (·.size) = some (ints .u8 bf).length) := infoBlk bf HBF.out
      rw [hbf.out] at HCK
      have HCW := Lib.hid (fun w => crashed_walk bf x.2 p HBF.out HXO.out.2 HPR.out.1 HPR.out.2 w)
      obtain ⟨cr, hcr⟩ : ∃ c, Hid (crash1 bf x.2 p = c) := ⟨_, rfl⟩
      have HCL : Hid (cr.length = 64) := by unfold Hid; rw [← hcr.out]; exact crash1_length HBF.out HXO.out.2 p HPR.out.1
      have ICR : Hid ((Tryd.prog.info? 91).map (·.size) = some (ints .u8 cr).length) := infoBlk cr HCL.out
      obtain ⟨fb, hfb⟩ : ∃ b, Hid (decide (64 ≤ p) = b) := ⟨_, rfl⟩
      rw [hcr.out] at HCK
      simp only [hcr.out, hfb.out] at HCW
      have HKN2 : Hid (keptK picks (k + 1) = keptK picks k + if fb then 1 else 0) := HKN.out fb hfb.out
      obtain ⟨HX2a, BWa, BE2a, THa⟩ := HXK.out.boxed x HXO.out.2
      have HX2 := Lib.hid HX2a
      have BW := Lib.hid BWa
      have BE2 := Lib.hid BE2a
      have TH := Lib.hid THa
      have ST2 := Lib.hid (HST.out.trans (Step.of_below BE2a (Nat.le_refl _)))
      clear HX2a BWa BE2a THa HKN
      go_upto_region 4 with (fail)
      refine lin_begin (opsOf Tryd.f13 4) (by kernel_rfl) ?_
      refine lin_now 0 (.int .i64 (k : Int)) (some 19) (by kernel_rfl) (by kernel_rfl) (by kernel_rfl) ?_
      refine lin_now 1 (.pointer (some ⟨g, 0 + 65 * k, none⟩)) (some 20) (by kernel_rfl) (by kernel_rfl) (exec_indexAt 87 (.tmp 15) (.tmp 17) (by kernel_rfl) _ _ _ (by kernel_rfl) (by kernel_rfl) (run_at_write g 0 m c k hlt _)) ?_
      refine lin_now 2 (.agg (wcells x).toArray) (some 21) (by kernel_rfl) (by kernel_rfl) (exec_load_mid 93 (.tmp 20) (by kernel_rfl) g (0 + 65 * k) (by kernel_rfl) (wcells x) _ HRG.out Tryd.underlying93 rfl IW.out) ?_
      refine lin_value 3 (.pointer (some ⟨wr.heap.size, 0, none⟩)) (some 7) (wr.alloc (.cells zW.toArray 93)) (by kernel_rfl) (by kernel_rfl) (exec_alloc 93 (by kernel_rfl) (.agg zW.toArray) zeroWr) ?_
      refine lin_now 4 (.int .i64 (k : Int)) (some 6) (by kernel_rfl) (by kernel_rfl) (by kernel_rfl) ?_
      refine lin_store 5 ((wr.alloc (.cells zW.toArray 93)).setCells wr.heap.size 0 (wcells x)) (by kernel_rfl) (by kernel_rfl) (exec_store_mid 93 (.tmp 7) (.tmp 21) (by kernel_rfl) wr.heap.size 0 (wcells x) (by kernel_rfl) (by kernel_rfl) TH.out IW.out (wcells_ok x)) ?_
      refine lin_done 6 (by kernel_rfl) ?_
      have hdW : d < wr.heap.size := HXK.out.hd.lt
      have hdBW : dB < wr.heap.size := HXK.out.hu.lt
      clear TH HRG HXK HST BE2
      generalize (wr.alloc (.cells zW.toArray 93)).setCells wr.heap.size 0 (wcells x) = W2 at *
      generalize wr.heap.size = W at *
      generalize hact : Act.put _ none undef = act
      simp only [Act.put, List.setIfInBounds_toArray, List.set_cons_succ, List.set_cons_zero] at hact
      subst hact
      have HU2 : Hid (BytesIn W2 (.slice ua pn uc) picks) := (HU.out.step ST2.out).in
      go_upto_region 5 with (fail)
      refine region_begin (opsOf Tryd.f13 5) (Below W2.heap.size W2) (by kernel_rfl) (by kernel_rfl) 20 (by kernel_rfl) ?_
      intro Q' hQN hN
      have hS : Below W2.heap.size W2 W2.drew := (Below.refl _ _).drew
      refine reg_now 0 (.pointer (some ⟨d, 0, none⟩)) (some 23) hQN hS (by kernel_rfl) (by kernel_rfl) (fun w => by kernel_rfl) ?_
      refine reg_now 1 (.pointer (some ⟨d, 0, none⟩)) (some 24) hQN hS (by kernel_rfl) (by kernel_rfl) (fun w => by kernel_rfl) ?_
      refine reg_now 2 (.pointer (some ⟨d, 1, none⟩)) (some 25) hQN hS (by kernel_rfl) (by kernel_rfl) (fun w => by kernel_rfl) ?_
      refine reg_nowIf 3 (.slice (some ⟨dB, 0, none⟩) sz dc) (some 26) hQN hS (by kernel_rfl) (by kernel_rfl) (fun w' hw => exec_load_cell 67 (.tmp 25) (by kernel_rfl) d 1 (by kernel_rfl) _ ((HX2.out.hd.below hw HX2.out.hd.lt).cell rfl) _ Tryd.underlying67 rfl) ?_
      refine reg_now 4 (.pointer (some ⟨W, 0, none⟩)) (some 27) hQN hS (by kernel_rfl) (by kernel_rfl) (fun w => by kernel_rfl) ?_
      refine reg_nowIf 5 (.int .i64 (x.1 : Int)) (some 28) hQN hS (by kernel_rfl) (by kernel_rfl) (fun w' hw => exec_load_cell 3 (.tmp 27) (by kernel_rfl) W 0 (by kernel_rfl) _ ((BW.out.below hw BW.out.lt).cell rfl) _ Tryd.underlying3 rfl) ?_
      refine reg_now 6 (.pointer (some ⟨dB, 0 + 64 * x.1, none⟩)) (some 29) hQN hS (by kernel_rfl) (by kernel_rfl) (fun w' => exec_indexAt 67 (.tmp 26) (.tmp 28) (by kernel_rfl) _ _ _ (by kernel_rfl) (by kernel_rfl) (run_at_block dB 0 sz dc x.1 HXO.out.1 w')) ?_
      refine reg_nowIf 7 (.agg (ints .u8 bf).toArray) (some 30) hQN hS (by kernel_rfl) (by kernel_rfl) (fun w' hw => exec_load_mid 91 (.tmp 29) (by kernel_rfl) dB (0 + 64 * x.1) (by kernel_rfl) (ints .u8 bf) _ (hbf.out ▸ getB_range (HX2.out.hu.below hw HX2.out.hu.lt) HX2.out.lu HXO.out.1) Tryd.underlying91 rfl IBF.out) ?_
      refine reg_now 8 (.pointer (some ⟨W, 1, none⟩)) (some 31) hQN hS (by kernel_rfl) (by kernel_rfl) (fun w => by kernel_rfl) ?_
      refine reg_nowIf 9 (.agg (ints .u8 x.2).toArray) (some 32) hQN hS (by kernel_rfl) (by kernel_rfl) (fun w' hw => exec_load_mid 91 (.tmp 31) (by kernel_rfl) W 1 (by kernel_rfl) (ints .u8 x.2) _ (wcells_block (BW.out.below hw BW.out.lt)) Tryd.underlying91 rfl IB.out) ?_
      refine reg_now 10 (.slice ua pn uc) (some 33) hQN hS (by kernel_rfl) (by kernel_rfl) (fun w => by kernel_rfl) ?_
      refine reg_now 11 (.int .i64 (k : Int)) (some 34) hQN hS (by kernel_rfl) (by kernel_rfl) (fun w => by kernel_rfl) ?_
      refine reg_two 12 17 (by kernel_rfl) ?_ ?_
      · refine op_call 12 48 #[.slice ua pn uc, .int .i64 (k : Int)] (some 35) _ (by kernel_rfl) (by kernel_rfl) (by kernel_rfl) (pick_walk (.slice ua pn uc) picks k _ (HU2.out.below hS (Nat.le_refl _)) HPL.out (by omega)) ?_
        rintro e w' ⟨rfl, rfl⟩
        refine ⟨_, rfl, hS, ?_⟩
        rw [hp.out]
        refine reg_two 13 17 (by kernel_rfl) ?_ ?_
        · refine op_call 13 47 #[.agg (ints .u8 bf).toArray, .agg (ints .u8 x.2).toArray, .int .u8 p] (some 36) _ (by kernel_rfl) (by kernel_rfl) (by kernel_rfl) (HCW.out _) ?_
          rintro e W4 ⟨rfl, hb4⟩
          have hS4 : Below W2.heap.size W2 W4 := hS.trans (hb4.mono (Nat.le_refl _))
          refine ⟨_, rfl, hS4, ?_⟩
          refine reg_now 14 (.tuple #[.agg (ints .u8 cr).toArray, .bool fb]) (some 22) hQN hS4 (by kernel_rfl) (by kernel_rfl) (fun w => by kernel_rfl) ?_
          refine reg_now 15 (.agg (ints .u8 cr).toArray) (some 37) hQN hS4 (by kernel_rfl) (by kernel_rfl) (fun w => by kernel_rfl) ?_
          refine reg_now 16 (.bool fb) (some 38) hQN hS4 (by kernel_rfl) (by kernel_rfl) (fun w => by kernel_rfl) ?_
          have hXge : W2.heap.size ≤ W4.heap.size := hS4.size
          have hS5 : Below W2.heap.size W2 (W4.alloc (.cells (ints .u8 zB).toArray 91)) := hS4.alloc hXge _
          have BZ : Blk (W4.alloc (.cells (ints .u8 zB).toArray 91)) W4.heap.size 91 (ints .u8 zB) := Blk.new _ _ _
          refine reg_value 17 (.pointer (some ⟨W4.heap.size, 0, none⟩)) (some 8) (W4.alloc (.cells (ints .u8 zB).toArray 91)) (by kernel_rfl) (by kernel_rfl) (exec_alloc 91 (by kernel_rfl) (.agg (ints .u8 zB).toArray) zeroBlk) hS5 ?_
          have THX : World.there (W4.alloc (.cells (ints .u8 zB).toArray 91)) W4.heap.size 0 (ints .u8 cr).length := BZ.there 0 _ (by rw [ints_length, ints_length, HCL.out, zB_length]; omega)
          have BXf : Blk ((W4.alloc (.cells (ints .u8 zB).toArray 91)).setCells W4.heap.size 0 (ints .u8 cr)) W4.heap.size 91 (ints .u8 cr) := BZ.setWhole _ (by rw [ints_length, ints_length, HCL.out, zB_length])
          have BELf : Below W2.heap.size W2 ((W4.alloc (.cells (ints .u8 zB).toArray 91)).setCells W4.heap.size 0 (ints .u8 cr)) := below_setCells (ints .u8 cr) hS5 0 hXge
          refine reg_store 18 ((W4.alloc (.cells (ints .u8 zB).toArray 91)).setCells W4.heap.size 0 (ints .u8 cr)) (by kernel_rfl) (by kernel_rfl) (exec_store_mid 91 (.tmp 8) (.tmp 37) (by kernel_rfl) W4.heap.size 0 (ints .u8 cr) (by kernel_rfl) (by kernel_rfl) THX ICR.out (ints_oneCell _ _)) BELf ?_
          refine reg_now 19 (.bool fb) (some 9) hQN BELf (by kernel_rfl) (by kernel_rfl) (fun w => by kernel_rfl) ?_
          refine reg_done (by kernel_rfl) (hN _ _ ?_)
          clear THX BZ
          generalize (W4.alloc (.cells (ints .u8 zB).toArray 91)).setCells W4.heap.size 0 (ints .u8 cr) = WF at *
          clear hS5 hS4 hb4 hS
          generalize W4.heap.size = X at *
          have HX6 := Lib.hid (HX2.out.next BELf)
          have BW6 := Lib.hid (BW.out.below BELf BW.out.lt)
          have ST6 := Lib.hid (ST2.out.trans (Step.of_below BELf (Nat.le_refl _)))
          have BX6 := Lib.hid BXf
          have hWl : W < W2.heap.size := BW.out.lt
          have hXd : d ≠ X := by have := HX2.out.hd.lt; omega
          have hXW : W ≠ X := by omega
          have hXB : dB ≠ X := by have := HX2.out.hu.lt; omega
          clear hQN hN BXf BELf
          generalize hact : Act.put _ (some 9) (.bool fb) = act
          simp only [Act.put, List.setIfInBounds_toArray, List.set_cons_succ, List.set_cons_zero] at hact
          subst hact
          clear HX2 BW ST2 HU2
          generalize WF = W6 at *
          go_upto_region 6 with (fail)
          refine region_begin (opsOf Tryd.f13 6) (Csx d W X (dcells sz sB dB sc dc (.slice (some ⟨g, 0, none⟩) m c) left) x cr) (by kernel_rfl) (by kernel_rfl) 9 (by kernel_rfl) ?_
          intro Q' hQN hN
          have hS : Csx d W X (dcells sz sB dB sc dc (.slice (some ⟨g, 0, none⟩) m c) left) x cr W6.drew := ⟨HX6.out.hd, BW6.out, BX6.out⟩
          obtain ⟨th, bs, ub⟩ := store_block (w := W6.drew) HX6.out.hu HX6.out.lu HXO.out.1 HCL.out
          refine reg_now 0 (.pointer (some ⟨d, 0, none⟩)) (some 39) hQN hS (by kernel_rfl) (by kernel_rfl) (fun w => by kernel_rfl) ?_
          refine reg_now 1 (.pointer (some ⟨d, 0, none⟩)) (some 40) hQN hS (by kernel_rfl) (by kernel_rfl) (fun w => by kernel_rfl) ?_
          refine reg_now 2 (.pointer (some ⟨d, 1, none⟩)) (some 41) hQN hS (by kernel_rfl) (by kernel_rfl) (fun w => by kernel_rfl) ?_
          refine reg_nowIf 3 (.slice (some ⟨dB, 0, none⟩) sz dc) (some 42) hQN hS (by kernel_rfl) (by kernel_rfl) (fun w' hw => exec_load_cell 67 (.tmp 41) (by kernel_rfl) d 1 (by kernel_rfl) _ (hw.d.cell rfl) _ Tryd.underlying67 rfl) ?_
          refine reg_now 4 (.pointer (some ⟨W, 0, none⟩)) (some 43) hQN hS (by kernel_rfl) (by kernel_rfl) (fun w => by kernel_rfl) ?_
          refine reg_nowIf 5 (.int .i64 (x.1 : Int)) (some 44) hQN hS (by kernel_rfl) (by kernel_rfl) (fun w' hw => exec_load_cell 3 (.tmp 43) (by kernel_rfl) W 0 (by kernel_rfl) _ (hw.w.cell rfl) _ Tryd.underlying3 rfl) ?_
          refine reg_nowIf 6 (.agg (ints .u8 cr).toArray) (some 45) hQN hS (by kernel_rfl) (by kernel_rfl) (fun w' hw => exec_load_mid 91 (.tmp 8) (by kernel_rfl) X 0 (by kernel_rfl) (ints .u8 cr) _ hw.x.whole Tryd.underlying91 rfl ICR.out) ?_
          refine reg_now 7 (.pointer (some ⟨dB, 0 + 64 * x.1, none⟩)) (some 46) hQN hS (by kernel_rfl) (by kernel_rfl) (fun w' => exec_indexAt 67 (.tmp 42) (.tmp 44) (by kernel_rfl) _ _ _ (by kernel_rfl) (by kernel_rfl) (run_at_block dB 0 sz dc x.1 HXO.out.1 w')) ?_
          refine reg_store 8 (W6.drew.setCells dB (0 + 64 * x.1) (ints .u8 cr)) (by kernel_rfl) (by kernel_rfl) (exec_store_mid 91 (.tmp 46) (.tmp 45) (by kernel_rfl) dB (0 + 64 * x.1) (ints .u8 cr) (by kernel_rfl) (by kernel_rfl) th ICR.out (ints_oneCell _ _)) ⟨ub.blk hS.d HX6.out.n2, ub.blk hS.w (by omega), ub.blk hS.x (Ne.symm hXB)⟩ ?_
          refine reg_done (by kernel_rfl) (hN _ _ ?_)
          have ub' : Upd dB W6 (W6.drew.setCells dB (0 + 64 * x.1) (ints .u8 cr)) := ((Upd.refl dB W6).drew).setCells _ _
          have HX7 : Hid (Dkx (W6.drew.setCells dB (0 + 64 * x.1) (ints .u8 cr)) d sz sB dB sc dc rs rd (.slice (some ⟨g, 0, none⟩) m c) seen (crashK dur pend picks (k + 1)) pend left) := by
            unfold Hid
            rw [HCK.out]
            exact HX6.out.durable HXO.out.1 HCL.out ub' bs
          have ST7 : Hid (Step (foot d sB dB (.slice (some ⟨g, 0, none⟩) m c)) w (foot d sB dB (.slice (some ⟨g, 0, none⟩) m c)) (W6.drew.setCells dB (0 + 64 * x.1) (ints .u8 cr))) := ST6.out.trans (Step.of_upd ub' (by simp [foot]))
          clear hQN hN hS th bs ub ub' HX6 ST6 BW6 BX6
          generalize W6.drew.setCells dB (0 + 64 * x.1) (ints .u8 cr) = W7 at *
          generalize hact : Act.put _ none undef = act
          simp only [Act.put, List.setIfInBounds_toArray, List.set_cons_succ, List.set_cons_zero] at hact
          subst hact
          cases fb with
          | true =>
            go_wp2
            exact ⟨⟨k + 1, by omega, by go_num, by rw [HKN2.out, if_pos rfl]; go_num, HX7.out, ST7.out⟩, by simp [intOf]; omega⟩
          | false =>
            go_wp2
            exact ⟨⟨k + 1, by omega, by go_num, by rw [HKN2.out, if_neg (by decide)]; rfl, HX7.out, ST7.out⟩, by simp [intOf]; omega⟩
        · have hXge : W2.heap.size ≤ W2.drew.heap.size := Nat.le_refl _
          have hS3 : Below W2.heap.size W2 (W2.drew.alloc (.cells (ints .u8 zB).toArray 91)) := hS.alloc hXge _
          have BZ3 : Blk (W2.drew.alloc (.cells (ints .u8 zB).toArray 91)) W2.drew.heap.size 91 (ints .u8 zB) := Blk.new _ _ _
          refine op_value 17 (.pointer (some ⟨W2.drew.heap.size, 0, none⟩)) (some 8) (W2.drew.alloc (.cells (ints .u8 zB).toArray 91)) (by kernel_rfl) (by kernel_rfl) (exec_alloc 91 (by kernel_rfl) (.agg (ints .u8 zB).toArray) zeroBlk) ⟨hS3, ?_⟩
          refine reg_call 13 47 #[.agg (ints .u8 bf).toArray, .agg (ints .u8 x.2).toArray, .int .u8 p] (some 36) _ (by kernel_rfl) (by kernel_rfl) (by kernel_rfl) (HCW.out _) ?_
          rintro e W4 ⟨rfl, hb4⟩
          have hS4 : Below W2.heap.size W2 W4 := hS3.trans (hb4.mono (by simp))
          refine ⟨_, rfl, hS4, ?_⟩
          have BZ := BZ3.below hb4 BZ3.lt
          refine reg_now 14 (.tuple #[.agg (ints .u8 cr).toArray, .bool fb]) (some 22) hQN hS4 (by kernel_rfl) (by kernel_rfl) (fun w => by kernel_rfl) ?_
          refine reg_now 15 (.agg (ints .u8 cr).toArray) (some 37) hQN hS4 (by kernel_rfl) (by kernel_rfl) (fun w => by kernel_rfl) ?_
          refine reg_now 16 (.bool fb) (some 38) hQN hS4 (by kernel_rfl) (by kernel_rfl) (fun w => by kernel_rfl) ?_
          have THX : World.there (W4) W2.drew.heap.size 0 (ints .u8 cr).length := BZ.there 0 _ (by rw [ints_length, ints_length, HCL.out, zB_length]; omega)
          have BXf : Blk ((W4).setCells W2.drew.heap.size 0 (ints .u8 cr)) W2.drew.heap.size 91 (ints .u8 cr) := BZ.setWhole _ (by rw [ints_length, ints_length, HCL.out, zB_length])
          have BELf : Below W2.heap.size W2 ((W4).setCells W2.drew.heap.size 0 (ints .u8 cr)) := below_setCells (ints .u8 cr) hS4 0 hXge
          refine reg_store 18 ((W4).setCells W2.drew.heap.size 0 (ints .u8 cr)) (by kernel_rfl) (by kernel_rfl) (exec_store_mid 91 (.tmp 8) (.tmp 37) (by kernel_rfl) W2.drew.heap.size 0 (ints .u8 cr) (by kernel_rfl) (by kernel_rfl) THX ICR.out (ints_oneCell _ _)) BELf ?_
          refine reg_now 19 (.bool fb) (some 9) hQN BELf (by kernel_rfl) (by kernel_rfl) (fun w => by kernel_rfl) ?_
          refine reg_done (by kernel_rfl) (hN _ _ ?_)
          clear THX BZ
          generalize (W4).setCells W2.drew.heap.size 0 (ints .u8 cr) = WF at *
          clear hS4 hb4 hS hS3 BZ3
          generalize W2.drew.heap.size = X at *
          have HX6 := Lib.hid (HX2.out.next BELf)
          have BW6 := Lib.hid (BW.out.below BELf BW.out.lt)
          have ST6 := Lib.hid (ST2.out.trans (Step.of_below BELf (Nat.le_refl _)))
          have BX6 := Lib.hid BXf
          have hWl : W < W2.heap.size := BW.out.lt
          have hXd : d ≠ X := by have := HX2.out.hd.lt; omega
          have hXW : W ≠ X := by omega
          have hXB : dB ≠ X := by have := HX2.out.hu.lt; omega
          clear hQN hN BXf BELf
          generalize hact : Act.put _ (some 9) (.bool fb) = act
          simp only [Act.put, List.setIfInBounds_toArray, List.set_cons_succ, List.set_cons_zero] at hact
          subst hact
          clear HX2 BW ST2 HU2
          generalize WF = W6 at *
          go_upto_region 6 with (fail)
          refine region_begin (opsOf Tryd.f13 6) (Csx d W X (dcells sz sB dB sc dc (.slice (some ⟨g, 0, none⟩) m c) left) x cr) (by kernel_rfl) (by kernel_rfl) 9 (by kernel_rfl) ?_
          intro Q' hQN hN
          have hS : Csx d W X (dcells sz sB dB sc dc (.slice (some ⟨g, 0, none⟩) m c) left) x cr W6.drew := ⟨HX6.out.hd, BW6.out, BX6.out⟩
          obtain ⟨th, bs, ub⟩ := store_block (w := W6.drew) HX6.out.hu HX6.out.lu HXO.out.1 HCL.out
          refine reg_now 0 (.pointer (some ⟨d, 0, none⟩)) (some 39) hQN hS (by kernel_rfl) (by kernel_rfl) (fun w => by kernel_rfl) ?_
          refine reg_now 1 (.pointer (some ⟨d, 0, none⟩)) (some 40) hQN hS (by kernel_rfl) (by kernel_rfl) (fun w => by kernel_rfl) ?_
          refine reg_now 2 (.pointer (some ⟨d, 1, none⟩)) (some 41) hQN hS (by kernel_rfl) (by kernel_rfl) (fun w => by kernel_rfl) ?_
          refine reg_nowIf 3 (.slice (some ⟨dB, 0, none⟩) sz dc) (some 42) hQN hS (by kernel_rfl) (by kernel_rfl) (fun w' hw => exec_load_cell 67 (.tmp 41) (by kernel_rfl) d 1 (by kernel_rfl) _ (hw.d.cell rfl) _ Tryd.underlying67 rfl) ?_
          refine reg_now 4 (.pointer (some ⟨W, 0, none⟩)) (some 43) hQN hS (by kernel_rfl) (by kernel_rfl) (fun w => by kernel_rfl) ?_
          refine reg_nowIf 5 (.int .i64 (x.1 : Int)) (some 44) hQN hS (by kernel_rfl) (by kernel_rfl) (fun w' hw => exec_load_cell 3 (.tmp 43) (by kernel_rfl) W 0 (by kernel_rfl) _ (hw.w.cell rfl) _ Tryd.underlying3 rfl) ?_
          refine reg_nowIf 6 (.agg (ints .u8 cr).toArray) (some 45) hQN hS (by kernel_rfl) (by kernel_rfl) (fun w' hw => exec_load_mid 91 (.tmp 8) (by kernel_rfl) X 0 (by kernel_rfl) (ints .u8 cr) _ hw.x.whole Tryd.underlying91 rfl ICR.out) ?_
          refine reg_now 7 (.pointer (some ⟨dB, 0 + 64 * x.1, none⟩)) (some 46) hQN hS (by kernel_rfl) (by kernel_rfl) (fun w' => exec_indexAt 67 (.tmp 42) (.tmp 44) (by kernel_rfl) _ _ _ (by kernel_rfl) (by kernel_rfl) (run_at_block dB 0 sz dc x.1 HXO.out.1 w')) ?_
          refine reg_store 8 (W6.drew.setCells dB (0 + 64 * x.1) (ints .u8 cr)) (by kernel_rfl) (by kernel_rfl) (exec_store_mid 91 (.tmp 46) (.tmp 45) (by kernel_rfl) dB (0 + 64 * x.1) (ints .u8 cr) (by kernel_rfl) (by kernel_rfl) th ICR.out (ints_oneCell _ _)) ⟨ub.blk hS.d HX6.out.n2, ub.blk hS.w (by omega), ub.blk hS.x (Ne.symm hXB)⟩ ?_
          refine reg_done (by kernel_rfl) (hN _ _ ?_)
          have ub' : Upd dB W6 (W6.drew.setCells dB (0 + 64 * x.1) (ints .u8 cr)) := ((Upd.refl dB W6).drew).setCells _ _
          have HX7 : Hid (Dkx (W6.drew.setCells dB (0 + 64 * x.1) (ints .u8 cr)) d sz sB dB sc dc rs rd (.slice (some ⟨g, 0, none⟩) m c) seen (crashK dur pend picks (k + 1)) pend left) := by
            unfold Hid
            rw [HCK.out]
            exact HX6.out.durable HXO.out.1 HCL.out ub' bs
          have ST7 : Hid (Step (foot d sB dB (.slice (some ⟨g, 0, none⟩) m c)) w (foot d sB dB (.slice (some ⟨g, 0, none⟩) m c)) (W6.drew.setCells dB (0 + 64 * x.1) (ints .u8 cr))) := ST6.out.trans (Step.of_upd ub' (by simp [foot]))
          clear hQN hN hS th bs ub ub' HX6 ST6 BW6 BX6
          generalize W6.drew.setCells dB (0 + 64 * x.1) (ints .u8 cr) = W7 at *
          generalize hact : Act.put _ none undef = act
          simp only [Act.put, List.setIfInBounds_toArray, List.set_cons_succ, List.set_cons_zero] at hact
          subst hact
          cases fb with
          | true =>
            go_wp2
            exact ⟨⟨k + 1, by omega, by go_num, by rw [HKN2.out, if_pos rfl]; go_num, HX7.out, ST7.out⟩, by simp [intOf]; omega⟩
          | false =>
            go_wp2
            exact ⟨⟨k + 1, by omega, by go_num, by rw [HKN2.out, if_neg (by decide)]; rfl, HX7.out, ST7.out⟩, by simp [intOf]; omega⟩
      · have hXge : W2.heap.size ≤ W2.drew.heap.size := Nat.le_refl _
        have hS3 : Below W2.heap.size W2 (W2.drew.alloc (.cells (ints .u8 zB).toArray 91)) := hS.alloc hXge _
        have BZ3 : Blk (W2.drew.alloc (.cells (ints .u8 zB).toArray 91)) W2.drew.heap.size 91 (ints .u8 zB) := Blk.new _ _ _
        refine op_value 17 (.pointer (some ⟨W2.drew.heap.size, 0, none⟩)) (some 8) (W2.drew.alloc (.cells (ints .u8 zB).toArray 91)) (by kernel_rfl) (by kernel_rfl) (exec_alloc 91 (by kernel_rfl) (.agg (ints .u8 zB).toArray) zeroBlk) ⟨hS3, ?_⟩
        refine reg_call 12 48 #[.slice ua pn uc, .int .i64 (k : Int)] (some 35) _ (by kernel_rfl) (by kernel_rfl) (by kernel_rfl) (pick_walk (.slice ua pn uc) picks k _ (HU2.out.below hS3 (Nat.le_refl _)) HPL.out (by omega)) ?_
        rintro e w' ⟨rfl, rfl⟩
        refine ⟨_, rfl, hS3, ?_⟩
        rw [hp.out]
        refine reg_call 13 47 #[.agg (ints .u8 bf).toArray, .agg (ints .u8 x.2).toArray, .int .u8 p] (some 36) _ (by kernel_rfl) (by kernel_rfl) (by kernel_rfl) (HCW.out _) ?_
        rintro e W4 ⟨rfl, hb4⟩
        have hS4 : Below W2.heap.size W2 W4 := hS3.trans (hb4.mono (by simp))
        refine ⟨_, rfl, hS4, ?_⟩
        have BZ := BZ3.below hb4 BZ3.lt
        refine reg_now 14 (.tuple #[.agg (ints .u8 cr).toArray, .bool fb]) (some 22) hQN hS4 (by kernel_rfl) (by kernel_rfl) (fun w => by kernel_rfl) ?_
        refine reg_now 15 (.agg (ints .u8 cr).toArray) (some 37) hQN hS4 (by kernel_rfl) (by kernel_rfl) (fun w => by kernel_rfl) ?_
        refine reg_now 16 (.bool fb) (some 38) hQN hS4 (by kernel_rfl) (by kernel_rfl) (fun w => by kernel_rfl) ?_
        have THX : World.there (W4) W2.drew.heap.size 0 (ints .u8 cr).length := BZ.there 0 _ (by rw [ints_length, ints_length, HCL.out, zB_length]; omega)
        have BXf : Blk ((W4).setCells W2.drew.heap.size 0 (ints .u8 cr)) W2.drew.heap.size 91 (ints .u8 cr) := BZ.setWhole _ (by rw [ints_length, ints_length, HCL.out, zB_length])
        have BELf : Below W2.heap.size W2 ((W4).setCells W2.drew.heap.size 0 (ints .u8 cr)) := below_setCells (ints .u8 cr) hS4 0 hXge
        refine reg_store 18 ((W4).setCells W2.drew.heap.size 0 (ints .u8 cr)) (by kernel_rfl) (by kernel_rfl) (exec_store_mid 91 (.tmp 8) (.tmp 37) (by kernel_rfl) W2.drew.heap.size 0 (ints .u8 cr) (by kernel_rfl) (by kernel_rfl) THX ICR.out (ints_oneCell _ _)) BELf ?_
        refine reg_now 19 (.bool fb) (some 9) hQN BELf (by kernel_rfl) (by kernel_rfl) (fun w => by kernel_rfl) ?_
        refine reg_done (by kernel_rfl) (hN _ _ ?_)
        clear THX BZ
        generalize (W4).setCells W2.drew.heap.size 0 (ints .u8 cr) = WF at *
        clear hS4 hb4 hS hS3 BZ3
        generalize W2.drew.heap.size = X at *
        have HX6 := Lib.hid (HX2.out.next BELf)
        have BW6 := Lib.hid (BW.out.below BELf BW.out.lt)
        have ST6 := Lib.hid (ST2.out.trans (Step.of_below BELf (Nat.le_refl _)))
        have BX6 := Lib.hid BXf
        have hWl : W < W2.heap.size := BW.out.lt
        have hXd : d ≠ X := by have := HX2.out.hd.lt; omega
        have hXW : W ≠ X := by omega
        have hXB : dB ≠ X := by have := HX2.out.hu.lt; omega
        clear hQN hN BXf BELf
        generalize hact : Act.put _ (some 9) (.bool fb) = act
        simp only [Act.put, List.setIfInBounds_toArray, List.set_cons_succ, List.set_cons_zero] at hact
        subst hact
        clear HX2 BW ST2 HU2
        generalize WF = W6 at *
        go_upto_region 6 with (fail)
        refine region_begin (opsOf Tryd.f13 6) (Csx d W X (dcells sz sB dB sc dc (.slice (some ⟨g, 0, none⟩) m c) left) x cr) (by kernel_rfl) (by kernel_rfl) 9 (by kernel_rfl) ?_
        intro Q' hQN hN
        have hS : Csx d W X (dcells sz sB dB sc dc (.slice (some ⟨g, 0, none⟩) m c) left) x cr W6.drew := ⟨HX6.out.hd, BW6.out, BX6.out⟩
        obtain ⟨th, bs, ub⟩ := store_block (w := W6.drew) HX6.out.hu HX6.out.lu HXO.out.1 HCL.out
        refine reg_now 0 (.pointer (some ⟨d, 0, none⟩)) (some 39) hQN hS (by kernel_rfl) (by kernel_rfl) (fun w => by kernel_rfl) ?_
        refine reg_now 1 (.pointer (some ⟨d, 0, none⟩)) (some 40) hQN hS (by kernel_rfl) (by kernel_rfl) (fun w => by kernel_rfl) ?_
        refine reg_now 2 (.pointer (some ⟨d, 1, none⟩)) (some 41) hQN hS (by kernel_rfl) (by kernel_rfl) (fun w => by kernel_rfl) ?_
        refine reg_nowIf 3 (.slice (some ⟨dB, 0, none⟩) sz dc) (some 42) hQN hS (by kernel_rfl) (by kernel_rfl) (fun w' hw => exec_load_cell 67 (.tmp 41) (by kernel_rfl) d 1 (by kernel_rfl) _ (hw.d.cell rfl) _ Tryd.underlying67 rfl) ?_
        refine reg_now 4 (.pointer (some ⟨W, 0, none⟩)) (some 43) hQN hS (by kernel_rfl) (by kernel_rfl) (fun w => by kernel_rfl) ?_
        refine reg_nowIf 5 (.int .i64 (x.1 : Int)) (some 44) hQN hS (by kernel_rfl) (by kernel_rfl) (fun w' hw => exec_load_cell 3 (.tmp 43) (by kernel_rfl) W 0 (by kernel_rfl) _ (hw.w.cell rfl) _ Tryd.underlying3 rfl) ?_
        refine reg_nowIf 6 (.agg (ints .u8 cr).toArray) (some 45) hQN hS (by kernel_rfl) (by kernel_rfl) (fun w' hw => exec_load_mid 91 (.tmp 8) (by kernel_rfl) X 0 (by kernel_rfl) (ints .u8 cr) _ hw.x.whole Tryd.underlying91 rfl ICR.out) ?_
        refine reg_now 7 (.pointer (some ⟨dB, 0 + 64 * x.1, none⟩)) (some 46) hQN hS (by kernel_rfl) (by kernel_rfl) (fun w' => exec_indexAt 67 (.tmp 42) (.tmp 44) (by kernel_rfl) _ _ _ (by kernel_rfl) (by kernel_rfl) (run_at_block dB 0 sz dc x.1 HXO.out.1 w')) ?_
        refine reg_store 8 (W6.drew.setCells dB (0 + 64 * x.1) (ints .u8 cr)) (by kernel_rfl) (by kernel_rfl) (exec_store_mid 91 (.tmp 46) (.tmp 45) (by kernel_rfl) dB (0 + 64 * x.1) (ints .u8 cr) (by kernel_rfl) (by kernel_rfl) th ICR.out (ints_oneCell _ _)) ⟨ub.blk hS.d HX6.out.n2, ub.blk hS.w (by omega), ub.blk hS.x (Ne.symm hXB)⟩ ?_
        refine reg_done (by kernel_rfl) (hN _ _ ?_)
        have ub' : Upd dB W6 (W6.drew.setCells dB (0 + 64 * x.1) (ints .u8 cr)) := ((Upd.refl dB W6).drew).setCells _ _
        have HX7 : Hid (Dkx (W6.drew.setCells dB (0 + 64 * x.1) (ints .u8 cr)) d sz sB dB sc dc rs rd (.slice (some ⟨g, 0, none⟩) m c) seen (crashK dur pend picks (k + 1)) pend left) := by
          unfold Hid
          rw [HCK.out]
          exact HX6.out.durable HXO.out.1 HCL.out ub' bs
        have ST7 : Hid (Step (foot d sB dB (.slice (some ⟨g, 0, none⟩) m c)) w (foot d sB dB (.slice (some ⟨g, 0, none⟩) m c)) (W6.drew.setCells dB (0 + 64 * x.1) (ints .u8 cr))) := ST6.out.trans (Step.of_upd ub' (by simp [foot]))
        clear hQN hN hS th bs ub ub' HX6 ST6 BW6 BX6
        generalize W6.drew.setCells dB (0 + 64 * x.1) (ints .u8 cr) = W7 at *
        generalize hact : Act.put _ none undef = act
        simp only [Act.put, List.setIfInBounds_toArray, List.set_cons_succ, List.set_cons_zero] at hact
        subst hact
        cases fb with
        | true =>
          go_wp2
          exact ⟨⟨k + 1, by omega, by go_num, by rw [HKN2.out, if_pos rfl]; go_num, HX7.out, ST7.out⟩, by simp [intOf]; omega⟩
        | false =>
          go_wp2
          exact ⟨⟨k + 1, by omega, by go_num, by rw [HKN2.out, if_neg (by decide)]; rfl, HX7.out, ST7.out⟩, by simp [intOf]; omega⟩
    · have q1 : ¬ (k : Int) < (m : Int) := by omega
      have e : k = m := by omega
      subst e
      rw [hdF.out] at HXK
      have c2 := HXK.out.c2
      clear q1 hlt
      have q1 : ¬ (k : Int) < (k : Int) := by omega
      go_wp2
      go_loopw [56] (fun i wr => ∃ j : Nat, j ≤ k ∧ i = .int .i64 (j : Int) ∧ Dkx wr d sz sB dB sc dc rs rd (.slice a k c) (seenK seen durF pend j) durF pend left ∧ Step (foot d sB dB (.slice a k c)) w (foot d sB dB (.slice a k c)) wr) (fun i _ => k - (intOf i).toNat)
      case atStart => exact ⟨0, by omega, rfl, HXK.out, HST.out⟩
      case round =>
      obtain ⟨j, hj, rfl, hx, hst⟩ := hrel
      have HXJ := Lib.hid hx
      have HSJ := Lib.hid hst
      clear hx hst HXK HST c2
      by_cases hlt : j < k
      · have q2 : (j : Int) < (k : Int) := by omega
        have hkl : Hid (j < pend.length) := by unfold Hid; rw [hmm.out]; exact hlt
        obtain ⟨x, hxe⟩ : ∃ x, Hid (wrAt pend j = x) := ⟨_, rfl⟩
        have HXO : Hid (x.1 < sz ∧ x.2.length = 64) := by unfold Hid; rw [← hxe.out]; exact wrAt_ok HOK.out hkl.out
        obtain ⟨g, hg⟩ : ∃ g, a = some ⟨g, 0, none⟩ := by
          rcases HXJ.out.hp.2 with ⟨e, h0⟩ | ⟨g, cap, cur, e, _⟩
          · have := hkl.out; omega
          · obtain ⟨e1, -, -⟩ := Value.slice.inj e
            exact ⟨g, e1⟩
        subst hg
        have HRG : Hid (wr.rangeAt g (0 + 65 * j) (wcells x)) := by
          unfold Hid
          rw [← hxe.out]
          exact own_range HXJ.out.hp HOK.out hkl.out
        have IW : Hid ((Tryd.prog.info? 93).map (·.size) = some (wcells x).length) := infoWr x HXO.out.2
        have HSN : Hid (seenK seen durF pend (j + 1) = putB (seenK seen durF pend j) x.1 (getB durF x.1)) := by unfold Hid; rw [seenK, hxe.out]
        generalize seenK seen durF pend j = sj at *
        obtain ⟨bf, hbf⟩ : ∃ b, Hid (getB durF x.1 = b) := ⟨_, rfl⟩
        have HBF : Hid (bf.length = 64) := by unfold Hid; rw [← hbf.out]; exact getB_length HXJ.out.lu HXO.out.1
        have IBF : Hid ((Tryd.prog.info? 91).map (·.size) = some (ints .u8 bf).length) := infoBlk bf HBF.out
        rw [hbf.out] at HSN
        obtain ⟨HX2a, BWa, BE2a, THa⟩ := HXJ.out.boxed x HXO.out.2
        have HX2 := Lib.hid HX2a
        have BW := Lib.hid BWa
        have TH := Lib.hid THa
        have ST2 := Lib.hid (HSJ.out.trans (Step.of_below BE2a (Nat.le_refl _)))
        clear HX2a BWa BE2a THa
        have hdW := HXJ.out.hd.lt
        have hsBW := HXJ.out.hs.lt
        go_upto_region 12 with (fail)
        refine lin_begin (opsOf Tryd.f13 12) (by kernel_rfl) ?_
        refine lin_now 0 (.pointer (some ⟨g, 0 + 65 * j, none⟩)) (some 58) (by kernel_rfl) (by kernel_rfl) (exec_indexAt 87 (.tmp 54) (.tmp 56) (by kernel_rfl) _ _ _ (by kernel_rfl) (by kernel_rfl) (run_at_write g 0 k c j hlt _)) ?_
        refine lin_now 1 (.agg (wcells x).toArray) (some 59) (by kernel_rfl) (by kernel_rfl) (exec_load_mid 93 (.tmp 58) (by kernel_rfl) g (0 + 65 * j) (by kernel_rfl) (wcells x) _ HRG.out Tryd.underlying93 rfl IW.out) ?_
        refine lin_value 2 (.pointer (some ⟨wr.heap.size, 0, none⟩)) (some 11) (wr.alloc (.cells zW.toArray 93)) (by kernel_rfl) (by kernel_rfl) (exec_alloc 93 (by kernel_rfl) (.agg zW.toArray) zeroWr) ?_
        refine lin_store 3 ((wr.alloc (.cells zW.toArray 93)).setCells wr.heap.size 0 (wcells x)) (by kernel_rfl) (by kernel_rfl) (exec_store_mid 93 (.tmp 11) (.tmp 59) (by kernel_rfl) wr.heap.size 0 (wcells x) (by kernel_rfl) (by kernel_rfl) TH.out IW.out (wcells_ok x)) ?_
        refine lin_done 4 (by kernel_rfl) ?_
        clear TH HRG HXJ HSJ
        generalize (wr.alloc (.cells zW.toArray 93)).setCells wr.heap.size 0 (wcells x) = W2 at *
        generalize wr.heap.size = W at *
        generalize hact : Act.put _ none undef = act
        simp only [Act.put, List.setIfInBounds_toArray, List.set_cons_succ, List.set_cons_zero] at hact
        subst hact
        go_upto_region 13 with (fail)
        refine region_begin (opsOf Tryd.f13 13) (Ksx d W dB (dcells sz sB dB sc dc (.slice (some ⟨g, 0, none⟩) k c) left) x (ints .u8 durF ++ rd)) (by kernel_rfl) (by kernel_rfl) 16 (by kernel_rfl) ?_
        intro Q' hQN hN
        have hS : Ksx d W dB (dcells sz sB dB sc dc (.slice (some ⟨g, 0, none⟩) k c) left) x (ints .u8 durF ++ rd) W2.drew := ⟨HX2.out.hd, BW.out, HX2.out.hu⟩
        obtain ⟨th, bs, ub⟩ := store_block (w := W2.drew) HX2.out.hs HX2.out.ls HXO.out.1 HBF.out
        refine reg_now 0 (.pointer (some ⟨d, 0, none⟩)) (some 60) hQN hS (by kernel_rfl) (by kernel_rfl) (fun w => by kernel_rfl) ?_
        refine reg_now 1 (.pointer (some ⟨d, 0, none⟩)) (some 61) hQN hS (by kernel_rfl) (by kernel_rfl) (fun w => by kernel_rfl) ?_
        refine reg_now 2 (.pointer (some ⟨d, 0, none⟩)) (some 62) hQN hS (by kernel_rfl) (by kernel_rfl) (fun w => by kernel_rfl) ?_
        refine reg_nowIf 3 (.slice (some ⟨sB, 0, none⟩) sz sc) (some 63) hQN hS (by kernel_rfl) (by kernel_rfl) (fun w' hw => exec_load_cell 67 (.tmp 62) (by kernel_rfl) d 0 (by kernel_rfl) _ (hw.d.cell rfl) _ Tryd.underlying67 rfl) ?_
        refine reg_now 4 (.pointer (some ⟨W, 0, none⟩)) (some 64) hQN hS (by kernel_rfl) (by kernel_rfl) (fun w => by kernel_rfl) ?_
        refine reg_nowIf 5 (.int .i64 (x.1 : Int)) (some 65) hQN hS (by kernel_rfl) (by kernel_rfl) (fun w' hw => exec_load_cell 3 (.tmp 64) (by kernel_rfl) W 0 (by kernel_rfl) _ (hw.w.cell rfl) _ Tryd.underlying3 rfl) ?_
        refine reg_now 6 (.pointer (some ⟨d, 0, none⟩)) (some 66) hQN hS (by kernel_rfl) (by kernel_rfl) (fun w => by kernel_rfl) ?_
        refine reg_now 7 (.pointer (some ⟨d, 0, none⟩)) (some 67) hQN hS (by kernel_rfl) (by kernel_rfl) (fun w => by kernel_rfl) ?_
        refine reg_now 8 (.pointer (some ⟨d, 1, none⟩)) (some 68) hQN hS (by kernel_rfl) (by kernel_rfl) (fun w => by kernel_rfl) ?_
        refine reg_nowIf 9 (.slice (some ⟨dB, 0, none⟩) sz dc) (some 69) hQN hS (by kernel_rfl) (by kernel_rfl) (fun w' hw => exec_load_cell 67 (.tmp 68) (by kernel_rfl) d 1 (by kernel_rfl) _ (hw.d.cell rfl) _ Tryd.underlying67 rfl) ?_
        refine reg_now 10 (.pointer (some ⟨W, 0, none⟩)) (some 70) hQN hS (by kernel_rfl) (by kernel_rfl) (fun w => by kernel_rfl) ?_
        refine reg_nowIf 11 (.int .i64 (x.1 : Int)) (some 71) hQN hS (by kernel_rfl) (by kernel_rfl) (fun w' hw => exec_load_cell 3 (.tmp 70) (by kernel_rfl) W 0 (by kernel_rfl) _ (hw.w.cell rfl) _ Tryd.underlying3 rfl) ?_
        refine reg_now 12 (.pointer (some ⟨dB, 0 + 64 * x.1, none⟩)) (some 72) hQN hS (by kernel_rfl) (by kernel_rfl) (fun w' => exec_indexAt 67 (.tmp 69) (.tmp 71) (by kernel_rfl) _ _ _ (by kernel_rfl) (by kernel_rfl) (run_at_block dB 0 sz dc x.1 HXO.out.1 w')) ?_
        refine reg_nowIf 13 (.agg (ints .u8 bf).toArray) (some 73) hQN hS (by kernel_rfl) (by kernel_rfl) (fun w' hw => exec_load_mid 91 (.tmp 72) (by kernel_rfl) dB (0 + 64 * x.1) (by kernel_rfl) (ints .u8 bf) _ (hbf.out ▸ getB_range hw.u HLF.out HXO.out.1) Tryd.underlying91 rfl IBF.out) ?_
        refine reg_now 14 (.pointer (some ⟨sB, 0 + 64 * x.1, none⟩)) (some 74) hQN hS (by kernel_rfl) (by kernel_rfl) (fun w' => exec_indexAt 67 (.tmp 63) (.tmp 65) (by kernel_rfl) _ _ _ (by kernel_rfl) (by kernel_rfl) (run_at_block sB 0 sz sc x.1 HXO.out.1 w')) ?_
        refine reg_store 15 (W2.drew.setCells sB (0 + 64 * x.1) (ints .u8 bf)) (by kernel_rfl) (by kernel_rfl) (exec_store_mid 91 (.tmp 74) (.tmp 73) (by kernel_rfl) sB (0 + 64 * x.1) (ints .u8 bf) (by kernel_rfl) (by kernel_rfl) th IBF.out (ints_oneCell _ _)) ⟨ub.blk hS.d HX2.out.n1, ub.blk hS.w (by omega), ub.blk hS.u (Ne.symm HX2.out.n3)⟩ ?_
        refine reg_done (by kernel_rfl) (hN _ _ ?_)
        have ub' : Upd sB W2 (W2.drew.setCells sB (0 + 64 * x.1) (ints .u8 bf)) := ((Upd.refl sB W2).drew).setCells _ _
        have HX3 : Hid (Dkx (W2.drew.setCells sB (0 + 64 * x.1) (ints .u8 bf)) d sz sB dB sc dc rs rd (.slice (some ⟨g, 0, none⟩) k c) (seenK seen durF pend (j + 1)) durF pend left) := by
          unfold Hid
          rw [HSN.out]
          exact HX2.out.seen' HXO.out.1 HBF.out ub' bs
        have ST3 : Hid (Step (foot d sB dB (.slice (some ⟨g, 0, none⟩) k c)) w (foot d sB dB (.slice (some ⟨g, 0, none⟩) k c)) (W2.drew.setCells sB (0 + 64 * x.1) (ints .u8 bf))) := ST2.out.trans (Step.of_upd ub' (by simp [foot]))
        clear hQN hN hS th bs ub ub' HX2 ST2 BW
        generalize W2.drew.setCells sB (0 + 64 * x.1) (ints .u8 bf) = W3 at *
        generalize hact : Act.put _ none undef = act
        simp only [Act.put, List.setIfInBounds_toArray, List.set_cons_succ, List.set_cons_zero] at hact
        subst hact
        go_wp2
        exact ⟨⟨j + 1, by omega, by go_num, HX3.out, ST3.out⟩, by simp [intOf]; omega⟩
      · have q2 : ¬ (j : Int) < (k : Int) := by omega
        have e : j = k := by omega
        subst e
        have c2 := HXJ.out.c2
        have f2 := HXJ.out.hd.free 2
        have c3 := HXJ.out.c3
        have f3 := HXJ.out.hd.free 3
        have HN := Lib.hid (HXJ.out.none.limit (-1))
        have ST : Hid (Step (foot d sB dB (.slice a j c)) w (foot d sB dB (.slice none 0 0)) _) := (HSJ.out.trans ((Step.of_upd ((Upd.refl d wr).setCell 2 (.slice none 0 0)) (by simp [foot])).trans (Step.of_upd ((Upd.refl d _).setCell 3 (.int .i64 (-1))) (by simp [foot])))).sub (foot_none d sB dB _)
        clear HXJ HSJ
        go_wp2
        go_ret
        exact ⟨rfl, _, ⟨sB, dB, sc, dc, rs, rd, _, rfl, HN.out⟩, ST.out⟩
end Go.Proofs.YtngpmilojfbpmaaDoor
/- package disk: New, Twin, Image. -/
namespace Go.Proofs.YtngpmilojfbpmaaDoor
open Go Go.RowKit
set_option maxRecDepth 100000

/-- A slice of sectors in new memory. -/
def BlkNew (l : List Int) (n : Nat) (w : World) (e : Ending) (w' : World) : Prop := ∃ D cap rest, e = .returned (.slice (some ⟨D, 0, none⟩) n cap) ∧ w.heap.size ≤ D ∧ Blk w' D 91 (ints .u8 l ++ rest) ∧ Below w.heap.size w w'
theorem bclone_walk (pb n c : Nat) (l : List Int) (r : List Value) (w : World) (hb : Blk w pb 91 (ints .u8 l ++ r)) (hl : l.length = 64 * n) (h0 : 1 ≤ n) (hn : n ≤ 4096) : Calls Tryd.prog 63 #[.slice (some ⟨pb, 0, none⟩) n c] w (BlkNew l n w) := by
  obtain ⟨i0, hi, hz0, hz1, hz2⟩ := info_parts infoBlock3
  have HR : Hid ((w.alloc (.cells #[] 91)).rangeAt pb 0 (ints .u8 l)) := fun j v hv => by
    refine (hb.alloc _).cell ?_
    rw [Nat.zero_add, List.getElem?_append_left (List.getElem?_eq_some_iff.1 hv).1]
    exact hv
  have HFL : Hid ((ints .u8 l).length = n * 64) := by unfold Hid; rw [ints_length, hl]; omega
  have HI := Lib.hid hi
  have HZ0 := Lib.hid hz0
  have HZ1 := Lib.hid hz1
  have HZ2 := Lib.hid hz2
  have HOE : Hid ((w.alloc (.cells #[] 91)).ownsRow w.heap.size 91 64 (.slice (some ⟨w.heap.size, 0, none⟩) 0 0) 0 []) :=
    ⟨rfl, Or.inr ⟨w.heap.size, 0, #[], rfl, Nat.le_refl _, heap_alloc_last w _, Nat.le_refl _, by unfold maxLen; omega, rfl, rfl⟩⟩
  clear hi hz0 hz1 hz2 hb hl
  have hnil : ∀ w, (binOp BinOp.eql 67 (.slice (some ⟨pb, 0, none⟩) n c) (.slice none 0 0)).run Tryd.prog w = .ok (.bool false) w := fun w => by kernel_rfl
  go_enter Tryd.func63, Tryd.ntmps63
  go_wp2_with (with_reducible refine wpList_append_own _ (o := ⟨some 7, _, _, _, _, _⟩) ?a1 (.tmp 5) (.tmp 6) 67 ?a2 w.heap.size 91 i0 _ 64 64 Tryd.underlying67 HI.out HZ0.out HZ1.out HZ2.out ?a3 ?a4 (.slice (some ⟨w.heap.size, 0, none⟩) 0 0) 0 [] ?a5 HOE.out ⟨pb, 0, none⟩ n c (ints .u8 l) ?a6 HFL.out ?a7 (ints_one _ _) ?a8 ?a9 ?a10 ?_)
  case a1 => rfl
  case a2 => rfl
  case a3 => rfl
  case a4 => decide
  all_goals try (case a5 => rfl)
  all_goals try (case a6 => rfl)
  case a7 => intro j v hv; rw [Addr.add_mid]; exact HR.out j v hv
  case a8 => unfold maxLen; omega
  case a9 => omega
  case a10 => simp
  intro v' w' h1 h2 h3
  have HB : Hid (Below w.heap.size w w') := ((Below.refl w.heap.size w).alloc (Nat.le_refl _) _).grown h2 (by simp) (fun k hk => by simp [Value.ownBlock] at hk; omega)
  obtain ⟨hle, hw⟩ := h1
  rcases hw with ⟨rfl, h0'⟩ | ⟨g, cap, cur, rfl, hb, hg, hc, hcm, hcs, ht⟩
  · exfalso; omega
  · have HD : Hid (Blk w' g 91 (ints .u8 l ++ cur.toList.drop ((0 + n) * 64))) := by
      unfold Hid Blk
      rw [hg]
      have e : (ints .u8 l ++ cur.toList.drop ((0 + n) * 64)).toArray = cur := by
        have h4 : ints .u8 l = cur.toList.take ((0 + n) * 64) := by simpa using ht.symm
        rw [h4, List.take_append_drop]
      rw [e]
    have HG := Lib.hid hb
    clear h2 h3 hle hb hg hc hcm hcs ht
    go_wp2
    go_ret
    exact ⟨g, cap, _, by simp, HG.out, HD.out, HB.out⟩
/-- A new disk. -/
def DkNew (sz : Nat) (l : List Int) (w : World) (e : Ending) (w' : World) : Prop := ∃ d F, e = .returned (.pointer (some ⟨d, 0, none⟩)) ∧ Dk w' F d sz l l [] (-1) ∧ Step [] w F w'
theorem holding_walk (pb n c : Nat) (l : List Int) (r : List Value) (w : World) (hb : Blk w pb 91 (ints .u8 l ++ r)) (hl : l.length = 64 * n) (h0 : 1 ≤ n) (hn : n ≤ 4096) : Calls Tryd.prog 32 #[.slice (some ⟨pb, 0, none⟩) n c] w (DkNew n l w) := by
  have HB := Lib.hid hb
  have HL := Lib.hid hl
  clear hb hl
  go_enter Tryd.func32, Tryd.ntmps32
  go_wp2_with fail
  refine (bclone_walk pb n c l r _ HB.out HL.out h0 hn).mono ?_
  rintro e w1 ⟨D1, cap1, rest1, rfl, hD1, hb1, hbe1⟩
  have B1 := Lib.hid hb1
  have BE1 := Lib.hid hbe1
  have HB1 := Lib.hid (HB.out.below hbe1 HB.out.lt)
  clear hb1 hbe1
  go_wp2_with fail
  refine (bclone_walk pb n c l r _ HB1.out HL.out h0 hn).mono ?_
  rintro e w2 ⟨D2, cap2, rest2, rfl, hD2, hb2, hbe2⟩
  have B2 := Lib.hid hb2
  have BE2 := Lib.hid (BE1.out.trans (hbe2.mono BE1.out.size))
  have B12 := Lib.hid (B1.out.below hbe2 B1.out.lt)
  have h12 : D1 < w1.heap.size := B1.out.lt
  have h22 : D2 < w2.heap.size := B2.out.lt
  have hsz := hbe2.size
  clear hb2 hbe2 B1 BE1 HB1
  go_wp2
  go_ret
  have NB : Blk (w2.alloc (.cells #[.slice (some ⟨D1, 0, none⟩) n cap1, .slice (some ⟨D2, 0, none⟩) n cap2, .slice none 0 0, .int .i64 (-1)] 89)) w2.heap.size 89 (dcells n D1 D2 cap1 cap2 (.slice none 0 0) (-1)) := Blk.new2 _ _ _ _ _ rfl rfl
  have BEF := BE2.out.alloc BE2.out.size (.cells #[.slice (some ⟨D1, 0, none⟩) n cap1, .slice (some ⟨D2, 0, none⟩) n cap2, .slice none 0 0, .int .i64 (-1)] 89)
  have hw2 := BE2.out.size
  refine ⟨w2.heap.size, foot w2.heap.size D1 D2 (.slice none 0 0), rfl, ⟨D1, D2, cap1, cap2, rest1, rest2, _, rfl, ⟨NB, B12.out.alloc _, B2.out.alloc _, ⟨rfl, .inl ⟨rfl, rfl⟩⟩, by omega, by omega, by omega, (fun g hg => by cases hg), HL.out, HL.out, (fun x hx => by simp at hx), h0, hn⟩⟩, ⟨BEF.os, BEF.tape, BEF.output, BEF.size, fun k hk _ => BEF.block k hk, fun k hk => ?_⟩⟩
  simp only [foot, Value.ownBlock, Option.toList_none, List.mem_cons, List.not_mem_nil, or_false] at hk
  rcases hk with rfl | rfl | rfl
  · exact .inr (by omega)
  · exact .inr hD1
  · exact .inr (by omega)
theorem new_no (n : Int) (hn : n < 1 ∨ 4096 < n) (w : World) : Calls Tryd.prog 9 #[.int .i64 n] w fun e w' => e = .returned (.tuple #[.pointer none, .int .i64 11]) ∧ w = w' := by
  by_cases h : n < 1
  · go_enter Tryd.func9, Tryd.ntmps9
    go_wp2
    go_ret2
    exact ⟨rfl, rfl⟩
  · have h2 : 4096 < n := by omega
    go_enter Tryd.func9, Tryd.ntmps9
    go_wp2
    go_ret2
    exact ⟨rfl, rfl⟩
set_option maxHeartbeats 1000000 in
theorem new_yes (n : Nat) (h0 : 1 ≤ n) (hn : n ≤ 4096) (w : World) : Calls Tryd.prog 9 #[.int .i64 (n : Int)] w fun e w' => ∃ d F, e = .returned (.tuple #[.pointer (some ⟨d, 0, none⟩), .int .i64 0]) ∧ Dk w' F d n (zeros (64 * n)) (zeros (64 * n)) [] (-1) ∧ Step [] w F w' := by
  obtain ⟨i0, hi, hz0, hz1, hz2⟩ := info_parts infoBlock3
  have HI := Lib.hid hi
  have HZ0 := Lib.hid hz0
  have HZ1 := Lib.hid hz1
  have hB6 : Hid (i0.bytes * n ≤ 281474976710656) := by unfold Hid; rw [hz2]; omega
  have hB7 : Hid (n ≤ maxLen) := by unfold Hid maxLen; omega
  have q1 : ¬ ((n : Int) < 1) := by omega
  have q2 : ¬ ((4096 : Int) < (n : Int)) := by omega
  clear hi hz0 hz1 hz2
  go_enter Tryd.func9, Tryd.ntmps9
  go_wp2_with (refine wpList_make_full _ rfl _ _ 67 rfl w.heap.size 91 i0 (.agg (ints .u8 zB).toArray) 64 Tryd.underlying67 HI.out HZ0.out HZ1.out _ _ _ _ n rfl rfl rfl rfl hB6.out hB7.out (Nat.le_refl _) ?_)
  intro w1 ho1 hg1
  rw [made_zeros] at ho1
  have BE1 : Hid (Below w.heap.size w w1) := (Below.refl w.heap.size w).grown hg1 (Nat.le_refl _) (fun k hk => by cases hk)
  have B1 : Hid (Blk w1 w.heap.size 91 (ints .u8 (zeros (64 * n)) ++ [])) := by
    obtain ⟨h1, h2⟩ := ho1
    rcases h2 with ⟨e, _⟩ | ⟨g, cap, cur, e, _, hg, _, _, hs, ht⟩
    · cases e
    · obtain ⟨e1, -, e3⟩ := Value.slice.inj e
      obtain rfl : w.heap.size = g := by simpa using e1
      subst e3
      unfold Hid Blk
      rw [hg, List.append_nil, ← ht]
      rw [List.take_of_length_le (by simp; omega)]
  clear ho1 hg1
  go_wp2_with fail
  refine (holding_walk w.heap.size n n (zeros (64 * n)) [] _ B1.out (zeros_length _) h0 hn).mono ?_
  rintro e w2 ⟨d, F, rfl, hd, hs⟩
  have HD := Lib.hid hd
  have HS : Hid (Step [] w F w2) := (Step.of_below BE1.out (Nat.le_refl _)).trans hs
  clear hd hs BE1 B1
  go_wp2
  go_ret2
  exact ⟨d, F, rfl, HD.out, HS.out⟩
end Go.Proofs.YtngpmilojfbpmaaDoor
