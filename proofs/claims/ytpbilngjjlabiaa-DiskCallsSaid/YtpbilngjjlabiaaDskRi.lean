/- The reference's disk: Image, Flush. -/
import Derived.Test.YtpbilngjjlabiaaDskRd
namespace Go.Proofs.Ytpbilngjjlabiaa
open Go Go.RowKit
set_option maxRecDepth 100000

/-- New bytes, in a block of their own. -/
def NewB (l : List Int) (w : World) (e : Ending) (w' : World) : Prop :=
  ∃ g cap rs, e = .returned (.slice (some ⟨g, 0, none⟩) l.length cap) ∧ w.heap.size ≤ g ∧ Blk w' g 5 (ints .u8 l ++ rs) ∧ l.length ≤ cap ∧ Below w.heap.size w w'
theorem copy_newb {zs : List Int} {w w' : World} {e : Ending} (h : CopyPost zs w e w') (hz : 0 < zs.length) : NewB zs w e w' := by
  obtain ⟨v, rfl, ho, hb⟩ := h
  rcases ho.2 with ⟨_, h0⟩ | ⟨g, cap, cur, rfl, h1, h2, h3, h4, h5, h6⟩
  · omega
  · refine ⟨g, cap, cur.toList.drop (zs.length * 1), rfl, h1, ?_, h3, hb⟩
    unfold Blk
    rw [h2, ← h6, List.take_append_drop]
theorem applyK_next {dur : List Int} {p : List Wr} {k : Nat} {x : Wr} (h : wrAt p k = x) (hx : x.2.length = 64) : putP (applyK dur p k) x 0 64 = applyK dur p (k + 1) := by
  rw [applyK, h, putP_all hx]
set_option maxHeartbeats 2000000 in
theorem rimage_walk (r sz : Nat) (F : List Nat) (last : List Int) (pend : List Wr) (left : Int) (w : World) (h : Rk w F r sz last pend left) (hm : pend.length ≤ 1000000) :
    Calls Try.prog 23 #[.pointer (some ⟨r, 0, none⟩)] w (NewB (applyK last pend pend.length) w) := by
  obtain ⟨lB, lc, rl, pv, rfl, hx⟩ := h
  have HX := Lib.hid hx
  have c0 := hx.c0
  have hone := hx.one
  have hbig := hx.big
  have BI : Hid (BytesIn w (.slice (some ⟨lB, 0, none⟩) (64 * sz) lc) last) := by
    refine ⟨some ⟨lB, 0, none⟩, lc, by rw [hx.ls], by rw [hx.ls]; exact hx.lc, fun _ => ⟨lB, 0, rfl, hx.hl.lt, fun j v hv => ?_⟩⟩
    rw [Nat.zero_add]
    refine hx.hl.cell ?_
    rw [List.getElem?_append_left (List.getElem?_eq_some_iff.1 hv).1]
    exact hv
  have HLS := Lib.hid hx.ls
  have HOK := Lib.hid hx.ok
  obtain ⟨a, c, hpv⟩ := hx.pv'
  obtain ⟨m, hmm⟩ : ∃ m, Hid (pend.length = m) := ⟨_, rfl⟩
  rw [hmm.out] at hm hpv ⊢
  subst hpv
  clear hx
  obtain ⟨L, hL⟩ : ∃ L, Hid (64 * sz = L) := ⟨_, rfl⟩
  rw [hL.out] at c0 BI
  go_enter Try.func23, Try.ntmps23
  go_wp2_with fail
  refine (copyb_walk _ last w BI.out trivial (by rw [HLS.out]; omega)).mono ?_
  intro e w1 hcp
  obtain ⟨g, cap, rs, rfl, hg, hbg, hcap, hb1⟩ := copy_newb hcp (by rw [HLS.out]; omega)
  rw [show last.length = L by rw [HLS.out, hL.out]] at hcap ⊢
  have G1 := Lib.hid hbg
  have B1 := Lib.hid hb1
  have HGs := Lib.hid hg
  clear hcp hbg hb1 hg c0 BI
  have c1w := (HX.out.next B1.out).c1
  go_wp2
  go_loopw [4] (fun i wr => ∃ k : Nat, k ≤ m ∧ i = .int .i64 (k : Int) ∧ Blk wr g 5 (ints .u8 (applyK last pend k) ++ rs) ∧ Below w.heap.size w wr) (fun i _ => m - (intOf i).toNat)
  case atStart => exact ⟨0, by omega, rfl, G1.out, B1.out⟩
  case round =>
    obtain ⟨k, hk, rfl, hgk, hbk⟩ := hrel
    have GK := Lib.hid hgk
    have BK := Lib.hid hbk
    have XK : Hid (Rkx wr r sz lB lc rl (.slice a m c) last pend left) := by
      exact HX.out.next hbk
    clear hgk hbk
    have c1 := XK.out.c1
    by_cases hlt : k < m
    · have q1 : (k : Int) < (m : Int) := by omega
      have hkl : Hid (k < pend.length) := by unfold Hid; rw [hmm.out]; exact hlt
      obtain ⟨x, hxe⟩ : ∃ x, Hid (wrAt pend k = x) := ⟨_, rfl⟩
      have HXO : Hid (x.1 < sz ∧ x.2.length = 64) := by unfold Hid; rw [← hxe.out]; exact wrAt_ok HOK.out hkl.out
      obtain ⟨p, hp⟩ : ∃ p, a = some ⟨p, 0, none⟩ := by
        rcases XK.out.hp.2 with ⟨e, h0⟩ | ⟨p, cap, cur, e, _⟩
        · have := hkl.out; omega
        · obtain ⟨e1, -, -⟩ := Value.slice.inj e
          exact ⟨p, e1⟩
      subst hp
      have HRG : Hid (wr.rangeAt p (0 + 65 * k) (wcells x)) := by
        unfold Hid
        rw [← hxe.out]
        exact own_range2 XK.out.hp HOK.out hkl.out
      have IW : Hid ((Try.prog.info? 60).map (·.size) = some (wcells x).length) := infoRwr x HXO.out.2
      go_upto_region 5 with (fail)
      refine lin_begin (opsOf Try.f23 5) (by kernel_rfl) ?_
      refine lin_now 0 (.slice (some ⟨g, 0, none⟩) L cap) (some 19) (by kernel_rfl) (by kernel_rfl) (by kernel_rfl) ?_
      refine lin_now 1 (.pointer (some ⟨r, 0, none⟩)) (some 20) (by kernel_rfl) (by kernel_rfl) (by kernel_rfl) ?_
      refine lin_now 2 (.pointer (some ⟨r, 0, none⟩)) (some 21) (by kernel_rfl) (by kernel_rfl) (by kernel_rfl) ?_
      refine lin_now 3 (.pointer (some ⟨r, 1, none⟩)) (some 22) (by kernel_rfl) (by kernel_rfl) (by kernel_rfl) ?_
      refine lin_now 4 (.slice (some ⟨p, 0, none⟩) m c) (some 23) (by kernel_rfl) (by kernel_rfl) (exec_load_cell 45 (.tmp 22) (by kernel_rfl) r 1 (by kernel_rfl) _ c1 _ Try.underlying45 rfl) ?_
      refine lin_now 5 (.int .i64 (k : Int)) (some 24) (by kernel_rfl) (by kernel_rfl) (by kernel_rfl) ?_
      refine lin_now 6 (.pointer (some ⟨p, 0 + 65 * k, none⟩)) (some 25) (by kernel_rfl) (by kernel_rfl) (exec_indexAt 45 (.tmp 23) (.tmp 24) (by kernel_rfl) _ _ _ (by kernel_rfl) (by kernel_rfl) (run_at_rwr p 0 m c k hlt _)) ?_
      refine lin_now 7 (.agg (wcells x).toArray) (some 26) (by kernel_rfl) (by kernel_rfl) (exec_load_mid 60 (.tmp 25) (by kernel_rfl) p (0 + 65 * k) (by kernel_rfl) (wcells x) _ HRG.out Try.underlying60 rfl IW.out) ?_
      have HAL : Hid ((applyK last pend k).length = 64 * sz) := applyK_length HLS.out HOK.out k (by rw [hmm.out]; omega)
      refine lin_call 8 30 #[.slice (some ⟨g, 0, none⟩) L cap, .agg (wcells x).toArray, .int .i64 0, .int .i64 64] (some 27) _ (by kernel_rfl) (by kernel_rfl) (by kernel_rfl) (rput_walk g L cap 0 64 (applyK last pend k) rs x wr GK.out (by rw [HAL.out, hL.out]) HXO.out.2 (by have := HXO.out.1; have := hL.out; omega) (by omega) (by have := hL.out; omega)) ?_
      rintro e w2 ⟨rfl, hg2, hu2⟩
      refine ⟨_, rfl, ?_⟩
      rw [applyK_next hxe.out HXO.out.2] at hg2
      have G2 := Lib.hid hg2
      have B2 : Hid (Below w.heap.size w w2) := hu2.below BK.out HGs.out BK.out.size
      refine lin_done 9 (by kernel_rfl) ?_
      clear hg2 hu2 HAL IW HRG GK BK XK c1 HX c1w
      generalize hact : Act.put _ (some 27) _ = act
      simp only [Act.put, List.setIfInBounds_toArray, List.set_cons_succ, List.set_cons_zero] at hact
      subst hact
      go_wp2
      exact ⟨⟨k + 1, by omega, by go_num, G2.out, B2.out⟩, by simp [intOf]; omega⟩
    · have q1 : ¬ (k : Int) < (m : Int) := by omega
      have e : k = m := by omega
      subst e
      have HAL : Hid ((applyK last pend k).length = L) := by unfold Hid; rw [← hL.out]; exact applyK_length HLS.out HOK.out k (by rw [hmm.out]; omega)
      go_wp2
      go_ret
      exact ⟨g, cap, rs, by rw [HAL.out]; rfl, HGs.out, GK.out, by rw [HAL.out]; exact hcap, BK.out⟩
set_option maxHeartbeats 1000000 in
theorem rflush_walk (r sz : Nat) (F : List Nat) (last : List Int) (pend : List Wr) (left : Int) (w : World) (h : Rk w F r sz last pend left) (hm : pend.length ≤ 1000000) :
    Calls Try.prog 11 #[.pointer (some ⟨r, 0, none⟩)] w (RkPost F r sz (applyK last pend pend.length) [] left (.tuple #[]) w) := by
  have HR := Lib.hid h
  obtain ⟨lB, lc, rl, pv, rfl, hx⟩ := h
  have HX := Lib.hid hx
  have HAL : Hid ((applyK last pend pend.length).length = 64 * sz) := applyK_length hx.ls hx.ok _ (Nat.le_refl _)
  clear hx
  obtain ⟨al, hal⟩ : ∃ al, Hid (applyK last pend pend.length = al) := ⟨_, rfl⟩
  rw [hal.out] at HAL ⊢
  go_enter Try.func11, Try.ntmps11
  go_wp2_with fail
  refine (rimage_walk r sz _ last pend left w HR.out hm).mono ?_
  rw [hal.out]
  rintro e w1 ⟨g, cap, rs, rfl, hg, hbg, hcap, hb1⟩
  rw [HAL.out] at hcap ⊢
  have X1 := Lib.hid (HX.out.next hb1)
  have c0 := X1.out.c0
  have f0 := X1.out.hd.free 0
  have c1 := X1.out.c1
  have f1 := X1.out.hd.free 1
  have hrw : r < w.heap.size := HX.out.hd.lt
  have FX : Hid (Rkx ((w1.setCell ⟨r, 0, none⟩ (.slice (some ⟨g, 0, none⟩) (64 * sz) cap)).setCell ⟨r, 1, none⟩ (.slice none 0 0)) r sz g cap rs (.slice none 0 0) al [] left) :=
    ⟨(X1.out.hd.set 0 _).set 1 _, (hbg.other (by simp; omega) _).other (by simp; omega) _, ⟨rfl, .inl ⟨rfl, rfl⟩⟩, by omega, (fun g hg => by cases hg), HAL.out, hcap, (fun x hx => by simp at hx), HX.out.one, HX.out.big⟩
  have FS : Hid (Step (rfoot r lB pv) w (rfoot r g (.slice none 0 0)) ((w1.setCell ⟨r, 0, none⟩ (.slice (some ⟨g, 0, none⟩) (64 * sz) cap)).setCell ⟨r, 1, none⟩ (.slice none 0 0))) := by
    have h1 : Step (rfoot r lB pv) w (rfoot r lB pv) ((w1.setCell ⟨r, 0, none⟩ (.slice (some ⟨g, 0, none⟩) (64 * sz) cap)).setCell ⟨r, 1, none⟩ (.slice none 0 0)) :=
      (Step.of_below hb1 (Nat.le_refl _)).trans (Step.of_upd (((Upd.refl r w1).setCell 0 _).setCell 1 _) (by simp [rfoot]))
    refine ⟨h1.os, h1.tape, h1.output, h1.size, h1.block, fun k hk => ?_⟩
    simp only [rfoot, Value.ownBlock, Option.toList_none, List.mem_cons, List.not_mem_nil, or_false] at hk
    rcases hk with rfl | rfl
    · exact .inl (by simp [rfoot])
    · exact .inr hg
  clear X1 hbg hb1 HX HR
  generalize 64 * sz = L at *
  go_wp2
  go_end0
  exact ⟨rfl, _, ⟨g, cap, rs, _, rfl, FX.out⟩, FS.out⟩
end Go.Proofs.Ytpbilngjjlabiaa
