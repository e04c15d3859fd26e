/- TagNodes answers true. -/
import Derived.Test.YtmaobmeaanafcaaDoorTagSam
import Derived.Test.YtmaobmeaanafcaaDoorTagAlv
namespace Go.Proofs.YtmaobmeaanafcaaDoor
open Go Go.RowKit
set_option maxRecDepth 100000

theorem PartsIn.drewN {w : World} {v : Value} {zss : List (List Int)} (h : PartsIn w v zss) (n : Nat) : PartsIn (w.drewN n) v zss := h
theorem below_quiet {w w1 w2 : World} (h : Below w.heap.size w w1) (hq : ∃ n, w2 = w1.drewN n) : Below w.heap.size w w2 := by
  obtain ⟨n, rfl⟩ := hq
  exact h.trans ((below_drewN w1 n).mono h.size)
structure Nd (A B : List (List Int)) (va vb xv yv : Value) (h : Nat) (msg : List Int) (w wr : World) : Prop where
  pa : PartsIn wr va A
  pb : PartsIn wr vb B
  x : BytesIn wr xv (frameL A)
  y : BytesIn wr yv (frameL B)
  hh : HashIs wr h msg
  bel : Below w.heap.size w wr
theorem Nd.next {A B : List (List Int)} {va vb xv yv : Value} {h : Nat} {msg : List Int} {w w1 w2 : World} (t : Nd A B va vb xv yv h msg w w1) (hb : Below w1.heap.size w1 w2) : Nd A B va vb xv yv h msg w w2 :=
  ⟨t.pa.below hb (Nat.le_refl _), t.pb.below hb (Nat.le_refl _), t.x.below hb (Nat.le_refl _), t.y.below hb (Nat.le_refl _), t.hh.below hb t.hh.lt, t.bel.trans (hb.mono t.bel.size)⟩
set_option maxHeartbeats 2000000 in
theorem nodes_main (va vb : Value) (A B : List (List Int)) (kind : Int) (w : World) (ha : PartsIn w va A) (hb : PartsIn w vb B) (hK : KW w) :
    Calls Tryd.prog 8 #[va, vb, .int .u8 kind] w fun e w' => e = .returned (.bool true) ∧ Below w.heap.size w w' := by
  obtain ⟨aa, ca, psa, rfl, -⟩ := id ha
  obtain ⟨ab, cb, psb, rfl, -⟩ := id hb
  have HA := Lib.hid ha
  have HB := Lib.hid hb
  have HK := Lib.hid hK
  obtain ⟨ma, hma⟩ : ∃ m, Hid (A.length = m) := ⟨_, rfl⟩
  obtain ⟨mb, hmb⟩ : ∃ m, Hid (B.length = m) := ⟨_, rfl⟩
  rw [hma.out] at HA ⊢
  rw [hmb.out] at HB ⊢
  clear ha hb hK
  go_enter Tryd.func8, Tryd.ntmps8
  go_wp2_with fail
  refine (talive_walk _ HK.out).mono ?_
  rintro e w1 ⟨rfl, hb1⟩
  have BEL1 := Lib.hid hb1
  clear hb1
  go_wp2_with fail
  refine (rowst_walk _ A _ (HA.out.below BEL1.out (Nat.le_refl _))).mono ?_
  rintro e w2 ⟨r, rfl, hr, rfl⟩
  have HR := Lib.hid hr
  clear hr
  by_cases hr1 : r ≤ 1500
  · have q1 : ¬ ((1500 : Int) < (r : Int)) := by omega
    go_wp2_with fail
    refine (rowst_walk _ B _ (HB.out.below BEL1.out (Nat.le_refl _))).mono ?_
    rintro e w2 ⟨r2, rfl, hr, rfl⟩
    have HR2 := Lib.hid hr
    clear hr
    by_cases hr2 : r2 ≤ 1500
    · have q2 : ¬ ((1500 : Int) < (r2 : Int)) := by omega
      have la : A.flatten.length ≤ 1500 ∧ A.length ≤ 1500 := by have := HR.out hr1; omega
      have lb : B.flatten.length ≤ 1500 ∧ B.length ≤ 1500 := by have := HR2.out hr2; omega
      have LA := Lib.hid la
      have LB := Lib.hid lb
      clear la lb
      go_wp2_with fail
      refine (frame_walk _ A _ (HA.out.below BEL1.out (Nat.le_refl _)) (by have := LA.out; omega) (by have := LA.out; omega)).mono ?_
      rintro e w3 ⟨xv, rfl, hx, hb3⟩
      obtain ⟨fa, fc, rfl, -⟩ := id (owns_bytes hx)
      have BEL3 := Lib.hid (BEL1.out.trans (hb3.mono BEL1.out.size))
      have X3 := Lib.hid (owns_bytes hx)
      clear hx hb3 BEL1
      obtain ⟨mx, hmx⟩ : ∃ m, Hid ((frameL A).length = m) := ⟨_, rfl⟩
      rw [hmx.out] at X3 ⊢
      go_wp2_with fail
      refine (frame_walk _ B _ (HB.out.below BEL3.out (Nat.le_refl _)) (by have := LB.out; omega) (by have := LB.out; omega)).mono ?_
      rintro e w4 ⟨yv, rfl, hy, hb4⟩
      obtain ⟨ga, gc, rfl, -⟩ := id (owns_bytes hy)
      have BEL4 := Lib.hid (BEL3.out.trans (hb4.mono BEL3.out.size))
      have X4 := Lib.hid (X3.out.below hb4 (Nat.le_refl _))
      have Y4 := Lib.hid (owns_bytes hy)
      clear hy hb4 BEL3 X3
      obtain ⟨my, hmy⟩ : ∃ m, Hid ((frameL B).length = m) := ⟨_, rfl⟩
      rw [hmy.out] at Y4 ⊢
      go_wp2_with fail
      refine (new_walk _).mono ?_
      rintro e w5 ⟨h, hh1, rfl, hh2, hb5⟩
      have ND5 : Hid (Nd A B (.slice aa ma ca) (.slice ab mb cb) (.slice fa mx fc) (.slice ga my gc) h [] w w5) :=
        ⟨HA.out.below (BEL4.out.trans (hb5.mono BEL4.out.size)) (Nat.le_refl _), HB.out.below (BEL4.out.trans (hb5.mono BEL4.out.size)) (Nat.le_refl _), X4.out.below hb5 (Nat.le_refl _), Y4.out.below hb5 (Nat.le_refl _), hh2, BEL4.out.trans (hb5.mono BEL4.out.size)⟩
      have XAT : Hid (BytesAt w5 h (.slice fa mx fc) (frameL A)) := (X4.out.at hh1).upd (Upd.of_below hb5 (Nat.le_refl _))
      have YAT : Hid (BytesAt w5 h (.slice ga my gc) (frameL B)) := (Y4.out.at hh1).upd (Upd.of_below hb5 (Nat.le_refl _))
      have hhw : w.heap.size ≤ h := by have := BEL4.out.size; omega
      have hKh : 1 ≠ h := by have := HK.out.lt; omega
      have hlt5 := hh2.lt
      clear hh1 hh2 hb5 BEL4 X4 Y4
      have KW5 := Lib.hid (HK.out.below ND5.out.bel HK.out.lt)
      go_wp2_with fail
      have K1 : Blk ((w5.alloc (.cells #[.int .u8 kind] 5)).alloc (.cells #[.slice (some ⟨w5.heap.size, 0, none⟩) 1 1] 37)) w5.heap.size 5 (ints .u8 [kind]) := (Blk.new2 w5 _ _ _ _ rfl rfl).alloc _
      refine (write_walk h [] [[kind]] _ _ ((ND5.out.hh.alloc _).alloc _) (parts_one (Blk.new2 _ _ _ [_] (w5.heap.size + 1) (by simp) rfl) (by omega) (bytes_blk_at K1 rfl (by omega))) (by simp) ((KW5.out.alloc _).alloc _) hKh).mono ?_
      rintro e w6 ⟨rfl, hh6, hu6⟩
      have ND6 : Hid (Nd A B (.slice aa ma ca) (.slice ab mb cb) (.slice fa mx fc) (.slice ga my gc) h [kind] w w6) := by
        have bel6 : Below w.heap.size w w6 := hu6.below ((ND5.out.bel.alloc ND5.out.bel.size _).alloc (by have := ND5.out.bel.size; simp; omega) _) hhw (by have := ND5.out.bel.size; simp; omega)
        exact ⟨HA.out.below bel6 (Nat.le_refl _), HB.out.below bel6 (Nat.le_refl _), (((XAT.out.alloc _).alloc _).upd hu6).in, (((YAT.out.alloc _).alloc _).upd hu6).in, by simpa using hh6, bel6⟩
      have XAT6 : Hid (BytesAt w6 h (.slice fa mx fc) (frameL A)) := ((XAT.out.alloc _).alloc _).upd hu6
      have YAT6 : Hid (BytesAt w6 h (.slice ga my gc) (frameL B)) := ((YAT.out.alloc _).alloc _).upd hu6
      have hlt6 := ND6.out.hh.lt
      clear K1 hh6 hu6 ND5 XAT YAT KW5
      have KW6 := Lib.hid (HK.out.below ND6.out.bel HK.out.lt)
      have HFL : Hid ((frameL A).length ≤ 10000) := by have := LA.out; unfold Hid; rw [frameL_length]; omega
      have HFLB : Hid ((frameL B).length ≤ 10000) := by have := LB.out; unfold Hid; rw [frameL_length]; omega
      go_wp2_with fail
      refine (write_walk h [kind] [frameL A] _ _ (ND6.out.hh.alloc _) (parts_one (Blk.new2 _ _ _ [_] _ rfl rfl) (by omega) (XAT6.out.alloc _)) (by have := HFL.out; simp; omega) (KW6.out.alloc _) hKh).mono ?_
      rintro e w7 ⟨rfl, hh7, hu7⟩
      have ND7 : Hid (Nd A B (.slice aa ma ca) (.slice ab mb cb) (.slice fa mx fc) (.slice ga my gc) h (kind :: frameL A) w w7) := by
        have bel7 : Below w.heap.size w w7 := hu7.below (ND6.out.bel.alloc ND6.out.bel.size _) hhw (by have := ND6.out.bel.size; simp; omega)
        exact ⟨HA.out.below bel7 (Nat.le_refl _), HB.out.below bel7 (Nat.le_refl _), ((XAT6.out.alloc _).upd hu7).in, ((YAT6.out.alloc _).upd hu7).in, by simpa using hh7, bel7⟩
      clear hh7 hu7 ND6 XAT6 YAT6 KW6
      have KW7 := Lib.hid (HK.out.below ND7.out.bel HK.out.lt)
      go_upto_region 12 with (fail)
      refine lin_begin (opsOf Tryd.f8 12) (by kernel_rfl) ?_
      refine lin_now 0 (.int .u8 kind) (some 36) (by kernel_rfl) (by kernel_rfl) (by kernel_rfl) ?_
      refine lin_now 1 (.slice aa ma ca) (some 37) (by kernel_rfl) (by kernel_rfl) (by kernel_rfl) ?_
      refine lin_call 2 28 #[.int .u8 kind, .slice aa ma ca] (some 38) _ (by kernel_rfl) (by kernel_rfl) (by kernel_rfl) (node_walk kind _ A _ ND7.out.pa (by have := LA.out; omega) (by have := LA.out; omega) KW7.out) ?_
      rintro e w8 ⟨rfl, hb8⟩
      refine ⟨_, rfl, ?_⟩
      have ND8 := Lib.hid (ND7.out.next hb8)
      clear hb8 ND7 KW7
      have KW8 := Lib.hid (HK.out.below ND8.out.bel HK.out.lt)
      refine lin_now 3 (.pointer (some ⟨h, 0, none⟩)) (some 39) (by kernel_rfl) (by kernel_rfl) (by kernel_rfl) ?_
      refine lin_call 4 35 #[.pointer (some ⟨h, 0, none⟩)] (some 40) _ (by kernel_rfl) (by kernel_rfl) (by kernel_rfl) (hsum_walk h (kind :: frameL A) _ ND8.out.hh (by have := HFL.out; simp; omega) KW8.out) ?_
      rintro e w9 ⟨rfl, hb9⟩
      refine ⟨_, rfl, ?_⟩
      have ND9 := Lib.hid (ND8.out.next hb9)
      clear hb9 ND8 KW8
      have HNL := Lib.hid (nodeL_length kind A)
      rw [show Sha.sum (kind :: frameL A) = nodeL kind A from rfl]
      generalize nodeL kind A = nd at HNL ⊢
      refine lin_now 5 (.bool (decide (nd = nd))) (some 41) (by kernel_rfl) (by kernel_rfl) (exec_eql _ (.tmp 38) (.tmp 40) 24 (by kernel_rfl) Tryd.underlying24 Tryd.underlying5 sizeByte guardDigest nd nd HNL.out HNL.out (by kernel_rfl) (by kernel_rfl)) ?_
      rw [show decide (nd = nd) = true from decide_eq_true rfl]
      refine lin_now 6 (.bool true) (some 42) (by kernel_rfl) (by kernel_rfl) (by kernel_rfl) ?_
      refine lin_now 7 (.slice fa mx fc) (some 43) (by kernel_rfl) (by kernel_rfl) (by kernel_rfl) ?_
      refine lin_now 8 (.slice ga my gc) (some 44) (by kernel_rfl) (by kernel_rfl) (by kernel_rfl) ?_
      refine lin_call 9 26 #[.slice fa mx fc, .slice ga my gc] (some 45) _ (by kernel_rfl) (by kernel_rfl) (by kernel_rfl) (sameb_walk _ _ (frameL A) (frameL B) _ ND9.out.x ND9.out.y (by have := HFL.out; omega)) ?_
      rintro e w10 ⟨rfl, n10, rfl⟩
      refine ⟨_, rfl, ?_⟩
      refine lin_now 10 (.slice aa ma ca) (some 46) (by kernel_rfl) (by kernel_rfl) (by kernel_rfl) ?_
      refine lin_now 11 (.slice ab mb cb) (some 47) (by kernel_rfl) (by kernel_rfl) (by kernel_rfl) ?_
      refine lin_call 12 25 #[.slice aa ma ca, .slice ab mb cb] (some 48) _ (by kernel_rfl) (by kernel_rfl) (by kernel_rfl) (same_walk _ _ A B _ (ND9.out.pa.drewN n10) (ND9.out.pb.drewN n10)) ?_
      rintro e w11 ⟨rfl, n11, rfl⟩
      refine ⟨_, rfl, ?_⟩
      have hall : ∀ (C : List (List Int)), C.flatten.length ≤ 1500 → ∀ zs ∈ C, zs.length < 4294967296 := fun C hC zs hz => by
        have := (List.sublist_flatten_of_mem hz).length_le
        omega
      have HQ : decide (frameL A = frameL B) = decide (A = B) := decide_eq_decide.2 (frameL_inj A B (by have := LA.out; omega) (hall A (by have := LA.out; omega)) (by have := LB.out; omega) (hall B (by have := LB.out; omega)))
      rw [HQ]
      clear HQ hall
      generalize decide (A = B) = dq
      refine lin_now 13 (.bool (dq == dq)) (some 49) (by kernel_rfl) (by kernel_rfl) (by kernel_rfl) ?_
      rw [show (dq == dq) = true by cases dq <;> rfl]
      refine lin_now 14 (.bool true) (some 50) (by kernel_rfl) (by kernel_rfl) (by kernel_rfl) ?_
      refine lin_now 15 (.bool true) (some 6) (by kernel_rfl) (by kernel_rfl) (by kernel_rfl) ?_
      refine lin_done 16 (by kernel_rfl) ?_
      have BELF : Hid (Below w.heap.size w ((w9.drewN n10).drewN n11)) := below_quiet (below_quiet ND9.out.bel ⟨_, rfl⟩) ⟨_, rfl⟩
      clear ND9
      generalize (w9.drewN n10).drewN n11 = wf at BELF ⊢
      generalize hact : Act.put _ (some 6) (.bool true) = act
      have h0 : act.tmps.getD 6 undef = .bool true := by rw [← hact]; kernel_rfl
      have hd : act.defers = [] := by rw [← hact]; kernel_rfl
      clear hact
      go_wp2
      refine bodyPost_ret (v := .bool true) ?_ hd ⟨rfl, BELF.out⟩
      rw [results_tmp Tryd.results8, h0]
    · have q2 : (1500 : Int) < (r2 : Int) := by omega
      go_wp2
      go_ret
      exact ⟨rfl, BEL1.out⟩
  · have q1 : (1500 : Int) < (r : Int) := by omega
    go_wp2
    go_ret
    exact ⟨rfl, BEL1.out⟩
end Go.Proofs.YtmaobmeaanafcaaDoor
