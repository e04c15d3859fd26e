/- Package seal: Data, Highest; the statements' own helper same. -/
import Derived.Test.YtaeghgnhpgkcdaaDoorSealH
namespace Go.Proofs.YtaeghgnhpgkcdaaDoor
open Go Go.RowKit
set_option maxRecDepth 100000

def DataPost (zs : List Int) (w : World) (e : Ending) (w' : World) : Prop := ∃ v, e = .returned v ∧ BytesIn w' v zs ∧ NilOk v ∧ Below w.heap.size w w'
/-- The record bytes of a sector. -/
def dataP (b : List Int) : List Int := (b.drop 10).take (cntP b).toNat
set_option maxHeartbeats 2000000 in
theorem data_yes (b : List Int) (hl : b.length = 64) (hb : isBytes b) (hw : wholeP b) (w : World) :
    Calls Tryd.prog 20 #[.agg (ints .u8 b).toArray] w (DataPost (dataP b) w) := by
  have HL := Lib.hid hl
  have HB := Lib.hid hb
  have IB : Hid ((Tryd.prog.info? 37).map (·.size) = some (ints .u8 b).length) := infoBlk b hl
  have HW : Hid (decide (wholeP b) = true) := decide_eq_true hw
  obtain ⟨n, hn⟩ : ∃ n : Nat, cntP b = (n : Int) := Int.eq_ofNat_of_zero_le (cntP_range hb hl).1
  have n46 : n ≤ 46 := by have := hw.1; omega
  unfold dataP
  rw [hn, Int.toNat_natCast]
  have HN := Lib.hid hn
  obtain ⟨zs, hzs⟩ : ∃ zs, Hid ((b.drop 10).take n = zs) := ⟨_, rfl⟩
  have ZL : Hid (zs.length = n) := by unfold Hid; rw [← hzs.out, List.length_take, List.length_drop, hl]; omega
  rw [hzs.out]
  clear hn
  obtain ⟨B, hB⟩ : ∃ B, Hid (w.heap.size = B) := ⟨_, rfl⟩
  unfold DataPost
  rw [hB.out]
  clear hl hb hw
  go_enter Tryd.func20, Tryd.ntmps20
  go_upto_region 0 with (fail)
  refine lin_begin (opsOf Tryd.f20 0) (by kernel_rfl) ?_
  refine lin_box 0 37 (.tmp 0) (ints .u8 b) (B) (some 1) (by kernel_rfl) (by kernel_rfl) (by kernel_rfl) (by kernel_rfl) hB ?_
  intro w1 b1 be1 hs1
  refine lin_now 1 (.slice none 0 0) (some 2) (by kernel_rfl) (by kernel_rfl) (by kernel_rfl) ?_
  refine lin_done 2 (by kernel_rfl) ?_
  have X1 := Lib.hid b1
  have BE1 := Lib.hid be1
  clear b1 be1
  generalize hact : Act.put _ (some 2) _ = act
  simp only [Act.put, List.setIfInBounds_toArray, List.set_cons_succ, List.set_cons_zero] at hact
  subst hact
  go_upto_region 1 with (fail)
  refine lin_begin (opsOf Tryd.f20 1) (by kernel_rfl) ?_
  refine lin_load 0 37 (.tmp 1) (B) _ (ints .u8 b) (some 4) (by kernel_rfl) (by kernel_rfl) (by kernel_rfl) (by kernel_rfl) X1.out _ Tryd.underlying37 rfl IB.out ?_
  refine lin_call 1 19 #[.agg (ints .u8 b).toArray] (some 5) _ (by kernel_rfl) (by kernel_rfl) (by kernel_rfl) (whole_walk b HL.out HB.out _) ?_
  rintro e w2 ⟨rfl, hb2⟩
  refine ⟨_, rfl, ?_⟩
  rw [HW.out]
  refine lin_now 2 (.bool false) (some 6) (by kernel_rfl) (by kernel_rfl) (by kernel_rfl) ?_
  refine lin_done 3 (by kernel_rfl) ?_
  have X2 := Lib.hid (X1.out.below hb2 X1.out.lt)
  have BE2 := Lib.hid (BE1.out.trans (hb2.mono (by rw [hs1.out]; omega)))
  have hs2 : Hid (B + 1 ≤ w2.heap.size) := by unfold Hid; have := hb2.size; have := hs1.out; omega
  clear X1 BE1 hb2 hs1
  generalize hact : Act.put _ (some 6) _ = act
  simp only [Act.put, List.setIfInBounds_toArray, List.set_cons_succ, List.set_cons_zero] at hact
  subst hact
  obtain ⟨q, hq⟩ : ∃ q, Hid (w2.heap.size = q) := ⟨_, rfl⟩
  go_upto_region 3 with (fail)
  refine lin_begin (opsOf Tryd.f20 3) (by kernel_rfl) ?_
  refine lin_now 0 (.slice (some ⟨B, 8, none⟩) 2 56) (some 7) (by kernel_rfl) (by kernel_rfl) (by kernel_rfl) ?_
  refine lin_call 1 37 #[.slice (some ⟨B, 8, none⟩) 2 56] (some 8) _ (by kernel_rfl) (by kernel_rfl) (by kernel_rfl) (number_walk B 8 2 56 ((b.drop 8).take 2) _ (range_part X2.out 8 2) (by rw [List.length_take, List.length_drop, HL.out]; rfl) (bytes_take (bytes_drop HB.out 8) 2) (by omega)) ?_
  rintro e w' ⟨rfl, rfl⟩
  refine ⟨_, rfl, ?_⟩
  rw [show numB ((b.drop 8).take 2) = (n : Int) from HN.out]
  refine lin_makeb 2 n n q .i64 .i64 (some 9) (by kernel_rfl) (by kernel_rfl) (by kernel_rfl) (Nat.le_refl _) (by omega) hq ?_
  intro w3 b3 be3 hs3
  refine lin_now 3 (.slice (some ⟨q, 0, none⟩) n n) (some 3) (by kernel_rfl) (by kernel_rfl) (by kernel_rfl) ?_
  refine lin_done 4 (by kernel_rfl) ?_
  have q2 : Hid (B + 1 ≤ q) := by unfold Hid; have := hs2.out; have := hq.out; omega
  have X3 := Lib.hid (X2.out.below be3 (by have := q2.out; omega))
  have M3 := Lib.hid b3
  have BE3 := Lib.hid (BE2.out.trans (be3.mono (by have := q2.out; omega)))
  have R3 : Hid (w3.rangeAt B 10 (ints .u8 zs)) := by
    have h := range_part X3.out 10 n
    rw [hzs.out] at h
    exact h
  clear X2 BE2 b3 be3 hs2 hq
  generalize hact : Act.put _ (some 3) _ = act
  simp only [Act.put, List.setIfInBounds_toArray, List.set_cons_succ, List.set_cons_zero] at hact
  subst hact
  go_upto_region 4 with (fail)
  refine lin_begin (opsOf Tryd.f20 4) (by kernel_rfl) ?_
  refine lin_now 0 (.slice (some ⟨q, 0, none⟩) n n) (some 10) (by kernel_rfl) (by kernel_rfl) (by kernel_rfl) ?_
  refine lin_now 1 (.slice (some ⟨B, 10, none⟩) 54 54) (some 11) (by kernel_rfl) (by kernel_rfl) (by kernel_rfl) ?_
  refine lin_copy 2 (some 12) (by kernel_rfl) (by kernel_rfl) 22 22 3 5 q 0 n n B 10 54 54 (by kernel_rfl) Tryd.underlying22 size1Byte (ints .u8 (zeros n)) 5 M3.out (ints .u8 zs) (by rw [ints_length, ZL.out]; exact (Nat.min_eq_right (by omega)).symm) R3.out (by rw [ints_length, ints_length, ZL.out, zeros_length]; omega) (ints_one _ _) ?_
  intro w4 b4 u4
  refine lin_done 3 (by kernel_rfl) ?_
  have e4 : splice (ints .u8 (zeros n)) 0 (ints .u8 zs) = ints .u8 zs := by
    rw [splice_ints, List.take_zero, List.nil_append, Nat.zero_add, ZL.out, zeros_drop, Nat.sub_self, show zeros 0 = [] from rfl, List.append_nil]
  rw [e4] at b4
  have BE4 := Lib.hid (u4.below BE3.out (by have := q2.out; omega) (by have := q2.out; have := hs3.out; omega))
  have M4 : Hid (BytesIn w4 (.slice (some ⟨q, 0, none⟩) n n) zs) := bytes_blk b4 ZL.out
  clear e4 b4 u4 X3 M3 BE3 R3 hs3 q2
  generalize hact : Act.put _ (some 12) _ = act
  simp only [Act.put, List.setIfInBounds_toArray, List.set_cons_succ, List.set_cons_zero] at hact
  subst hact
  go_wp2
  go_ret
  exact ⟨_, rfl, M4.out, trivial, BE4.out⟩
set_option maxHeartbeats 2000000 in
theorem data_no (b : List Int) (hl : b.length = 64) (hb : isBytes b) (hw : ¬ wholeP b) (w : World) :
    Calls Tryd.prog 20 #[.agg (ints .u8 b).toArray] w fun e w' => e = .returned (.slice none 0 0) ∧ Below w.heap.size w w' := by
  have HL := Lib.hid hl
  have HB := Lib.hid hb
  have IB : Hid ((Tryd.prog.info? 37).map (·.size) = some (ints .u8 b).length) := infoBlk b hl
  have HW : Hid (decide (wholeP b) = false) := decide_eq_false hw
  obtain ⟨B, hB⟩ : ∃ B, Hid (w.heap.size = B) := ⟨_, rfl⟩
  have := hB.out
  rw [hB.out]
  clear hl hb hw
  clear this
  go_enter Tryd.func20, Tryd.ntmps20
  go_upto_region 0 with (fail)
  refine lin_begin (opsOf Tryd.f20 0) (by kernel_rfl) ?_
  refine lin_box 0 37 (.tmp 0) (ints .u8 b) (B) (some 1) (by kernel_rfl) (by kernel_rfl) (by kernel_rfl) (by kernel_rfl) hB ?_
  intro w1 b1 be1 hs1
  refine lin_now 1 (.slice none 0 0) (some 2) (by kernel_rfl) (by kernel_rfl) (by kernel_rfl) ?_
  refine lin_done 2 (by kernel_rfl) ?_
  have X1 := Lib.hid b1
  have BE1 := Lib.hid be1
  clear b1 be1
  generalize hact : Act.put _ (some 2) _ = act
  simp only [Act.put, List.setIfInBounds_toArray, List.set_cons_succ, List.set_cons_zero] at hact
  subst hact
  go_upto_region 1 with (fail)
  refine lin_begin (opsOf Tryd.f20 1) (by kernel_rfl) ?_
  refine lin_load 0 37 (.tmp 1) (B) _ (ints .u8 b) (some 4) (by kernel_rfl) (by kernel_rfl) (by kernel_rfl) (by kernel_rfl) X1.out _ Tryd.underlying37 rfl IB.out ?_
  refine lin_call 1 19 #[.agg (ints .u8 b).toArray] (some 5) _ (by kernel_rfl) (by kernel_rfl) (by kernel_rfl) (whole_walk b HL.out HB.out _) ?_
  rintro e w2 ⟨rfl, hb2⟩
  refine ⟨_, rfl, ?_⟩
  rw [HW.out]
  refine lin_now 2 (.bool true) (some 6) (by kernel_rfl) (by kernel_rfl) (by kernel_rfl) ?_
  refine lin_done 3 (by kernel_rfl) ?_
  have X2 := Lib.hid (X1.out.below hb2 X1.out.lt)
  have BE2 := Lib.hid (BE1.out.trans (hb2.mono (by rw [hs1.out]; omega)))
  have hs2 : Hid (B + 1 ≤ w2.heap.size) := by unfold Hid; have := hb2.size; have := hs1.out; omega
  clear X1 BE1 hb2 hs1
  generalize hact : Act.put _ (some 6) _ = act
  simp only [Act.put, List.setIfInBounds_toArray, List.set_cons_succ, List.set_cons_zero] at hact
  subst hact
  go_wp2
  go_ret
  exact ⟨rfl, BE2.out⟩
/-- The generations at both ends of a sector. -/
def endP (b : List Int) : Int := numB ((b.drop 56).take 4)
def mx (x y : Int) : Int := if x < y then y else x
def highK (l : List Int) : Nat → Int
  | 0 => 0
  | k + 1 => mx (mx (highK l k) (genP (getB l k))) (endP (getB l k))
set_option maxHeartbeats 2000000 in
theorem highest_walk (v : Value) (n : Nat) (l : List Int) (w : World) (h : BlksIn w v n l) (hby : isBytes l) (hn : n ≤ 1000000000) :
    Calls Tryd.prog 23 #[v] w fun e w' => e = .returned (.int .i64 (highK l n)) ∧ Below w.heap.size w w' := by
  obtain ⟨a, c, rfl, hc, hl, hp⟩ := h
  have HL := Lib.hid hl
  have HP := Lib.hid hp
  have HBY := Lib.hid hby
  obtain ⟨B, hB⟩ : ∃ B, Hid (w.heap.size = B) := ⟨_, rfl⟩
  rw [hB.out]
  clear hl hp hby
  go_enter Tryd.func23, Tryd.ntmps23
  go_wp2
  go_loopw [8, 5, 3] (fun iv _ hv wr => ∃ (i : Nat), i ≤ n ∧ iv = .int .i64 (i : Int) ∧ hv = .int .i64 (highK l i) ∧ Below B w wr ∧ B ≤ wr.heap.size) (fun iv _ _ _ => n - (intOf iv).toNat)
  case atStart => exact ⟨0, Nat.zero_le _, rfl, rfl, Below.refl _ _, Nat.le_of_eq hB.out.symm⟩
  case round =>
    obtain ⟨i, hi, rfl, rfl, hbel, hsz⟩ := hrel
    have BE := Lib.hid hbel
    have SZ := Lib.hid hsz
    clear hbel hsz
    by_cases hlt : i < n
    · have r1 : (i : Int) < (n : Int) := by omega
      obtain ⟨pb, po, rfl, hb, hr⟩ := HP.out (by omega)
      obtain ⟨x, hx⟩ : ∃ x, Hid (getB l i = x) := ⟨_, rfl⟩
      have GX : Hid (x.length = 64) := by unfold Hid; rw [← hx.out]; exact getB_length HL.out hlt
      have BX : Hid (isBytes x) := by unfold Hid; rw [← hx.out]; exact bytes_take (bytes_drop HBY.out _) _
      have RX : Hid (wr.rangeAt pb (po + 64 * i) (ints .u8 x)) := fun j v hv => by rw [BE.out.cell (p := ⟨pb, po + 64 * i + j, none⟩) (by rw [← hB.out]; exact hb)]; rw [← hx.out] at hv; exact getB_sub hr j v hv
      have IX : Hid ((Tryd.prog.info? 37).map (·.size) = some (ints .u8 x).length) := infoBlk x GX.out
      obtain ⟨q, hq⟩ : ∃ q, Hid (wr.heap.size = q) := ⟨_, rfl⟩
      obtain ⟨hk, hhk⟩ : ∃ h, Hid (highK l i = h) := ⟨_, rfl⟩
      rw [hhk.out]
      clear hb hr
      go_upto_region 4 with (fail)
      refine lin_begin (opsOf Tryd.f23 4) (by kernel_rfl) ?_
      refine lin_now 0 (.pointer (some ⟨pb, po + 64 * i, none⟩)) (some 10) (by kernel_rfl) (by kernel_rfl) (exec_indexAt 23 (.tmp 6) (.tmp 8) (by kernel_rfl) _ _ _ (by kernel_rfl) (by kernel_rfl) (run_at_block pb po n c i hlt wr)) ?_
      refine lin_now 1 (.agg (ints .u8 x).toArray) (some 11) (by kernel_rfl) (by kernel_rfl) (exec_load_mid 37 (.tmp 10) (by kernel_rfl) pb (po + 64 * i) (by kernel_rfl) (ints .u8 x) _ RX.out Tryd.underlying37 rfl IX.out) ?_
      refine lin_alloc 2 37 (ints .u8 zB) (q) (some 5) (by kernel_rfl) (by kernel_rfl) (by kernel_rfl) zeroBlk hq ?_
      intro w1 b1 be1 hs1
      refine lin_put 3 37 (.tmp 5) (.tmp 11) (q) _ (ints .u8 zB) (ints .u8 x) (by kernel_rfl) (by kernel_rfl) (by kernel_rfl) (by kernel_rfl) (by kernel_rfl) b1 (by rw [ints_length, ints_length, GX.out, zB_length]) IX.out (ints_oneCell _ _) ?_
      intro w2 b2 u2
      refine lin_done 4 (by kernel_rfl) ?_
      have M2 := Lib.hid b2
      have BE2 : Hid (Below B w w2) := u2.below (BE.out.trans (be1.mono (by have := SZ.out; have := hq.out; omega))) (by have := SZ.out; have := hq.out; omega) (by have := hs1.out; have := SZ.out; have := hq.out; omega)
      have SZ2 : Hid (B ≤ w2.heap.size) := by unfold Hid; have := BE2.out.size; have := hB.out; omega
      clear BE SZ b1 be1 hs1 b2 u2 hq RX
      generalize hact : Act.put _ none _ = act
      simp only [Act.put, List.setIfInBounds_toArray, List.set_cons_succ, List.set_cons_zero] at hact
      subst hact
      go_upto_region 5 with (fail)
      refine region_begin (opsOf Tryd.f23 5) (fun w' => Blk w' q 37 (ints .u8 x)) (by kernel_rfl) (by kernel_rfl) 9 (by kernel_rfl) ?_
      intro Q' hQN hN
      have hS : Blk w2.drew q 37 (ints .u8 x) := M2.out
      refine reg_now 0 (.int .i64 hk) (some 12) hQN hS (by kernel_rfl) (by kernel_rfl) (fun w => by kernel_rfl) ?_
      refine reg_nowIf 1 (.agg (ints .u8 x).toArray) (some 13) hQN hS (by kernel_rfl) (by kernel_rfl) (fun w' hw => exec_load_mid 37 (.tmp 5) (by kernel_rfl) q 0 (by kernel_rfl) (ints .u8 x) _ hw.whole Tryd.underlying37 rfl IX.out) ?_
      refine reg_nowIf 4 (.agg (ints .u8 x).toArray) (some 16) hQN hS (by kernel_rfl) (by kernel_rfl) (fun w' hw => exec_load_mid 37 (.tmp 5) (by kernel_rfl) q 0 (by kernel_rfl) (ints .u8 x) _ hw.whole Tryd.underlying37 rfl IX.out) ?_
      refine reg_call 2 33 #[.agg (ints .u8 x).toArray] (some 14) _ (by kernel_rfl) (by kernel_rfl) (by kernel_rfl) (firstmark_walk x GX.out _) ?_
      rintro e w3 ⟨rfl, hb3⟩
      have hS3 : Blk w3 q 37 (ints .u8 x) := hS.below hb3 hS.lt
      refine ⟨_, rfl, hS3, ?_⟩
      refine reg_call 3 34 #[.agg (ints .u8 (x.take 8)).toArray] (some 15) _ (by kernel_rfl) (by kernel_rfl) (by kernel_rfl) (mgen_walk (x.take 8) (by rw [List.length_take, GX.out]; rfl) (bytes_take BX.out 8) _) ?_
      rintro e w4 ⟨rfl, hb4⟩
      have hS4 : Blk w4 q 37 (ints .u8 x) := hS3.below hb4 hS3.lt
      refine ⟨_, rfl, hS4, ?_⟩
      refine reg_call 5 38 #[.agg (ints .u8 x).toArray] (some 17) _ (by kernel_rfl) (by kernel_rfl) (by kernel_rfl) (lastmark_walk x GX.out _) ?_
      rintro e w5 ⟨rfl, hb5⟩
      have hS5 : Blk w5 q 37 (ints .u8 x) := hS4.below hb5 hS4.lt
      refine ⟨_, rfl, hS5, ?_⟩
      refine reg_call 6 34 #[.agg (ints .u8 (x.drop 56)).toArray] (some 18) _ (by kernel_rfl) (by kernel_rfl) (by kernel_rfl) (mgen_walk (x.drop 56) (by rw [List.length_drop, GX.out]) (bytes_drop BX.out 56) _) ?_
      rintro e w6 ⟨rfl, hb6⟩
      have hS6 : Blk w6 q 37 (ints .u8 x) := hS5.below hb6 hS5.lt
      refine ⟨_, rfl, hS6, ?_⟩
      rw [show numB ((x.take 8).take 4) = genP x from rfl, show numB ((x.drop 56).take 4) = endP x from rfl]
      generalize hgx : genP x = gx
      generalize hex : endP x = ex
      refine reg_now 7 (.int .i64 (mx (mx hk gx) ex)) (some 19) hQN hS6 (by kernel_rfl) (by kernel_rfl) (fun w => by kernel_rfl) ?_
      refine reg_now 8 (.int .i64 (mx (mx hk gx) ex)) (some 3) hQN hS6 (by kernel_rfl) (by kernel_rfl) (fun w => by kernel_rfl) ?_
      refine reg_done (by kernel_rfl) (hN _ _ ?_)
      have BE6 : Hid (Below B w w6) := ((((BE2.out.drew).trans (hb3.mono SZ2.out)).trans (hb4.mono (Nat.le_trans SZ2.out hb3.size))).trans (hb5.mono (Nat.le_trans (Nat.le_trans SZ2.out hb3.size) hb4.size))).trans (hb6.mono (Nat.le_trans (Nat.le_trans (Nat.le_trans SZ2.out hb3.size) hb4.size) hb5.size))
      have SZ6 : Hid (B ≤ w6.heap.size) := by unfold Hid; have := BE6.out.size; have := hB.out; omega
      have HNX : Hid (highK l (i + 1) = mx (mx hk gx) ex) := by unfold Hid; rw [highK, hx.out, hhk.out, hgx, hex]
      clear hQN hN hS hS3 hS4 hS5 hS6 hb3 hb4 hb5 hb6 BE2 SZ2 M2 hgx hex
      generalize hact : Act.put _ (some 3) _ = act
      simp only [Act.put, List.setIfInBounds_toArray, List.set_cons_succ, List.set_cons_zero] at hact
      subst hact
      go_wp2
      exact ⟨⟨i + 1, by omega, by go_num, by rw [HNX.out], BE6.out, SZ6.out⟩, by simp [intOf]; omega⟩
    · have r1 : ¬ (i : Int) < (n : Int) := by omega
      obtain rfl : i = n := by omega
      go_wp2
      go_ret
      exact ⟨rfl, BE.out⟩
set_option maxHeartbeats 2000000 in
theorem lsame_walk (v1 v2 : Value) (n : Nat) (l1 l2 : List Int) (w : World) (h1 : BlksIn w v1 n l1) (h2 : BlksIn w v2 n l2) (hn : n ≤ 1000000000) :
    Calls Tryd.prog 12 #[v1, v2] w fun e w' => e = .returned (.bool (decide (l1 = l2))) ∧ ∃ d, w' = w.drewN d := by
  obtain ⟨a1, c1, rfl, -, hl1, hp1⟩ := h1
  obtain ⟨a2, c2, rfl, -, hl2, hp2⟩ := h2
  have HL1 := Lib.hid hl1
  have HL2 := Lib.hid hl2
  have HP1 := Lib.hid hp1
  have HP2 := Lib.hid hp2
  have qn : ((n : Int) != (n : Int)) = false := by simp
  clear hl1 hl2 hp1 hp2
  go_enter Tryd.func12, Tryd.ntmps12
  go_wp2
  go_loopw [5] (fun  iv wr => ∃ (i d : Nat), i ≤ n ∧ iv = .int .i64 (i : Int) ∧ Hid (∀ j, j < i → getB l1 j = getB l2 j) ∧ Hid (wr = w.drewN d)) (fun  iv _ => n - (intOf iv).toNat)
  case atStart => exact ⟨0, 0, Nat.zero_le _, rfl, fun j hj => absurd hj (by omega), rfl⟩
  case round =>
    obtain ⟨i, d, hi, rfl, hall, hwr⟩ := hrel
    obtain rfl := hwr.out
    by_cases hlt : i < n
    · have r1 : (i : Int) < (n : Int) := by omega
      obtain ⟨p1, o1, rfl, hb1, hr1⟩ := HP1.out (by omega)
      obtain ⟨p2, o2, rfl, hb2, hr2⟩ := HP2.out (by omega)
      have R1 : Hid (w.rangeAt p1 (o1 + 64 * i) (ints .u8 (getB l1 i))) := getB_sub hr1
      have R2 : Hid (w.rangeAt p2 (o2 + 64 * i) (ints .u8 (getB l2 i))) := getB_sub hr2
      have G1 : Hid ((getB l1 i).length = 64) := getB_length HL1.out hlt
      have G2 : Hid ((getB l2 i).length = 64) := getB_length HL2.out hlt
      obtain ⟨x, hx⟩ : ∃ x, Hid (getB l1 i = x) := ⟨_, rfl⟩
      obtain ⟨y, hy⟩ : ∃ y, Hid (getB l2 i = y) := ⟨_, rfl⟩
      rw [hx.out] at R1 G1
      rw [hy.out] at R2 G2
      have IX : Hid ((Tryd.prog.info? 37).map (·.size) = some (ints .u8 x).length) := infoBlk x G1.out
      have IY : Hid ((Tryd.prog.info? 37).map (·.size) = some (ints .u8 y).length) := infoBlk y G2.out
      clear hb1 hb2 hr1 hr2
      go_upto_region 6 with (fail)
      refine region_begin (opsOf Tryd.f12 6) (fun w' => ∃ m, w' = w.drewN m) (by kernel_rfl) (by kernel_rfl) 9 (by kernel_rfl) ?_
      intro Q' hQN hN
      have hS : ∃ m, (w.drewN d).drew = w.drewN m := ⟨d + 1, rfl⟩
      refine reg_now 0 (.slice (some ⟨p1, o1, none⟩) n c1) (some 17) hQN hS (by kernel_rfl) (by kernel_rfl) (fun w => by kernel_rfl) ?_
      refine reg_now 1 (.int .i64 (i : Int)) (some 18) hQN hS (by kernel_rfl) (by kernel_rfl) (fun w => by kernel_rfl) ?_
      refine reg_now 2 (.pointer (some ⟨p1, o1 + 64 * i, none⟩)) (some 19) hQN hS (by kernel_rfl) (by kernel_rfl) (fun w' => exec_indexAt 23 (.tmp 17) (.tmp 18) (by kernel_rfl) _ _ _ (by kernel_rfl) (by kernel_rfl) (run_at_block p1 o1 n c1 i hlt w')) ?_
      refine reg_nowIf 3 (.agg (ints .u8 x).toArray) (some 20) hQN hS (by kernel_rfl) (by kernel_rfl) (fun w' hw => by obtain ⟨m, rfl⟩ := hw; exact exec_load_mid 37 (.tmp 19) (by kernel_rfl) p1 (o1 + 64 * i) (by kernel_rfl) (ints .u8 x) _ R1.out Tryd.underlying37 rfl IX.out) ?_
      refine reg_now 4 (.slice (some ⟨p2, o2, none⟩) n c2) (some 21) hQN hS (by kernel_rfl) (by kernel_rfl) (fun w => by kernel_rfl) ?_
      refine reg_now 5 (.int .i64 (i : Int)) (some 22) hQN hS (by kernel_rfl) (by kernel_rfl) (fun w => by kernel_rfl) ?_
      refine reg_now 6 (.pointer (some ⟨p2, o2 + 64 * i, none⟩)) (some 23) hQN hS (by kernel_rfl) (by kernel_rfl) (fun w' => exec_indexAt 23 (.tmp 21) (.tmp 22) (by kernel_rfl) _ _ _ (by kernel_rfl) (by kernel_rfl) (run_at_block p2 o2 n c2 i hlt w')) ?_
      refine reg_nowIf 7 (.agg (ints .u8 y).toArray) (some 24) hQN hS (by kernel_rfl) (by kernel_rfl) (fun w' hw => by obtain ⟨m, rfl⟩ := hw; exact exec_load_mid 37 (.tmp 23) (by kernel_rfl) p2 (o2 + 64 * i) (by kernel_rfl) (ints .u8 y) _ R2.out Tryd.underlying37 rfl IY.out) ?_
      refine reg_now 8 (.bool (!decide (x = y))) (some 25) hQN hS (by kernel_rfl) (by kernel_rfl) (fun w' => exec_neq w' (.tmp 20) (.tmp 24) 37 (by kernel_rfl) Tryd.underlying37 Tryd.underlying5 size1Byte eqGuardBlk x y G1.out G2.out (by kernel_rfl) (by kernel_rfl)) ?_
      refine reg_done (by kernel_rfl) (hN _ _ ?_)
      clear hQN hN hS R1 R2 IX IY
      have HD : Hid ((w.drewN d).drew = w.drewN (d + 1)) := rfl
      generalize (w.drewN d).drew = W2 at *
      by_cases hxy : x = y
      · rw [show (!decide (x = y)) = false by rw [decide_eq_true hxy]; rfl]
        have HXY := Lib.hid hxy
        clear hxy
        generalize hact : Act.put _ (some 25) _ = act
        simp only [Act.put, List.setIfInBounds_toArray, List.set_cons_succ, List.set_cons_zero] at hact
        subst hact
        go_wp2
        refine ⟨⟨i + 1, d + 1, by omega, by go_num, fun j hj => ?_, HD⟩, by simp [intOf]; omega⟩
        by_cases e : j = i
        · subst e; rw [hx.out, hy.out, HXY.out]
        · exact hall.out j (by omega)
      · rw [show (!decide (x = y)) = true by rw [decide_eq_false hxy]; rfl]
        have HXY : Hid (decide (l1 = l2) = false) := decide_eq_false (fun e => hxy (by rw [← hx.out, ← hy.out, e]))
        clear hxy
        generalize hact : Act.put _ (some 25) _ = act
        simp only [Act.put, List.setIfInBounds_toArray, List.set_cons_succ, List.set_cons_zero] at hact
        subst hact
        go_wp2
        go_ret
        exact ⟨ret_bool HXY.out.symm, d + 1, HD.out⟩
    · have r1 : ¬ (i : Int) < (n : Int) := by omega
      go_wp2
      go_ret
      exact ⟨ret_bool (decide_eq_true (take_getB HL1.out HL2.out (fun j hj => hall.out j (by omega)))).symm, d, rfl⟩
end Go.Proofs.YtaeghgnhpgkcdaaDoor
