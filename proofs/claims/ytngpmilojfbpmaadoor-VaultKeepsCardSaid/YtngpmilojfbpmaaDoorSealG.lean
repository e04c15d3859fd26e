/- Slices of sectors; slices.Equal of them; package seal: claimed. -/
import Derived.Test.YtngpmilojfbpmaaDoorSealF
namespace Go.Proofs.YtngpmilojfbpmaaDoor
open Go Go.RowKit
set_option maxRecDepth 100000

/-- The value v is a slice of n sectors, whose bytes are l. -/
def BlksIn (w : World) (v : Value) (n : Nat) (l : List Int) : Prop :=
  ∃ a cap, v = .slice a n cap ∧ n ≤ cap ∧ l.length = 64 * n ∧ (0 < n → ∃ pb po, a = some ⟨pb, po, none⟩ ∧ pb < w.heap.size ∧ w.rangeAt pb po (ints .u8 l))
theorem BlksIn.below {w w' : World} {v : Value} {n : Nat} {l : List Int} (h : BlksIn w v n l) (hb : Below w.heap.size w w') : BlksIn w' v n l := by
  obtain ⟨a, cap, h1, h2, h3, h4⟩ := h
  refine ⟨a, cap, h1, h2, h3, fun hp => ?_⟩
  obtain ⟨pb, po, h5, h6, h7⟩ := h4 hp
  exact ⟨pb, po, h5, Nat.lt_of_lt_of_le h6 hb.size, fun j u hu => by rw [hb.cell (p := ⟨pb, po + j, none⟩) h6]; exact h7 j u hu⟩
theorem BlksIn.drewN {w : World} {v : Value} {n : Nat} {l : List Int} (h : BlksIn w v n l) (k : Nat) : BlksIn (w.drewN k) v n l := h
theorem blks_blk {w : World} {G n : Nat} {t : TypeId} {l : List Int} (h : Blk w G t (ints .u8 l)) (hl : l.length = 64 * n) : BlksIn w (.slice (some ⟨G, 0, none⟩) n n) n l :=
  ⟨_, n, rfl, Nat.le_refl _, hl, fun _ => ⟨G, 0, rfl, h.lt, h.whole⟩⟩
theorem getB_sub {w : World} {pb po i : Nat} {l : List Int} (h : w.rangeAt pb po (ints .u8 l)) : w.rangeAt pb (po + 64 * i) (ints .u8 (getB l i)) := fun j v hv => by
  have h1 := h (64 * i + j) v (by
    unfold getB at hv
    rw [← ints_take, ← ints_drop, List.getElem?_take] at hv
    split at hv
    · rw [List.getElem?_drop] at hv; exact hv
    · cases hv)
  rw [← Nat.add_assoc] at h1
  exact h1
theorem take_getB {l1 l2 : List Int} {n : Nat} (h1 : l1.length = 64 * n) (h2 : l2.length = 64 * n) (h : ∀ j, j < n → getB l1 j = getB l2 j) : l1 = l2 := by
  have key : ∀ i, i ≤ n → l1.take (64 * i) = l2.take (64 * i) := fun i => by
    induction i with
    | zero => intro _; rw [Nat.mul_zero, List.take_zero, List.take_zero]
    | succ i ih =>
      intro hi
      rw [← take_next, ← take_next, ih (by omega), h i (by omega)]
  have := key n (Nat.le_refl _)
  rwa [List.take_of_length_le (by omega), List.take_of_length_le (by omega)] at this
set_option maxHeartbeats 2000000 in
theorem equal_walk (v1 v2 : Value) (n : Nat) (l1 l2 : List Int) (w : World) (h1 : BlksIn w v1 n l1) (h2 : BlksIn w v2 n l2) (hn : n ≤ 1000000000) :
    Calls Tryd.prog 113 #[v1, v2] w fun e w' => e = .returned (.bool (decide (l1 = l2))) ∧ ∃ d, w' = w.drewN d := by
  obtain ⟨a1, c1, rfl, -, hl1, hp1⟩ := h1
  obtain ⟨a2, c2, rfl, -, hl2, hp2⟩ := h2
  have HL1 := Lib.hid hl1
  have HL2 := Lib.hid hl2
  have HP1 := Lib.hid hp1
  have HP2 := Lib.hid hp2
  have qn : ((n : Int) != (n : Int)) = false := by simp
  clear hl1 hl2 hp1 hp2
  go_enter Tryd.func113, Tryd.ntmps113
  go_wp2
  go_loopw [5, 13] (fun _ iv wr => ∃ (i d : Nat), i ≤ n ∧ iv = .int .i64 (i : Int) ∧ Hid (∀ j, j < i → getB l1 j = getB l2 j) ∧ Hid (wr = w.drewN d)) (fun _ iv _ => n - (intOf iv).toNat)
  case atStart => exact ⟨0, 0, Nat.zero_le _, rfl, fun j hj => absurd hj (by omega), rfl⟩
  case round =>
    obtain ⟨i, d, hi, rfl, hall, hwr⟩ := hrel
    obtain rfl := hwr.out
    by_cases hlt : i < n
    · have r1 : (i : Int) < (n : Int) := by omega
      obtain ⟨p1, o1, rfl, hb1, hr1⟩ := HP1.out (by omega)
      obtain ⟨p2, o2, rfl, hb2, hr2⟩ := HP2.out (by omega)
      have R1 : Hid (w.rangeAt p1 (o1 + 64 * i) (ints .u8 (getB l1 i))) := getB_sub hr1
      have R2 : Hid (w.rangeAt p2 (o2 + 64 * i) (ints .u8 (getB l2 i))) := getB_sub hr2
      have G1 : Hid ((getB l1 i).length = 64) := getB_length HL1.out hlt
      have G2 : Hid ((getB l2 i).length = 64) := getB_length HL2.out hlt
      obtain ⟨x, hx⟩ : ∃ x, Hid (getB l1 i = x) := ⟨_, rfl⟩
      obtain ⟨y, hy⟩ : ∃ y, Hid (getB l2 i = y) := ⟨_, rfl⟩
      rw [hx.out] at R1 G1
      rw [hy.out] at R2 G2
      have IX : Hid ((Tryd.prog.info? 91).map (·.size) = some (ints .u8 x).length) := infoBlk x G1.out
      have IY : Hid ((Tryd.prog.info? 91).map (·.size) = some (ints .u8 y).length) := infoBlk y G2.out
      clear hb1 hb2 hr1 hr2
      go_upto_region 6 with (fail)
      refine region_begin (opsOf Tryd.f113 6) (fun w' => ∃ m, w' = w.drewN m) (by kernel_rfl) (by kernel_rfl) 9 (by kernel_rfl) ?_
      intro Q' hQN hN
      have hS : ∃ m, (w.drewN d).drew = w.drewN m := ⟨d + 1, rfl⟩
      refine reg_now 0 (.slice (some ⟨p1, o1, none⟩) n c1) (some 16) hQN hS (by kernel_rfl) (by kernel_rfl) (fun w => by kernel_rfl) ?_
      refine reg_now 1 (.int .i64 (i : Int)) (some 17) hQN hS (by kernel_rfl) (by kernel_rfl) (fun w => by kernel_rfl) ?_
      refine reg_now 2 (.pointer (some ⟨p1, o1 + 64 * i, none⟩)) (some 18) hQN hS (by kernel_rfl) (by kernel_rfl) (fun w' => exec_indexAt 67 (.tmp 16) (.tmp 17) (by kernel_rfl) _ _ _ (by kernel_rfl) (by kernel_rfl) (run_at_block p1 o1 n c1 i hlt w')) ?_
      refine reg_nowIf 3 (.agg (ints .u8 x).toArray) (some 19) hQN hS (by kernel_rfl) (by kernel_rfl) (fun w' hw => by obtain ⟨m, rfl⟩ := hw; exact exec_load_mid 91 (.tmp 18) (by kernel_rfl) p1 (o1 + 64 * i) (by kernel_rfl) (ints .u8 x) _ R1.out Tryd.underlying91 rfl IX.out) ?_
      refine reg_now 4 (.slice (some ⟨p2, o2, none⟩) n c2) (some 20) hQN hS (by kernel_rfl) (by kernel_rfl) (fun w => by kernel_rfl) ?_
      refine reg_now 5 (.int .i64 (i : Int)) (some 21) hQN hS (by kernel_rfl) (by kernel_rfl) (fun w => by kernel_rfl) ?_
      refine reg_now 6 (.pointer (some ⟨p2, o2 + 64 * i, none⟩)) (some 22) hQN hS (by kernel_rfl) (by kernel_rfl) (fun w' => exec_indexAt 67 (.tmp 20) (.tmp 21) (by kernel_rfl) _ _ _ (by kernel_rfl) (by kernel_rfl) (run_at_block p2 o2 n c2 i hlt w')) ?_
      refine reg_nowIf 7 (.agg (ints .u8 y).toArray) (some 23) hQN hS (by kernel_rfl) (by kernel_rfl) (fun w' hw => by obtain ⟨m, rfl⟩ := hw; exact exec_load_mid 91 (.tmp 22) (by kernel_rfl) p2 (o2 + 64 * i) (by kernel_rfl) (ints .u8 y) _ R2.out Tryd.underlying91 rfl IY.out) ?_
      refine reg_now 8 (.bool (!decide (x = y))) (some 24) hQN hS (by kernel_rfl) (by kernel_rfl) (fun w' => exec_neq w' (.tmp 19) (.tmp 23) 91 (by kernel_rfl) Tryd.underlying91 Tryd.underlying5 size1Byte eqGuardBlk x y G1.out G2.out (by kernel_rfl) (by kernel_rfl)) ?_
      refine reg_done (by kernel_rfl) (hN _ _ ?_)
      clear hQN hN hS R1 R2 IX IY
      have HD : Hid ((w.drewN d).drew = w.drewN (d + 1)) := rfl
      generalize (w.drewN d).drew = W2 at *
      by_cases hxy : x = y
      · rw [show (!decide (x = y)) = false by rw [decide_eq_true hxy]; rfl]
        have HXY := Lib.hid hxy
        clear hxy
        generalize hact : Act.put _ (some 24) _ = act
        simp only [Act.put, List.setIfInBounds_toArray, List.set_cons_succ, List.set_cons_zero] at hact
        subst hact
        go_wp2
        refine ⟨⟨i + 1, d + 1, by omega, by go_num, fun j hj => ?_, HD⟩, by simp [intOf]; omega⟩
        by_cases e : j = i
        · subst e; rw [hx.out, hy.out, HXY.out]
        · exact hall.out j (by omega)
      · rw [show (!decide (x = y)) = true by rw [decide_eq_false hxy]; rfl]
        have HXY : Hid (decide (l1 = l2) = false) := decide_eq_false (fun e => hxy (by rw [← hx.out, ← hy.out, e]))
        clear hxy
        generalize hact : Act.put _ (some 24) _ = act
        simp only [Act.put, List.setIfInBounds_toArray, List.set_cons_succ, List.set_cons_zero] at hact
        subst hact
        go_wp2
        go_ret
        exact ⟨ret_bool HXY.out.symm, d + 1, HD.out⟩
    · have r1 : ¬ (i : Int) < (n : Int) := by omega
      go_wp2
      go_ret
      exact ⟨ret_bool (decide_eq_true (take_getB HL1.out HL2.out (fun j hj => hall.out j (by omega)))).symm, d, rfl⟩
/-- .. of one sector at least. -/
def BlksAt (w : World) (v : Value) (n : Nat) (l : List Int) : Prop :=
  ∃ pb po c, v = .slice (some ⟨pb, po, none⟩) n c ∧ n ≤ c ∧ pb < w.heap.size ∧ w.rangeAt pb po (ints .u8 l) ∧ l.length = 64 * n
theorem BlksIn.at {w : World} {v : Value} {n : Nat} {l : List Int} (h : BlksIn w v n l) (hn : 1 ≤ n) : BlksAt w v n l := by
  obtain ⟨a, cap, h1, h2, h3, h4⟩ := h
  obtain ⟨pb, po, rfl, h5, h6⟩ := h4 (by omega)
  exact ⟨pb, po, cap, h1, h2, h5, h6, h3⟩
/-- The record bytes of the first k sectors. -/
def dataK (l : List Int) : Nat → List Int
  | 0 => []
  | k + 1 => dataK l k ++ ((getB l k).drop 10).take 46
theorem dataK_length {l : List Int} {n : Nat} (hl : l.length = 64 * n) : ∀ k, k ≤ n → (dataK l k).length = 46 * k
  | 0, _ => rfl
  | k + 1, h => by
    rw [dataK, List.length_append, dataK_length hl k (by omega), List.length_take, List.length_drop, getB_length hl (by omega)]
    omega
/-- The length that stands in the first sector. -/
def sizeP (l : List Int) : Nat := (numB ((l.drop 10).take 2)).toNat
def recP (l : List Int) : List Int := ((dataK l (needN (sizeP l))).drop 2).take (sizeP l)
theorem sizeP_int {l : List Int} (h : isBytes l) : numB ((l.drop 10).take 2) = (sizeP l : Int) := by
  have := (numB_range (bytes_take (bytes_drop h 10) 2)).1
  unfold sizeP
  omega
theorem range_cut {w : World} {g o : Nat} {l : List Int} (h : w.rangeAt g o (ints .u8 l)) (a b : Nat) : w.rangeAt g (o + a) (ints .u8 ((l.drop a).take b)) := fun j v hv => by
  have h1 := h (a + j) v (by
    rw [← ints_take, ← ints_drop, List.getElem?_take] at hv
    split at hv
    · rw [List.getElem?_drop] at hv; exact hv
    · cases hv)
  rw [← Nat.add_assoc] at h1
  exact h1
theorem run_blks_head (g o n c h : Nat) (h1 : h ≤ c) (w : World) : (Instr.sliceAt 67 (.slice (some ⟨g, o, none⟩) n c) none (some (.int .i64 (h : Int))) none).run Tryd.prog w = .ok (.slice (some ⟨g, o, none⟩) h c) w := by
  have hz : (sizeOf (Tryd.prog.elem 67)).run Tryd.prog w = .ok 64 w := by kernel_rfl
  rw [run_sliceAt_slice w 67 _ _ _ _ elemBlocks, run_slice_h w 67 _ n c elemBlocks .i64 (h : Int) (by omega) (by omega), hz]
  simp only [Result.andThen_ok, sliced, Int.toNat_natCast, Nat.sub_zero, Option.map_some, Nat.zero_mul, Addr.add_mid, Nat.add_zero]
  split <;> rfl
theorem run_bs_mid (g o n c l h : Nat) (h1 : l ≤ h) (h2 : h ≤ c) (hc : l < c) (w : World) : (Instr.sliceAt 22 (.slice (some ⟨g, o, none⟩) n c) (some (.int .i64 (l : Int))) (some (.int .i64 (h : Int))) none).run Tryd.prog w = .ok (.slice (some ⟨g, o + l, none⟩) (h - l) (c - l)) w := by
  have hz : (sizeOf (Tryd.prog.elem 22)).run Tryd.prog w = .ok 1 w := by kernel_rfl
  rw [run_sliceAt_slice w 22 _ _ _ _ bytesElem, run_slice_lh w 22 _ n c bytesElem .i64 .i64 (l : Int) (h : Int) (by omega) (by omega) (by omega), hz]
  simp only [Result.andThen_ok, sliced, Int.toNat_natCast, Option.map_some, Nat.mul_one, Addr.add_mid]
  rw [if_neg (by omega)]
/-- A slice of memory from B on. -/
def NilFrom (B : Nat) (v : Value) : Prop := NilOk v ∧ ∀ g, v.ownBlock = some g → B ≤ g
def ClaimPost (rec : List Int) (k : Nat) (w : World) (e : Ending) (w' : World) : Prop := ∃ v, e = .returned (.tuple #[v, .int .i64 (k : Int)]) ∧ BytesIn w' v rec ∧ NilFrom w.heap.size v ∧ Below w.heap.size w w'
set_option maxHeartbeats 4000000 in
theorem claimed_ok (v : Value) (n : Nat) (l : List Int) (w : World) (h : BlksAt w v n l) (hby : isBytes l) (h1 : 1 ≤ n) (hn : n ≤ 1000000000) (h2 : sizeP l ≤ 2000) (h3 : needN (sizeP l) ≤ n) :
    Calls Tryd.prog 112 #[v] w (ClaimPost (recP l) (needN (sizeP l)) w) := by
  obtain ⟨pb, po, c, rfl, hc, hb, hr, hl⟩ := h
  have HR := Lib.hid hr
  have HL := Lib.hid hl
  have HB := Lib.hid hb
  have HBY := Lib.hid hby
  obtain ⟨sz, hsz⟩ : ∃ s, Hid (sizeP l = s) := ⟨_, rfl⟩
  rw [hsz.out] at h2 h3 ⊢
  obtain ⟨k, hk⟩ : ∃ k, Hid (needN sz = k) := ⟨_, rfl⟩
  rw [hk.out] at h3 ⊢
  have hz : needI (sz : Int) = (k : Int) := (needI_nat sz h2).trans (by rw [hk.out])
  have HZ := Lib.hid hz
  have k1 : 1 ≤ k := by have := needN_pos sz; rw [hk.out] at this; exact this
  have k45 : k ≤ 45 := by have := needN_le sz h2; rw [hk.out] at this; exact this
  have HKN : Hid (46 * k < sz + 34 + 46 ∧ sz + 34 ≤ 46 * k) := by unfold Hid; rw [← hk.out]; unfold needN; omega
  have q0 : ((k : Int) == 0) = false := by simpa using (show ¬ k = 0 by omega)
  have q1 : ¬ ((n : Int) < (k : Int)) := by omega
  have q2 : ((n : Int) == 0) = false := by simpa using (show ¬ n = 0 by omega)
  have HNB : Hid (numB ((l.drop 10).take 2) = (sz : Int)) := by unfold Hid; rw [← hsz.out]; exact sizeP_int hby
  have RH : Hid (w.rangeAt pb (po + 10) (ints .u8 ((l.drop 10).take 2))) := range_cut hr 10 2
  have HL2 : Hid (((l.drop 10).take 2).length = 2) := by unfold Hid; rw [List.length_take, List.length_drop, hl]; omega
  have HRS : Hid ((Instr.sliceAt 67 (.slice (some ⟨pb, po, none⟩) n c) none (some (.int .i64 (k : Int))) none).run Tryd.prog w = .ok (.slice (some ⟨pb, po, none⟩) k c) w) := run_blks_head pb po n c k (by omega) w
  obtain ⟨B, hB⟩ : ∃ B, Hid (w.heap.size = B) := ⟨_, rfl⟩
  unfold ClaimPost
  rw [hB.out] at HB ⊢
  clear hr hl hb hz hby
  go_enter Tryd.func112, Tryd.ntmps112
  go_upto_region 3 with (fail)
  refine lin_begin (opsOf Tryd.f112 3) (by kernel_rfl) ?_
  refine lin_now 0 (.slice (some ⟨pb, po, none⟩) n c) (some 12) (by kernel_rfl) (by kernel_rfl) (by kernel_rfl) ?_
  refine lin_now 1 (.pointer (some ⟨pb, po + 64 * 0, none⟩)) (some 13) (by kernel_rfl) (by kernel_rfl) (exec_indexAt 67 (.tmp 12) (.const (.int .i64 ((0 : Nat) : Int))) (by kernel_rfl) _ _ _ (by kernel_rfl) (by kernel_rfl) (run_at_block pb po n c 0 (by omega) w)) ?_
  rw [Nat.mul_zero, Nat.add_zero]
  refine lin_now 2 (.slice (some ⟨pb, po + 10, none⟩) 2 54) (some 14) (by kernel_rfl) (by kernel_rfl) (by kernel_rfl) ?_
  refine lin_call 3 127 #[.slice (some ⟨pb, po + 10, none⟩) 2 54] (some 15) _ (by kernel_rfl) (by kernel_rfl) (by kernel_rfl) (number_walk pb (po + 10) 2 54 ((l.drop 10).take 2) _ RH.out HL2.out (bytes_take (bytes_drop HBY.out 10) 2) (by omega)) ?_
  rintro e w' ⟨rfl, rfl⟩
  refine ⟨_, rfl, ?_⟩
  rw [HNB.out]
  refine lin_now 4 (.int .i64 (sz : Int)) (some 4) (by kernel_rfl) (by kernel_rfl) (by kernel_rfl) ?_
  refine lin_done 5 (by kernel_rfl) ?_
  generalize hact : Act.put _ (some 4) _ = act
  simp only [Act.put, List.setIfInBounds_toArray, List.set_cons_succ, List.set_cons_zero] at hact
  subst hact
  go_wp2_with fail
  refine (need_walk _ _).mono ?_
  rintro e w' ⟨rfl, rfl⟩
  rw [HZ.out]
  clear RH HNB
  go_upto_region 8 with (fail)
  refine lin_begin (opsOf Tryd.f112 8) (by kernel_rfl) ?_
  refine lin_now 0 (.slice (some ⟨pb, po, none⟩) n c) (some 26) (by kernel_rfl) (by kernel_rfl) (by kernel_rfl) ?_
  refine lin_now 1 (.int .i64 (k : Int)) (some 27) (by kernel_rfl) (by kernel_rfl) (by kernel_rfl) ?_
  refine lin_now 2 (.slice (some ⟨pb, po, none⟩) k c) (some 28) (by kernel_rfl) (by kernel_rfl) (exec_of (Instr.sliceAt 67 (.slice (some ⟨pb, po, none⟩) n c) none (some (.int .i64 (k : Int))) none) _ (by kernel_rfl) HRS.out) ?_
  refine lin_now 3 (.int .i64 (k : Int)) (some 29) (by kernel_rfl) (by kernel_rfl) (by kernel_rfl) ?_
  refine lin_now 4 (.int .i64 0) (some 30) (by kernel_rfl) (by kernel_rfl) (by kernel_rfl) ?_
  refine lin_done 5 (by kernel_rfl) ?_
  generalize hact : Act.put _ (some 30) _ = act
  simp only [Act.put, List.setIfInBounds_toArray, List.set_cons_succ, List.set_cons_zero] at hact
  subst hact
  clear HRS
  go_wp2
  go_loopw [30, 8, 6] (fun iv _ a6 wr => ∃ (i : Nat) (av : Value), i ≤ k ∧ iv = .int .i64 (i : Int) ∧ av = a6 ∧ wr.ownsRow B 5 1 av (dataK l i).length (ints .u8 (dataK l i)) ∧ Below B w wr ∧ B ≤ wr.heap.size) (fun iv _ _ _ => k - (intOf iv).toNat)
  case atStart => exact ⟨0, _, Nat.zero_le _, rfl, rfl, ⟨rfl, .inl ⟨rfl, rfl⟩⟩, Below.refl _ _, Nat.le_of_eq hB.out.symm⟩
  case round =>
    obtain ⟨i, av, hi, rfl, rfl, how, hbel, hsz'⟩ := hrel
    have OW := Lib.hid how
    have BE := Lib.hid hbel
    have SZ := Lib.hid hsz'
    clear how hbel hsz'
    by_cases hlt : i < k
    · have r1 : (i : Int) < (k : Int) := by omega
      obtain ⟨x, hx⟩ : ∃ x, Hid (getB l i = x) := ⟨_, rfl⟩
      have GX : Hid (x.length = 64) := by unfold Hid; rw [← hx.out]; exact getB_length HL.out (by omega)
      have RX : Hid (wr.rangeAt pb (po + 64 * i) (ints .u8 x)) := fun j v hv => by rw [BE.out.cell (p := ⟨pb, po + 64 * i + j, none⟩) HB.out]; rw [← hx.out] at hv; exact getB_sub HR.out j v hv
      have IX : Hid ((Tryd.prog.info? 91).map (·.size) = some (ints .u8 x).length) := infoBlk x GX.out
      obtain ⟨q, hq⟩ : ∃ q, Hid (wr.heap.size = q) := ⟨_, rfl⟩
      go_upto_region 10 with (fail)
      refine lin_begin (opsOf Tryd.f112 10) (by kernel_rfl) ?_
      refine lin_now 0 (.pointer (some ⟨pb, po + 64 * i, none⟩)) (some 32) (by kernel_rfl) (by kernel_rfl) (exec_indexAt 67 (.tmp 28) (.tmp 30) (by kernel_rfl) _ _ _ (by kernel_rfl) (by kernel_rfl) (run_at_block pb po k c i hlt wr)) ?_
      refine lin_now 1 (.agg (ints .u8 x).toArray) (some 33) (by kernel_rfl) (by kernel_rfl) (exec_load_mid 91 (.tmp 32) (by kernel_rfl) pb (po + 64 * i) (by kernel_rfl) (ints .u8 x) _ RX.out Tryd.underlying91 rfl IX.out) ?_
      refine lin_alloc 2 91 (ints .u8 zB) (q) (some 8) (by kernel_rfl) (by kernel_rfl) (by kernel_rfl) zeroBlk hq ?_
      intro w1 b1 be1 hs1
      refine lin_put 3 91 (.tmp 8) (.tmp 33) (q) _ (ints .u8 zB) (ints .u8 x) (by kernel_rfl) (by kernel_rfl) (by kernel_rfl) (by kernel_rfl) (by kernel_rfl) b1 (by rw [ints_length, ints_length, GX.out, zB_length]) IX.out (ints_oneCell _ _) ?_
      intro w2 b2 u2
      refine lin_done 4 (by kernel_rfl) ?_
      have O2 : Hid (w2.ownsRow B 5 1 av (dataK l i).length (ints .u8 (dataK l i))) := by
        have h5 := own_step (F := []) (F' := []) OW.out (Step.of_below be1 (Nat.le_of_eq hq.out)) (fun g _ => by simp)
        exact own_upd h5 u2 (fun g hg => by have := owns_lt OW.out g hg; have := hq.out; omega)
      have D2 : Hid (BytesIn w2 (.slice (some ⟨q, 10, none⟩) 46 54) ((x.drop 10).take 46)) := by
        have e : ((x.drop 10).take 46).length = 46 := by rw [List.length_take, List.length_drop, GX.out]; rfl
        exact ⟨_, 54, by rw [e], by rw [e]; omega, fun _ => ⟨q, 10, rfl, b2.lt, range_part b2 10 46⟩⟩
      have BE2 : Hid (Below B w w2) := u2.below (BE.out.trans (be1.mono (by have := SZ.out; have := hq.out; omega))) (by have := SZ.out; have := hq.out; omega) (by have := hs1.out; have := SZ.out; have := hq.out; omega)
      have SZ2 : Hid (B ≤ w2.heap.size) := by unfold Hid; have := BE2.out.size; have := hB.out; omega
      have HDL : Hid ((dataK l i).length + ((x.drop 10).take 46).length ≤ 70368744177664) := by unfold Hid; rw [dataK_length HL.out i (by omega), List.length_take]; omega
      have HNX : Hid (dataK l (i + 1) = dataK l i ++ (x.drop 10).take 46) := by unfold Hid; rw [dataK, hx.out]
      clear OW BE SZ b1 be1 hs1 b2 u2 hq RX IX GX hx
      generalize hact : Act.put _ none _ = act
      simp only [Act.put, List.setIfInBounds_toArray, List.set_cons_succ, List.set_cons_zero] at hact
      subst hact
      go_upto_region 11 with (fail)
      refine lin_begin (opsOf Tryd.f112 11) (by kernel_rfl) ?_
      refine lin_now 0 (av) (some 34) (by kernel_rfl) (by kernel_rfl) (by kernel_rfl) ?_
      refine lin_now 1 (.slice (some ⟨q, 10, none⟩) 46 54) (some 35) (by kernel_rfl) (by kernel_rfl) (by kernel_rfl) ?_
      refine lin_appendb 2 (some 36) (by kernel_rfl) (by kernel_rfl) (by kernel_rfl) (.tmp 34) (.tmp 35) (by kernel_rfl) B av (dataK l i) (by kernel_rfl) O2.out _ ((x.drop 10).take 46) (by kernel_rfl) D2.out trivial HDL.out SZ2.out ?_
      intro v3 w3 h3 g3
      refine lin_now 3 (v3) (some 6) (by kernel_rfl) (by kernel_rfl) (by kernel_rfl) ?_
      refine lin_done 4 (by kernel_rfl) ?_
      have BE3 : Hid (Below B w w3) := BE2.out.grown g3 SZ2.out (fun k hk => by have := owns_row O2.out k hk; omega)
      have SZ3 : Hid (B ≤ w3.heap.size) := by unfold Hid; have := BE3.out.size; have := hB.out; omega
      rw [← HNX.out] at h3
      have O3 := Lib.hid h3
      clear h3 g3 O2 BE2 SZ2 D2 HDL HNX
      generalize hact : Act.put _ (some 6) _ = act
      simp only [Act.put, List.setIfInBounds_toArray, List.set_cons_succ, List.set_cons_zero] at hact
      subst hact
      go_wp2
      exact ⟨⟨i + 1, v3, by omega, by go_num, rfl, O3.out, BE3.out, SZ3.out⟩, by simp [intOf]; omega⟩
    · have r1 : ¬ (i : Int) < (k : Int) := by omega
      obtain rfl : i = k := by omega
      have LD : Hid ((dataK l i).length = 46 * i) := dataK_length HL.out i (by omega)
      obtain ⟨g, cp, rfl, hgl, hgr, hcp⟩ : ∃ g cp, av = .slice (some ⟨g, 0, none⟩) (46 * i) cp ∧ g < wr.heap.size ∧ wr.rangeAt g 0 (ints .u8 (dataK l i)) ∧ 46 * i ≤ cp := by
        obtain ⟨va, vc, e, hc', hp⟩ := owns_bytes OW.out
        obtain ⟨_, h9⟩ := OW.out
        rcases h9 with ⟨_, e0⟩ | ⟨g3, cap3, cur3, e3, _, hg3, hc3, _⟩
        · rw [LD.out] at e0; omega
        · obtain ⟨p5, o5, e5, h6, h7⟩ := hp (by rw [LD.out]; omega)
          subst e5
          rw [e] at e3
          obtain ⟨e4, -, -⟩ := Value.slice.inj e3
          obtain ⟨rfl, rfl⟩ : p5 = g3 ∧ o5 = 0 := by simpa using e4
          exact ⟨p5, vc, by rw [e, LD.out], h6, h7, by rw [LD.out] at hc'; exact hc'⟩
      have HGR := Lib.hid hgr
      have HGL := Lib.hid hgl
      have HGB := Lib.hid (owns_row OW.out g rfl)
      have LR : Hid ((((dataK l i).drop 2).take sz).length = sz) := by unfold Hid; rw [List.length_take, List.length_drop, LD.out]; have := HKN.out; omega
      have hbd : sz + 34 ≤ 46 * i := by have := HKN.out; omega
      have HRS2 : Hid (∀ w', (Instr.sliceAt 22 (.slice (some ⟨g, 0, none⟩) (46 * i) cp) (some (.int .i64 ((2 : Nat) : Int))) (some (.int .i64 ((2 + sz : Nat) : Int))) none).run Tryd.prog w' = .ok (.slice (some ⟨g, 0 + 2, none⟩) (2 + sz - 2) (cp - 2)) w') := fun w' => run_bs_mid g 0 (46 * i) cp 2 (2 + sz) (by omega) (by omega) (by omega) w'
      clear hgr hgl
      go_upto_region 13 with (fail)
      refine lin_begin (opsOf Tryd.f112 13) (by kernel_rfl) ?_
      refine lin_now 0 (.slice (some ⟨g, 0, none⟩) (46 * i) cp) (some 38) (by kernel_rfl) (by kernel_rfl) (by kernel_rfl) ?_
      refine lin_now 1 (.int .i64 (sz : Int)) (some 39) (by kernel_rfl) (by kernel_rfl) (by kernel_rfl) ?_
      refine lin_now 2 (.int .i64 (IntKind.i64.wrap (2 + (sz : Int)))) (some 40) (by kernel_rfl) (by kernel_rfl) (by kernel_rfl) ?_
      rw [show IntKind.i64.wrap (2 + (sz : Int)) = ((2 + sz : Nat) : Int) from (IntWalk.i64_in _ (by omega)).trans (by omega)]
      refine lin_now 3 (.slice (some ⟨g, 0 + 2, none⟩) (2 + sz - 2) (cp - 2)) (some 41) (by kernel_rfl) (by kernel_rfl) (exec_of (Instr.sliceAt 22 (.slice (some ⟨g, 0, none⟩) (46 * i) cp) (some (.int .i64 ((2 : Nat) : Int))) (some (.int .i64 ((2 + sz : Nat) : Int))) none) _ (by kernel_rfl) (HRS2.out _)) ?_
      rw [show 2 + sz - 2 = sz by omega, Nat.zero_add]
      refine lin_now 4 (.int .i64 (i : Int)) (some 42) (by kernel_rfl) (by kernel_rfl) (by kernel_rfl) ?_
      refine lin_now 5 (.slice (some ⟨g, 2, none⟩) sz (cp - 2)) (some 2) (by kernel_rfl) (by kernel_rfl) (by kernel_rfl) ?_
      refine lin_now 6 (.int .i64 (i : Int)) (some 3) (by kernel_rfl) (by kernel_rfl) (by kernel_rfl) ?_
      refine lin_done 7 (by kernel_rfl) ?_
      generalize hact : Act.put _ (some 3) _ = act
      simp only [Act.put, List.setIfInBounds_toArray, List.set_cons_succ, List.set_cons_zero] at hact
      subst hact
      go_wp2
      go_ret2
      refine ⟨_, rfl, ⟨some ⟨g, 2, none⟩, cp - 2, ?_, ?_, fun _ => ⟨g, 2, rfl, HGL.out, ?_⟩⟩, ⟨trivial, fun g' hg' => by have e : g = g' := (by simpa [Value.ownBlock] using hg'); have := HGB.out; have := hB.out; omega⟩, BE.out⟩
      · unfold recP; rw [hsz.out, hk.out, LR.out]; rfl
      · unfold recP; rw [hsz.out, hk.out, LR.out]; omega
      · unfold recP; rw [hsz.out, hk.out]
        have h := range_cut HGR.out 2 sz
        rw [Nat.zero_add] at h
        exact h
end Go.Proofs.YtngpmilojfbpmaaDoor
/- Package seal: Unpack. -/
namespace Go.Proofs.YtngpmilojfbpmaaDoor
open Go Go.RowKit
set_option maxRecDepth 100000

theorem recP_length {l : List Int} {n : Nat} (hl : l.length = 64 * n) (h : needN (sizeP l) ≤ n) : (recP l).length = sizeP l := by
  unfold recP
  rw [List.length_take, List.length_drop, dataK_length hl _ h]
  unfold needN
  omega
set_option maxHeartbeats 2000000 in
theorem claimed_no (v : Value) (n : Nat) (l : List Int) (w : World) (h : BlksIn w v n l) (hby : isBytes l) (hn : n ≤ 1000000000) (hno : n = 0 ∨ 2000 < sizeP l ∨ n < needN (sizeP l)) :
    Calls Tryd.prog 112 #[v] w fun e w' => e = .returned (.tuple #[.slice none 0 0, .int .i64 0]) ∧ w = w' := by
  obtain ⟨a, c, rfl, hc, hl, hp⟩ := h
  by_cases h0 : n = 0
  · subst h0
    have q2 : (((0 : Nat) : Int) == 0) = true := by decide
    clear hno hp hl
    go_enter Tryd.func112, Tryd.ntmps112
    go_wp2
    go_ret2
    exact ⟨rfl, rfl⟩
  · obtain ⟨pb, po, rfl, hb, hr⟩ := hp (by omega)
    have HR := Lib.hid hr
    have HBY := Lib.hid hby
    obtain ⟨sz, hsz⟩ : ∃ s, Hid (sizeP l = s) := ⟨_, rfl⟩
    rw [hsz.out] at hno
    have q2 : ((n : Int) == 0) = false := by simpa using h0
    have HNB : Hid (numB ((l.drop 10).take 2) = (sz : Int)) := by unfold Hid; rw [← hsz.out]; exact sizeP_int hby
    have RH : Hid (w.rangeAt pb (po + 10) (ints .u8 ((l.drop 10).take 2))) := range_cut hr 10 2
    have HL2 : Hid (((l.drop 10).take 2).length = 2) := by unfold Hid; rw [List.length_take, List.length_drop, hl]; clear hno hp hr; omega
    clear hr hl hb hby hp
    go_enter Tryd.func112, Tryd.ntmps112
    go_upto_region 3 with (fail)
    refine lin_begin (opsOf Tryd.f112 3) (by kernel_rfl) ?_
    refine lin_now 0 (.slice (some ⟨pb, po, none⟩) n c) (some 12) (by kernel_rfl) (by kernel_rfl) (by kernel_rfl) ?_
    refine lin_now 1 (.pointer (some ⟨pb, po + 64 * 0, none⟩)) (some 13) (by kernel_rfl) (by kernel_rfl) (exec_indexAt 67 (.tmp 12) (.const (.int .i64 ((0 : Nat) : Int))) (by kernel_rfl) _ _ _ (by kernel_rfl) (by kernel_rfl) (run_at_block pb po n c 0 (by omega) w)) ?_
    rw [Nat.mul_zero, Nat.add_zero]
    refine lin_now 2 (.slice (some ⟨pb, po + 10, none⟩) 2 54) (some 14) (by kernel_rfl) (by kernel_rfl) (by kernel_rfl) ?_
    refine lin_call 3 127 #[.slice (some ⟨pb, po + 10, none⟩) 2 54] (some 15) _ (by kernel_rfl) (by kernel_rfl) (by kernel_rfl) (number_walk pb (po + 10) 2 54 ((l.drop 10).take 2) _ RH.out HL2.out (bytes_take (bytes_drop HBY.out 10) 2) (by omega)) ?_
    rintro e w' ⟨rfl, rfl⟩
    refine ⟨_, rfl, ?_⟩
    rw [HNB.out]
    refine lin_now 4 (.int .i64 (sz : Int)) (some 4) (by kernel_rfl) (by kernel_rfl) (by kernel_rfl) ?_
    refine lin_done 5 (by kernel_rfl) ?_
    generalize hact : Act.put _ (some 4) _ = act
    simp only [Act.put, List.setIfInBounds_toArray, List.set_cons_succ, List.set_cons_zero] at hact
    subst hact
    go_wp2_with fail
    refine (need_walk _ _).mono ?_
    rintro e w' ⟨rfl, rfl⟩
    by_cases h2 : 2000 < sz
    · rw [needI_no _ (.inr (by omega))]
      clear hno
      go_wp2
      go_ret2
      exact ⟨rfl, rfl⟩
    · obtain ⟨k, hk⟩ : ∃ k, Hid (needN sz = k) := ⟨_, rfl⟩
      rw [needI_nat _ (by omega), hk.out]
      rw [hk.out] at hno
      have k1 : 1 ≤ k := by have := needN_pos sz; rw [hk.out] at this; exact this
      have q0 : ((k : Int) == 0) = false := by simpa using (show ¬ k = 0 by omega)
      have q1 : (n : Int) < (k : Int) := by omega
      clear hno
      go_wp2
      go_ret2
      exact ⟨rfl, rfl⟩
theorem blks_head {w : World} {pb po n k c : Nat} {l : List Int} (hr : w.rangeAt pb po (ints .u8 l)) (hb : pb < w.heap.size) (hl : l.length = 64 * n) (hk : k ≤ n) (hc : n ≤ c) : BlksIn w (.slice (some ⟨pb, po, none⟩) k c) k (l.take (64 * k)) :=
  ⟨_, c, rfl, by omega, by rw [List.length_take]; omega, fun _ => ⟨pb, po, rfl, hb, by have h := range_cut hr 0 (64 * k); rw [Nat.add_zero, List.drop_zero] at h; exact h⟩⟩
/-- A record stands at the beginning. -/
def unpOk (gen num : Int) (l : List Int) (n : Nat) : Prop := 1 ≤ n ∧ sizeP l ≤ 2000 ∧ needN (sizeP l) ≤ n ∧ okPack gen num (sizeP l) ∧ packF gen.toNat num.toNat (recP l) = l.take (64 * needN (sizeP l))
instance (gen num : Int) (l : List Int) (n : Nat) : Decidable (unpOk gen num l n) := by unfold unpOk; exact inferInstance
def UnpPost (rec : List Int) (k : Nat) (w : World) (e : Ending) (w' : World) : Prop := ∃ v, e = .returned (.tuple #[v, .int .i64 (k : Int), .bool true]) ∧ BytesIn w' v rec ∧ NilOk v ∧ Below w.heap.size w w'
def UnpPostF (rec : List Int) (k : Nat) (w : World) (e : Ending) (w' : World) : Prop := ∃ v, e = .returned (.tuple #[v, .int .i64 (k : Int), .bool true]) ∧ BytesIn w' v rec ∧ NilFrom w.heap.size v ∧ Below w.heap.size w w'
def UnpNo (w : World) (e : Ending) (w' : World) : Prop := e = .returned (.tuple #[.slice none 0 0, .int .i64 0, .bool false]) ∧ Below w.heap.size w w'
set_option maxHeartbeats 2000000 in
theorem unpack_ok' (gen num : Int) (v : Value) (n : Nat) (l : List Int) (w : World) (h : BlksAt w v n l) (hby : isBytes l) (h1 : 1 ≤ n) (hn : n ≤ 1000000000) (h2 : sizeP l ≤ 2000) (h3 : needN (sizeP l) ≤ n) (hok : okPack gen num (sizeP l)) (heq : packF gen.toNat num.toNat (recP l) = l.take (64 * needN (sizeP l))) (hK : KW w) :
    Calls Tryd.prog 98 #[v, .int .i64 gen, .int .i64 num] w (UnpPostF (recP l) (needN (sizeP l)) w) := by
  obtain ⟨pb, po, c, e0, hc, hb, hr, hl⟩ := id h
  have HV := Lib.hid h
  subst e0
  have HBY := Lib.hid hby
  have HK := Lib.hid hK
  have HR := Lib.hid hr
  have HL := Lib.hid hl
  have HB := Lib.hid hb
  have HRL : Hid ((recP l).length = sizeP l) := recP_length hl h3
  have H2 := Lib.hid h2
  have H3 := Lib.hid h3
  obtain ⟨g, rfl⟩ := Int.eq_ofNat_of_zero_le (show 0 ≤ gen by have := hok.2.1; omega)
  obtain ⟨m, rfl⟩ := Int.eq_ofNat_of_zero_le (show 0 ≤ num from hok.2.2.2.1)
  have HOK : Hid (okPack (g : Int) (m : Int) (recP l).length) := by unfold Hid; rw [HRL.out]; exact hok
  rw [Int.toNat_natCast, Int.toNat_natCast] at heq
  have HEQ := Lib.hid heq
  clear hok heq
  obtain ⟨k, hk⟩ : ∃ k, Hid (needN (sizeP l) = k) := ⟨_, rfl⟩
  have k1 : 1 ≤ k := by have := needN_pos (sizeP l); rw [hk.out] at this; exact this
  have kn : k ≤ n := by rw [← hk.out]; exact h3
  have q0 : ((k : Int) == 0) = false := by simpa using (show ¬ k = 0 by omega)
  obtain ⟨rc, hrc⟩ : ∃ rc, Hid (recP l = rc) := ⟨_, rfl⟩
  have HC1 := Lib.hid (claimed_ok _ n l w HV.out hby h1 hn h2 h3)
  rw [hrc.out, hk.out] at HC1
  rw [hrc.out] at HRL
  obtain ⟨B, hB⟩ : ∃ B, Hid (w.heap.size = B) := ⟨_, rfl⟩
  unfold UnpPostF
  rw [hrc.out, hk.out, hB.out]
  rw [hrc.out] at HOK
  rw [hrc.out, hk.out] at HEQ
  clear h hby hr hl hb hK h2 h3
  go_enter Tryd.func98, Tryd.ntmps98
  go_wp2_with fail
  refine (HC1.out).mono ?_
  rintro e w1 ⟨v1, rfl, hv1, hn1, hb1⟩
  have V1 := Lib.hid hv1
  have N1 := Lib.hid hn1
  have BE1 := Lib.hid hb1
  have K1 : Hid (KW w1) := HK.out.below hb1 HK.out.lt
  clear hv1 hn1 hb1 HC1
  go_wp2_with fail
  refine (pack_ok g m v1 rc _ V1.out N1.out.1 HOK.out K1.out).mono ?_
  rintro e w2 ⟨G, rfl, hG, hblk, hb2⟩
  rw [HRL.out, hk.out]
  have BE2 : Hid (Below B w w2) := by rw [hB.out] at BE1; exact BE1.out.trans (hb2.mono (by have := BE1.out.size; have := hB.out; omega))
  have V2 : Hid (BytesIn w2 v1 rc) := V1.out.below hb2 (Nat.le_refl _)
  have S2 : Hid (BlksIn w2 (.slice (some ⟨G, 0, none⟩) k k) k (packF g m rc)) := blks_blk hblk (by unfold packF; rw [packK_length, HRL.out, hk.out])
  have L2 : Hid (BlksIn w2 (.slice (some ⟨pb, po, none⟩) k c) k (l.take (64 * k))) := by
    rw [hB.out] at HB
    refine blks_head (fun j v hv => ?_) (by have := HB.out; have := BE2.out.size; have := hB.out; omega) HL.out kn hc
    rw [BE2.out.cell (p := ⟨pb, po + j, none⟩) HB.out]
    exact HR.out j v hv
  have HS : Hid ((Instr.sliceAt 67 (.slice (some ⟨pb, po, none⟩) n c) none (some (.int .i64 (k : Int))) none).run Tryd.prog w2 = .ok (.slice (some ⟨pb, po, none⟩) k c) w2) := run_blks_head pb po n c k (by omega) w2
  have HC2 := Lib.hid (equal_walk _ _ k _ _ w2 S2.out L2.out (by omega))
  rw [show decide (packF g m rc = l.take (64 * k)) = true from decide_eq_true HEQ.out] at HC2
  clear hG hblk hb2 BE1 V1 K1 S2 L2
  go_upto_region 5 with (fail)
  refine lin_begin (opsOf Tryd.f98 5) (by kernel_rfl) ?_
  refine lin_now 0 (.bool true) (some 27) (by kernel_rfl) (by kernel_rfl) (by kernel_rfl) ?_
  refine lin_now 1 (.bool false) (some 28) (by kernel_rfl) (by kernel_rfl) (by kernel_rfl) ?_
  refine lin_now 2 (.bool false) (some 29) (by kernel_rfl) (by kernel_rfl) (by kernel_rfl) ?_
  refine lin_now 3 (.slice (some ⟨G, 0, none⟩) k k) (some 30) (by kernel_rfl) (by kernel_rfl) (by kernel_rfl) ?_
  refine lin_now 4 (.slice (some ⟨pb, po, none⟩) n c) (some 31) (by kernel_rfl) (by kernel_rfl) (by kernel_rfl) ?_
  refine lin_now 5 (.int .i64 (k : Int)) (some 32) (by kernel_rfl) (by kernel_rfl) (by kernel_rfl) ?_
  refine lin_now 6 (.slice (some ⟨pb, po, none⟩) k c) (some 33) (by kernel_rfl) (by kernel_rfl) (exec_of (Instr.sliceAt 67 (.slice (some ⟨pb, po, none⟩) n c) none (some (.int .i64 (k : Int))) none) _ (by kernel_rfl) HS.out) ?_
  refine lin_call 7 113 #[.slice (some ⟨G, 0, none⟩) k k, .slice (some ⟨pb, po, none⟩) k c] (some 34) _ (by kernel_rfl) (by kernel_rfl) (by kernel_rfl) (HC2.out) ?_
  rintro e w3 ⟨rfl, d, rfl⟩
  refine ⟨_, rfl, ?_⟩
  refine lin_now 8 (.bool false) (some 35) (by kernel_rfl) (by kernel_rfl) (by kernel_rfl) ?_
  refine lin_now 9 (.bool false) (some 36) (by kernel_rfl) (by kernel_rfl) (by kernel_rfl) ?_
  refine lin_done 10 (by kernel_rfl) ?_
  have BE3 : Hid (Below B w (w2.drewN d)) := BE2.out.trans ((below_drewN w2 d).mono (by have := BE2.out.size; have := hB.out; omega))
  have V3 : Hid (BytesIn (w2.drewN d) v1 rc) := V2.out.drewN d
  clear BE2 V2 HC2 HS
  generalize w2.drewN d = W3 at *
  generalize hact : Act.put _ (some 36) _ = act
  simp only [Act.put, List.setIfInBounds_toArray, List.set_cons_succ, List.set_cons_zero] at hact
  subst hact
  go_wp2
  go_ret3
  exact ⟨v1, rfl, V3.out, (by have := N1.out; rw [hB.out] at this; exact this), BE3.out⟩
set_option maxHeartbeats 2000000 in
theorem unpack_other (gen num : Int) (v : Value) (n : Nat) (l : List Int) (w : World) (h : BlksAt w v n l) (hby : isBytes l) (h1 : 1 ≤ n) (hn : n ≤ 1000000000) (h2 : sizeP l ≤ 2000) (h3 : needN (sizeP l) ≤ n) (hok : okPack gen num (sizeP l)) (heq : packF gen.toNat num.toNat (recP l) ≠ l.take (64 * needN (sizeP l))) (hK : KW w) :
    Calls Tryd.prog 98 #[v, .int .i64 gen, .int .i64 num] w (UnpNo w) := by
  obtain ⟨pb, po, c, e0, hc, hb, hr, hl⟩ := id h
  have HV := Lib.hid h
  subst e0
  have HBY := Lib.hid hby
  have HK := Lib.hid hK
  have HR := Lib.hid hr
  have HL := Lib.hid hl
  have HB := Lib.hid hb
  have HRL : Hid ((recP l).length = sizeP l) := recP_length hl h3
  have H2 := Lib.hid h2
  have H3 := Lib.hid h3
  obtain ⟨g, rfl⟩ := Int.eq_ofNat_of_zero_le (show 0 ≤ gen by have := hok.2.1; omega)
  obtain ⟨m, rfl⟩ := Int.eq_ofNat_of_zero_le (show 0 ≤ num from hok.2.2.2.1)
  have HOK : Hid (okPack (g : Int) (m : Int) (recP l).length) := by unfold Hid; rw [HRL.out]; exact hok
  rw [Int.toNat_natCast, Int.toNat_natCast] at heq
  have HEQ := Lib.hid heq
  clear hok heq
  obtain ⟨k, hk⟩ : ∃ k, Hid (needN (sizeP l) = k) := ⟨_, rfl⟩
  have k1 : 1 ≤ k := by have := needN_pos (sizeP l); rw [hk.out] at this; exact this
  have kn : k ≤ n := by rw [← hk.out]; exact h3
  have q0 : ((k : Int) == 0) = false := by simpa using (show ¬ k = 0 by omega)
  obtain ⟨rc, hrc⟩ : ∃ rc, Hid (recP l = rc) := ⟨_, rfl⟩
  have HC1 := Lib.hid (claimed_ok _ n l w HV.out hby h1 hn h2 h3)
  rw [hrc.out, hk.out] at HC1
  rw [hrc.out] at HRL
  obtain ⟨B, hB⟩ : ∃ B, Hid (w.heap.size = B) := ⟨_, rfl⟩
  unfold UnpNo
  rw [hB.out]
  rw [hrc.out] at HOK
  rw [hrc.out, hk.out] at HEQ
  clear h hby hr hl hb hK h2 h3
  go_enter Tryd.func98, Tryd.ntmps98
  go_wp2_with fail
  refine (HC1.out).mono ?_
  rintro e w1 ⟨v1, rfl, hv1, hn1, hb1⟩
  have V1 := Lib.hid hv1
  have N1 := Lib.hid hn1
  have BE1 := Lib.hid hb1
  have K1 : Hid (KW w1) := HK.out.below hb1 HK.out.lt
  clear hv1 hn1 hb1 HC1
  go_wp2_with fail
  refine (pack_ok g m v1 rc _ V1.out N1.out.1 HOK.out K1.out).mono ?_
  rintro e w2 ⟨G, rfl, hG, hblk, hb2⟩
  rw [HRL.out, hk.out]
  have BE2 : Hid (Below B w w2) := by rw [hB.out] at BE1; exact BE1.out.trans (hb2.mono (by have := BE1.out.size; have := hB.out; omega))
  have V2 : Hid (BytesIn w2 v1 rc) := V1.out.below hb2 (Nat.le_refl _)
  have S2 : Hid (BlksIn w2 (.slice (some ⟨G, 0, none⟩) k k) k (packF g m rc)) := blks_blk hblk (by unfold packF; rw [packK_length, HRL.out, hk.out])
  have L2 : Hid (BlksIn w2 (.slice (some ⟨pb, po, none⟩) k c) k (l.take (64 * k))) := by
    rw [hB.out] at HB
    refine blks_head (fun j v hv => ?_) (by have := HB.out; have := BE2.out.size; have := hB.out; omega) HL.out kn hc
    rw [BE2.out.cell (p := ⟨pb, po + j, none⟩) HB.out]
    exact HR.out j v hv
  have HS : Hid ((Instr.sliceAt 67 (.slice (some ⟨pb, po, none⟩) n c) none (some (.int .i64 (k : Int))) none).run Tryd.prog w2 = .ok (.slice (some ⟨pb, po, none⟩) k c) w2) := run_blks_head pb po n c k (by omega) w2
  have HC2 := Lib.hid (equal_walk _ _ k _ _ w2 S2.out L2.out (by omega))
  rw [show decide (packF g m rc = l.take (64 * k)) = false from decide_eq_false HEQ.out] at HC2
  clear hG hblk hb2 BE1 V1 K1 S2 L2
  go_upto_region 5 with (fail)
  refine lin_begin (opsOf Tryd.f98 5) (by kernel_rfl) ?_
  refine lin_now 0 (.bool true) (some 27) (by kernel_rfl) (by kernel_rfl) (by kernel_rfl) ?_
  refine lin_now 1 (.bool false) (some 28) (by kernel_rfl) (by kernel_rfl) (by kernel_rfl) ?_
  refine lin_now 2 (.bool false) (some 29) (by kernel_rfl) (by kernel_rfl) (by kernel_rfl) ?_
  refine lin_now 3 (.slice (some ⟨G, 0, none⟩) k k) (some 30) (by kernel_rfl) (by kernel_rfl) (by kernel_rfl) ?_
  refine lin_now 4 (.slice (some ⟨pb, po, none⟩) n c) (some 31) (by kernel_rfl) (by kernel_rfl) (by kernel_rfl) ?_
  refine lin_now 5 (.int .i64 (k : Int)) (some 32) (by kernel_rfl) (by kernel_rfl) (by kernel_rfl) ?_
  refine lin_now 6 (.slice (some ⟨pb, po, none⟩) k c) (some 33) (by kernel_rfl) (by kernel_rfl) (exec_of (Instr.sliceAt 67 (.slice (some ⟨pb, po, none⟩) n c) none (some (.int .i64 (k : Int))) none) _ (by kernel_rfl) HS.out) ?_
  refine lin_call 7 113 #[.slice (some ⟨G, 0, none⟩) k k, .slice (some ⟨pb, po, none⟩) k c] (some 34) _ (by kernel_rfl) (by kernel_rfl) (by kernel_rfl) (HC2.out) ?_
  rintro e w3 ⟨rfl, d, rfl⟩
  refine ⟨_, rfl, ?_⟩
  refine lin_now 8 (.bool true) (some 35) (by kernel_rfl) (by kernel_rfl) (by kernel_rfl) ?_
  refine lin_now 9 (.bool true) (some 36) (by kernel_rfl) (by kernel_rfl) (by kernel_rfl) ?_
  refine lin_done 10 (by kernel_rfl) ?_
  have BE3 : Hid (Below B w (w2.drewN d)) := BE2.out.trans ((below_drewN w2 d).mono (by have := BE2.out.size; have := hB.out; omega))
  have V3 : Hid (BytesIn (w2.drewN d) v1 rc) := V2.out.drewN d
  clear BE2 V2 HC2 HS
  generalize w2.drewN d = W3 at *
  generalize hact : Act.put _ (some 36) _ = act
  simp only [Act.put, List.setIfInBounds_toArray, List.set_cons_succ, List.set_cons_zero] at hact
  subst hact
  go_wp2
  go_ret3
  exact ⟨rfl, BE3.out⟩
set_option maxHeartbeats 2000000 in
theorem unpack_nopack (gen num : Int) (v : Value) (n : Nat) (l : List Int) (w : World) (h : BlksAt w v n l) (hby : isBytes l) (h1 : 1 ≤ n) (hn : n ≤ 1000000000) (h2 : sizeP l ≤ 2000) (h3 : needN (sizeP l) ≤ n) (hno : ¬ okPack gen num (sizeP l)) (hK : KW w) :
    Calls Tryd.prog 98 #[v, .int .i64 gen, .int .i64 num] w (UnpNo w) := by
  obtain ⟨pb, po, c, e0, hc, hb, hr, hl⟩ := id h
  have HV := Lib.hid h
  subst e0
  have HBY := Lib.hid hby
  have HK := Lib.hid hK
  have HR := Lib.hid hr
  have HL := Lib.hid hl
  have HB := Lib.hid hb
  have HRL : Hid ((recP l).length = sizeP l) := recP_length hl h3
  have H2 := Lib.hid h2
  have H3 := Lib.hid h3
  have HNO := Lib.hid hno
  clear hno
  obtain ⟨k, hk⟩ : ∃ k, Hid (needN (sizeP l) = k) := ⟨_, rfl⟩
  have k1 : 1 ≤ k := by have := needN_pos (sizeP l); rw [hk.out] at this; exact this
  have kn : k ≤ n := by rw [← hk.out]; exact h3
  have q0 : ((k : Int) == 0) = false := by simpa using (show ¬ k = 0 by omega)
  obtain ⟨rc, hrc⟩ : ∃ rc, Hid (recP l = rc) := ⟨_, rfl⟩
  have HC1 := Lib.hid (claimed_ok _ n l w HV.out hby h1 hn h2 h3)
  rw [hrc.out, hk.out] at HC1
  rw [hrc.out] at HRL
  obtain ⟨B, hB⟩ : ∃ B, Hid (w.heap.size = B) := ⟨_, rfl⟩
  unfold UnpNo
  rw [hB.out]
  clear h hby hr hl hb hK h2 h3
  go_enter Tryd.func98, Tryd.ntmps98
  go_wp2_with fail
  refine (HC1.out).mono ?_
  rintro e w1 ⟨v1, rfl, hv1, hn1, hb1⟩
  have V1 := Lib.hid hv1
  have N1 := Lib.hid hn1
  have BE1 := Lib.hid hb1
  have K1 : Hid (KW w1) := HK.out.below hb1 HK.out.lt
  clear hv1 hn1 hb1 HC1
  obtain ⟨va, vc, e1, -⟩ := id V1.out
  rw [HRL.out] at e1
  subst e1
  go_wp2_with fail
  refine (pack_no gen num va (sizeP l) vc _ HNO.out).mono ?_
  rintro e w2 ⟨rfl, rfl⟩
  go_wp2
  go_ret3
  exact ⟨rfl, hB.out ▸ BE1.out⟩
set_option maxHeartbeats 2000000 in
theorem unpack_noclaim (gen num : Int) (v : Value) (n : Nat) (l : List Int) (w : World) (h : BlksIn w v n l) (hby : isBytes l) (hn : n ≤ 1000000000) (hno : n = 0 ∨ 2000 < sizeP l ∨ n < needN (sizeP l)) :
    Calls Tryd.prog 98 #[v, .int .i64 gen, .int .i64 num] w (UnpNo w) := by
  obtain ⟨a, c, e0, -⟩ := id h
  have HV := Lib.hid h
  subst e0
  have HBY := Lib.hid hby
  have HNO := Lib.hid hno
  clear h hby hno
  go_enter Tryd.func98, Tryd.ntmps98
  go_wp2_with fail
  refine (claimed_no _ n l _ HV.out HBY.out hn HNO.out).mono ?_
  rintro e w' ⟨rfl, rfl⟩
  have q0 : ((0 : Int) == 0) = true := by decide
  go_wp2
  go_ret3
  exact ⟨rfl, Below.refl _ _⟩
theorem unpack_ok (gen num : Int) (v : Value) (n : Nat) (l : List Int) (w : World) (h : BlksIn w v n l) (hby : isBytes l) (hn : n ≤ 1000000000) (hok : unpOk gen num l n) (hK : KW w) :
    Calls Tryd.prog 98 #[v, .int .i64 gen, .int .i64 num] w (UnpPost (recP l) (needN (sizeP l)) w) := by
  obtain ⟨h1, h2, h3, h4, h5⟩ := hok
  refine (unpack_ok' gen num v n l w (h.at h1) hby h1 hn h2 h3 h4 h5 hK).mono ?_
  rintro e w' ⟨v, h1, h2, h3, h4⟩
  exact ⟨v, h1, h2, h3.1, h4⟩
theorem unpack_okF (gen num : Int) (v : Value) (n : Nat) (l : List Int) (w : World) (h : BlksIn w v n l) (hby : isBytes l) (hn : n ≤ 1000000000) (hok : unpOk gen num l n) (hK : KW w) :
    Calls Tryd.prog 98 #[v, .int .i64 gen, .int .i64 num] w (UnpPostF (recP l) (needN (sizeP l)) w) := by
  obtain ⟨h1, h2, h3, h4, h5⟩ := hok
  exact unpack_ok' gen num v n l w (h.at h1) hby h1 hn h2 h3 h4 h5 hK
theorem unpack_no (gen num : Int) (v : Value) (n : Nat) (l : List Int) (w : World) (h : BlksIn w v n l) (hby : isBytes l) (hn : n ≤ 1000000000) (hno : ¬ unpOk gen num l n) (hK : KW w) :
    Calls Tryd.prog 98 #[v, .int .i64 gen, .int .i64 num] w (UnpNo w) := by
  by_cases h0 : n = 0 ∨ 2000 < sizeP l ∨ n < needN (sizeP l)
  · exact unpack_noclaim gen num v n l w h hby hn h0
  · have h1 : 1 ≤ n := by omega
    by_cases h4 : okPack gen num (sizeP l)
    · exact unpack_other gen num v n l w (h.at h1) hby h1 hn (by omega) (by omega) h4 (fun e => hno ⟨h1, by omega, by omega, h4, e⟩) hK
    · exact unpack_nopack gen num v n l w (h.at h1) hby h1 hn (by omega) (by omega) h4 hK
end Go.Proofs.YtngpmilojfbpmaaDoor
/- Package seal: Data, Highest; the statements' own helper same. -/
namespace Go.Proofs.YtngpmilojfbpmaaDoor
open Go Go.RowKit
set_option maxRecDepth 100000

def DataPost (zs : List Int) (w : World) (e : Ending) (w' : World) : Prop := ∃ v, e = .returned v ∧ BytesIn w' v zs ∧ NilOk v ∧ Below w.heap.size w w'
/-- The record bytes of a sector. -/
def dataP (b : List Int) : List Int := (b.drop 10).take (cntP b).toNat
/-- The generations at both ends of a sector. -/
def endP (b : List Int) : Int := numB ((b.drop 56).take 4)
def mx (x y : Int) : Int := if x < y then y else x
def highK (l : List Int) : Nat → Int
  | 0 => 0
  | k + 1 => mx (mx (highK l k) (genP (getB l k))) (endP (getB l k))
set_option maxHeartbeats 2000000 in
theorem highest_walk (v : Value) (n : Nat) (l : List Int) (w : World) (h : BlksIn w v n l) (hby : isBytes l) (hn : n ≤ 1000000000) :
    Calls Tryd.prog 100 #[v] w fun e w' => e = .returned (.int .i64 (highK l n)) ∧ Below w.heap.size w w' := by
  obtain ⟨a, c, rfl, hc, hl, hp⟩ := h
  have HL := Lib.hid hl
  have HP := Lib.hid hp
  have HBY := Lib.hid hby
  obtain ⟨B, hB⟩ : ∃ B, Hid (w.heap.size = B) := ⟨_, rfl⟩
  rw [hB.out]
  clear hl hp hby
  go_enter Tryd.func100, Tryd.ntmps100
  go_wp2
  go_loopw [8, 5, 3] (fun iv _ hv wr => ∃ (i : Nat), i ≤ n ∧ iv = .int .i64 (i : Int) ∧ hv = .int .i64 (highK l i) ∧ Below B w wr ∧ B ≤ wr.heap.size) (fun iv _ _ _ => n - (intOf iv).toNat)
  case atStart => exact ⟨0, Nat.zero_le _, rfl, rfl, Below.refl _ _, Nat.le_of_eq hB.out.symm⟩
  case round =>
    obtain ⟨i, hi, rfl, rfl, hbel, hsz⟩ := hrel
    have BE := Lib.hid hbel
    have SZ := Lib.hid hsz
    clear hbel hsz
    by_cases hlt : i < n
    · have r1 : (i : Int) < (n : Int) := by omega
      obtain ⟨pb, po, rfl, hb, hr⟩ := HP.out (by omega)
      obtain ⟨x, hx⟩ : ∃ x, Hid (getB l i = x) := ⟨_, rfl⟩
      have GX : Hid (x.length = 64) := by unfold Hid; rw [← hx.out]; exact getB_length HL.out hlt
      have BX : Hid (isBytes x) := by unfold Hid; rw [← hx.out]; exact bytes_take (bytes_drop HBY.out _) _
      have RX : Hid (wr.rangeAt pb (po + 64 * i) (ints .u8 x)) := fun j v hv => by rw [BE.out.cell (p := ⟨pb, po + 64 * i + j, none⟩) (by rw [← hB.out]; exact hb)]; rw [← hx.out] at hv; exact getB_sub hr j v hv
      have IX : Hid ((Tryd.prog.info? 91).map (·.size) = some (ints .u8 x).length) := infoBlk x GX.out
      obtain ⟨q, hq⟩ : ∃ q, Hid (wr.heap.size = q) := ⟨_, rfl⟩
      obtain ⟨hk, hhk⟩ : ∃ h, Hid (highK l i = h) := ⟨_, rfl⟩
      rw [hhk.out]
      clear hb hr
      go_upto_region 4 with (fail)
      refine lin_begin (opsOf Tryd.f100 4) (by kernel_rfl) ?_
      refine lin_now 0 (.pointer (some ⟨pb, po + 64 * i, none⟩)) (some 10) (by kernel_rfl) (by kernel_rfl) (exec_indexAt 67 (.tmp 6) (.tmp 8) (by kernel_rfl) _ _ _ (by kernel_rfl) (by kernel_rfl) (run_at_block pb po n c i hlt wr)) ?_
      refine lin_now 1 (.agg (ints .u8 x).toArray) (some 11) (by kernel_rfl) (by kernel_rfl) (exec_load_mid 91 (.tmp 10) (by kernel_rfl) pb (po + 64 * i) (by kernel_rfl) (ints .u8 x) _ RX.out Tryd.underlying91 rfl IX.out) ?_
      refine lin_alloc 2 91 (ints .u8 zB) (q) (some 5) (by kernel_rfl) (by kernel_rfl) (by kernel_rfl) zeroBlk hq ?_
      intro w1 b1 be1 hs1
      refine lin_put 3 91 (.tmp 5) (.tmp 11) (q) _ (ints .u8 zB) (ints .u8 x) (by kernel_rfl) (by kernel_rfl) (by kernel_rfl) (by kernel_rfl) (by kernel_rfl) b1 (by rw [ints_length, ints_length, GX.out, zB_length]) IX.out (ints_oneCell _ _) ?_
      intro w2 b2 u2
      refine lin_done 4 (by kernel_rfl) ?_
      have M2 := Lib.hid b2
      have BE2 : Hid (Below B w w2) := u2.below (BE.out.trans (be1.mono (by have := SZ.out; have := hq.out; omega))) (by have := SZ.out; have := hq.out; omega) (by have := hs1.out; have := SZ.out; have := hq.out; omega)
      have SZ2 : Hid (B ≤ w2.heap.size) := by unfold Hid; have := BE2.out.size; have := hB.out; omega
      clear BE SZ b1 be1 hs1 b2 u2 hq RX
      generalize hact : Act.put _ none _ = act
      simp only [Act.put, List.setIfInBounds_toArray, List.set_cons_succ, List.set_cons_zero] at hact
      subst hact
      go_upto_region 5 with (fail)
      refine region_begin (opsOf Tryd.f100 5) (fun w' => Blk w' q 91 (ints .u8 x)) (by kernel_rfl) (by kernel_rfl) 9 (by kernel_rfl) ?_
      intro Q' hQN hN
      have hS : Blk w2.drew q 91 (ints .u8 x) := M2.out
      refine reg_now 0 (.int .i64 hk) (some 12) hQN hS (by kernel_rfl) (by kernel_rfl) (fun w => by kernel_rfl) ?_
      refine reg_nowIf 1 (.agg (ints .u8 x).toArray) (some 13) hQN hS (by kernel_rfl) (by kernel_rfl) (fun w' hw => exec_load_mid 91 (.tmp 5) (by kernel_rfl) q 0 (by kernel_rfl) (ints .u8 x) _ hw.whole Tryd.underlying91 rfl IX.out) ?_
      refine reg_nowIf 4 (.agg (ints .u8 x).toArray) (some 16) hQN hS (by kernel_rfl) (by kernel_rfl) (fun w' hw => exec_load_mid 91 (.tmp 5) (by kernel_rfl) q 0 (by kernel_rfl) (ints .u8 x) _ hw.whole Tryd.underlying91 rfl IX.out) ?_
      refine reg_call 2 114 #[.agg (ints .u8 x).toArray] (some 14) _ (by kernel_rfl) (by kernel_rfl) (by kernel_rfl) (firstmark_walk x GX.out _) ?_
      rintro e w3 ⟨rfl, hb3⟩
      have hS3 : Blk w3 q 91 (ints .u8 x) := hS.below hb3 hS.lt
      refine ⟨_, rfl, hS3, ?_⟩
      refine reg_call 3 115 #[.agg (ints .u8 (x.take 8)).toArray] (some 15) _ (by kernel_rfl) (by kernel_rfl) (by kernel_rfl) (mgen_walk (x.take 8) (by rw [List.length_take, GX.out]; rfl) (bytes_take BX.out 8) _) ?_
      rintro e w4 ⟨rfl, hb4⟩
      have hS4 : Blk w4 q 91 (ints .u8 x) := hS3.below hb4 hS3.lt
      refine ⟨_, rfl, hS4, ?_⟩
      refine reg_call 5 116 #[.agg (ints .u8 x).toArray] (some 17) _ (by kernel_rfl) (by kernel_rfl) (by kernel_rfl) (lastmark_walk x GX.out _) ?_
      rintro e w5 ⟨rfl, hb5⟩
      have hS5 : Blk w5 q 91 (ints .u8 x) := hS4.below hb5 hS4.lt
      refine ⟨_, rfl, hS5, ?_⟩
      refine reg_call 6 115 #[.agg (ints .u8 (x.drop 56)).toArray] (some 18) _ (by kernel_rfl) (by kernel_rfl) (by kernel_rfl) (mgen_walk (x.drop 56) (by rw [List.length_drop, GX.out]) (bytes_drop BX.out 56) _) ?_
      rintro e w6 ⟨rfl, hb6⟩
      have hS6 : Blk w6 q 91 (ints .u8 x) := hS5.below hb6 hS5.lt
      refine ⟨_, rfl, hS6, ?_⟩
      rw [show numB ((x.take 8).take 4) = genP x from rfl, show numB ((x.drop 56).take 4) = endP x from rfl]
      generalize hgx : genP x = gx
      generalize hex : endP x = ex
      refine reg_now 7 (.int .i64 (mx (mx hk gx) ex)) (some 19) hQN hS6 (by kernel_rfl) (by kernel_rfl) (fun w => by kernel_rfl) ?_
      refine reg_now 8 (.int .i64 (mx (mx hk gx) ex)) (some 3) hQN hS6 (by kernel_rfl) (by kernel_rfl) (fun w => by kernel_rfl) ?_
      refine reg_done (by kernel_rfl) (hN _ _ ?_)
      have BE6 : Hid (Below B w w6) := ((((BE2.out.drew).trans (hb3.mono SZ2.out)).trans (hb4.mono (Nat.le_trans SZ2.out hb3.size))).trans (hb5.mono (Nat.le_trans (Nat.le_trans SZ2.out hb3.size) hb4.size))).trans (hb6.mono (Nat.le_trans (Nat.le_trans (Nat.le_trans SZ2.out hb3.size) hb4.size) hb5.size))
      have SZ6 : Hid (B ≤ w6.heap.size) := by unfold Hid; have := BE6.out.size; have := hB.out; omega
      have HNX : Hid (highK l (i + 1) = mx (mx hk gx) ex) := by unfold Hid; rw [highK, hx.out, hhk.out, hgx, hex]
      clear hQN hN hS hS3 hS4 hS5 hS6 hb3 hb4 hb5 hb6 BE2 SZ2 M2 hgx hex
      generalize hact : Act.put _ (some 3) _ = act
      simp only [Act.put, List.setIfInBounds_toArray, List.set_cons_succ, List.set_cons_zero] at hact
      subst hact
      go_wp2
      exact ⟨⟨i + 1, by omega, by go_num, by rw [HNX.out], BE6.out, SZ6.out⟩, by simp [intOf]; omega⟩
    · have r1 : ¬ (i : Int) < (n : Int) := by omega
      obtain rfl : i = n := by omega
      go_wp2
      go_ret
      exact ⟨rfl, BE.out⟩
end Go.Proofs.YtngpmilojfbpmaaDoor
