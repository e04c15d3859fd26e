import Derived.Test.YteohjbggicchgaaBCodOn
import Derived.Test.YteohjbggicchgaaBCodGr
import Derived.Deep.CutBlock
import Derived.Test.YteohjbggicchgaaBGenT
namespace Go.Proofs.Yteohjbggicchgaa
open Go Go.RowKit
set_option maxRecDepth 100000
theorem takeT_full {t : Tm} (h : termOk t = true) (hl : LvT t) (r : List Int) : takeT (termV t ++ r) = some (t, r) := by
 have h2 := h
 unfold termOk at h2
 simp only [Bool.and_eq_true] at h2
 rw [termV, if_pos h]
 exact takeT_yes (termP_full (termOk_10 h).1 (termOk_10 h).2 hl r) h2.1
theorem numV_full {n : Int} (h : numOk n = true) (r : List Int) : numP (numV n ++ r) = some (n, r) := by
 have h2 := h
 unfold numOk at h2
 simp only [Bool.and_eq_true, decide_eq_true_eq] at h2
 rw [numV, if_pos h, numP_full (by omega), Int.toNat_of_nonneg h2.1]
theorem declV_full {d : Dc} (h : formB d = true) (hl : LvD d) (r : List Int) : declP (declV d ++ r) = some (d, r) := by
 rw [declV, if_pos h]
 exact declP_full h hl r
theorem libV_full {ds : List Dc} (h : libOk ds = true) (hl : ∀ d ∈ ds, LvD d) : libP (libV ds) = some ds := by
 rw [libV, if_pos h]
 exact libP_full h hl
theorem libV_more {ds : List Dc} (h : libOk ds = true) (hl : ∀ d ∈ ds, LvD d) : libP (libV ds ++ [0]) = none := by
 have h2 := h
 unfold libOk at h2
 simp only [Bool.and_eq_true, decide_eq_true_eq, List.all_eq_true] at h2
 rw [libV, if_pos h]
 unfold libP dsB
 rw [List.append_assoc, numP_full (by omega)]
 dsimp only
 rw [if_pos (by omega), Int.toNat_natCast, timesP_full (p := declP) (enc := declB) (xs := ds) (fun d hd r => declP_full (h2.2 d hd) (hl d hd) r) [0]]
 dsimp only
 rw [if_neg (by simp)]
theorem isB.nilK : isB [] := fun z hz => by cases hz
theorem isB.appK {a b : List Int} (ha : isB a) (hb : isB b) : isB (a ++ b) := fun z hz => (List.mem_append.1 hz).elim (ha z) (hb z)
theorem isB.consK {z : Int} {a : List Int} (hz : 0 ≤ z ∧ z < 256) (ha : isB a) : isB (z :: a) := fun y hy => (List.mem_cons.1 hy).elim (fun e => by rw [e]; exact hz) (ha y)
theorem isB.flatK {α : Type} {f : α → List Int} : ∀ {l : List α}, (∀ x ∈ l, isB (f x)) → isB (l.map f).flatten
 | [], _ => isB.nilK
 | x :: l, h => by
  rw [List.map_cons, List.flatten_cons]
  exact isB.appK (h x (by simp)) (isB.flatK fun y hy => h y (by simp [hy]))
theorem digs_len8K : ∀ f n, (digs f n).length ≤ f
 | 0, _ => by simp [digs]
 | f + 1, n => by
  rw [digs]
  split
  ·simp
  ·have := digs_len8K f (n / 256)
   simp only [List.length_append, List.length_singleton]
   omega
theorem numB_isBK (n : Nat) : isB (numB n) := by
 rw [numB]
 refine isB.consK ?_ (digs_isB 8 n)
 have := digs_len8K 8 n
 omega
theorem strB_isBK (s : List UInt8) : isB (strB s) := fun z hz => by
 unfold strB at hz
 obtain ⟨u, -, rfl⟩ := List.mem_map.1 hz
 have := u.toNat_lt
 omega
theorem textB_isBK (s : List UInt8) : isB (textB s) := isB.appK (numB_isBK _) (strB_isBK s)
theorem levelB_isBK (l : Lv) : isB (levelB l) := isB.consK (by omega) fun z hz => by
 obtain ⟨u, -, rfl⟩ := List.mem_map.1 hz
 omega
theorem termsB_isBK : ∀ {a : List Tm}, (∀ x ∈ a, isB (termB x)) → isB (termsB a)
 | [], _ => by rw [termsB]; exact isB.nilK
 | t :: ts, h => by
  rw [termsB]
  exact isB.appK (h t (by simp)) (termsB_isBK fun x hx => h x (by simp [hx]))
theorem termB_isBK : ∀ t : Tm, isB (termB t) := by
 refine Tm.byParts fun k n s l a ih => ?_
 rw [termB]
 refine isB.consK (by omega) (isB.appK ?_ (isB.appK ?_ (isB.appK ?_ (isB.appK (isB.flatK fun x _ => levelB_isBK x) (termsB_isBK ih)))))
 ·split
  ·exact numB_isBK _
  ·exact isB.nilK
 ·split
  ·exact textB_isBK _
  ·exact isB.nilK
 ·split
  ·exact isB.consK (by omega) isB.nilK
  ·exact isB.nilK
theorem declB_isBK (d : Dc) : isB (declB d) := by
 rw [declB]
 refine isB.consK (by omega) (isB.appK (textB_isBK _) (isB.consK (by omega) (isB.appK (termB_isBK _) (isB.appK ?_ ?_))))
 ·split
  ·exact termB_isBK _
  ·exact isB.nilK
 ·split
  ·exact isB.consK (by omega) (isB.consK (by omega) (isB.flatK fun x _ => isB.appK (textB_isBK _) (termB_isBK _)))
  ·exact isB.nilK
theorem numV_is (n : Int) : isB (numV n) := by
 unfold numV
 split
 ·exact numB_isBK _
 ·exact isB.nilK
theorem termV_is (t : Tm) : isB (termV t) := by
 unfold termV
 split
 ·exact termB_isBK _
 ·exact isB.nilK
theorem declV_is (d : Dc) : isB (declV d) := by
 unfold declV
 split
 ·exact declB_isBK _
 ·exact isB.nilK
theorem libV_is (ds : List Dc) : isB (libV ds) := by
 unfold libV
 split
 ·exact isB.appK (numB_isBK _) (isB.flatK fun x _ => declB_isBK x)
 ·exact isB.nilK
theorem numV_sml (n : Int) : (numV n).length ≤ 9 := by
 unfold numV
 split
 ·rename_i h
  unfold numOk at h
  simp only [Bool.and_eq_true, decide_eq_true_eq] at h
  exact numB_len n.toNat (by omega)
 ·simp
theorem termV_sml {t : Tm} (hl : LvT t) : (termV t).length ≤ 180000 := by
 unfold termV
 split
 ·rename_i h
  obtain ⟨h1, h2⟩ := termOk_10 h
  have := termB_len t h1 hl
  omega
 ·simp
theorem declV_sml {d : Dc} (hl : LvD d) : (declV d).length ≤ 2000000 := by
 unfold declV
 split
 ·rename_i h
  exact declB_len (form_ok (form_iff.1 h)) hl
 ·simp
theorem libV_sml {ds : List Dc} (hl : ∀ d ∈ ds, LvD d) : (libV ds).length ≤ 130000000 := by
 unfold libV
 split
 ·rename_i h
  unfold libOk at h
  simp only [Bool.and_eq_true, decide_eq_true_eq, List.all_eq_true] at h
  have h1 := numB_len ds.length (by omega)
  have h2 := dsB_len (ds := ds) (fun d hd => declB_len (form_ok (form_iff.1 (h.2 d hd))) (hl d hd))
  rw [List.length_append]
  omega
 ·simp
end Go.Proofs.Yteohjbggicchgaa
namespace Go.Proofs.Yteohjbggicchgaa
open Go Go.RowKit
set_option maxRecDepth 100000
set_option maxHeartbeats 8000000 in
theorem back10_main {F G : List Nat} (n : Int) (t : Tm) (cs : List Value) (ds : List Dc) (v b : Value) (zs : List Int) (w : World) (ht : TmAt F w t cs) (hs : SmT t) (hd : DcsAt G w ds v) (hsd : ∀ d ∈ ds, SmD d) (hl : ds.length ≤ 140737488351232) (hb : ByteArg w b zs) : Calls Try.prog 4 #[.int .i64 n, .agg cs.toArray, v, b] w fun e w' => e = .returned (.bool true) ∧ Below w.heap.size w w' := by
 obtain ⟨hbi, hnil, hby⟩ := hb
 have IB : Hid (isB zs) := fun z hz => by have := hby z hz; omega
 obtain ⟨ba, bc, rfl, -⟩ := id hbi
 have BI := Lib.hid hbi
 have NI := Lib.hid hnil
 obtain ⟨N, hN⟩ : ∃ N, Hid (zs.length = N) := ⟨_, rfl⟩
 rw [hN.out] at BI NI ⊢
 clear hbi hnil hby
 obtain ⟨q, hq⟩ : ∃ q, Hid (w.heap.size = q) := ⟨_, rfl⟩
 obtain ⟨la, lc, rfl⟩ := hd.slice
 have C5 := Lib.hid ht.len
 have TX := Lib.hid ht
 have DL := Lib.hid hd
 have ST := Lib.hid hs
 have SD := Lib.hid hsd
 have LN := Lib.hid hl
 have LVT := Lib.hid (TmAt.lv _ _ ht)
 have LVS : Hid (∀ d ∈ ds, LvD d) := DcsAt_lv hd
 obtain ⟨L, hL⟩ : ∃ L, Hid (ds.length = L) := ⟨_, rfl⟩
 rw [hL.out] at DL LN ⊢
 clear hd ht hs hsd hl
 go_enter Try.func4, Try.ntmps4
 go_upto_region 0 with (fail)
 refine lbeg (opsOf Try.f4 0) ?_
 refine lbox 0 25 (.tmp 1) (cs) (q) (some 5) hq ?_
 intro w1 bw1 bew1 hsw1
 refine lnow 1 (.bool false) (some 8) ?_
 refine ldn 2 ?_
 generalize hact : Act.put _ (some 8) _ = act
 simp only [Act.put, sA, sC, sZ] at hact
 subst hact
 have BQ := Lib.hid bw1
 have BE : Hid (Below w.heap.size w w1) := by rw [Hid, hq.out]; exact bew1
 have TX := Lib.hid (TX.out.below BE.out)
 have DL := Lib.hid (DL.out.below BE.out)
 have BI := Lib.hid (BI.out.below BE.out (Nat.le_refl _))
 clear bw1 bew1 hsw1 hq
 go_upto_region 1 with (fail)
 refine lbeg (opsOf Try.f4 1) ?_
 refine lcal 0 7 #[] (some 30) _ (alive10_walk w1) ?_
 rintro e w2 ⟨rfl, hb⟩
 refine ⟨_, rfl, ?_⟩
 have BQ := Lib.hid (BQ.out.below hb BQ.out.lt)
 have TX := Lib.hid (TX.out.below hb)
 have DL := Lib.hid (DL.out.below hb)
 have BI := Lib.hid (BI.out.below hb (Nat.le_refl _))
 have BE := Lib.hid (BE.out.trans (hb.mono BE.out.size))
 clear hb
 refine lnow 1 (.bool false) (some 31) ?_
 refine ldn 2 ?_
 generalize hact : Act.put _ (some 31) _ = act
 simp only [Act.put, sA, sC, sZ] at hact
 subst hact
 go_upto_region 3 with (fail)
 refine lbeg (opsOf Try.f4 3) ?_
 refine lrl 0 (cs) (some 32) 25 5 (q) 0 (BQ.out).whole Try.underlying25 (t5Size C5.out) ?_
 refine lcal 1 8 #[.agg cs.toArray] (some 33) _ (great_walk t cs w2 TX.out ST.out) ?_
 rintro e w3 ⟨rfl, hb⟩
 refine ⟨_, rfl, ?_⟩
 have BQ := Lib.hid (BQ.out.below hb BQ.out.lt)
 have TX := Lib.hid (TX.out.below hb)
 have DL := Lib.hid (DL.out.below hb)
 have BI := Lib.hid (BI.out.below hb (Nat.le_refl _))
 have BE := Lib.hid (BE.out.trans (hb.mono BE.out.size))
 clear hb
 by_cases hbig : 3600 < nodesT t
 ·skip
  rw [decide_eq_true hbig]
  refine lnow 2 (.bool true) (some 34) ?_
  refine lpas 3 (some 35) ?_
  refine lpas 4 (some 36) ?_
  refine lnow 5 (.bool true) (some 37) ?_
  refine lnow 6 (.bool true) (some 38) ?_
  refine lpas 7 (some 39) ?_
  refine lpas 8 (some 40) ?_
  refine lpas 9 (some 41) ?_
  refine lnow 10 (.bool true) (some 42) ?_
  refine ldn 11 ?_
  generalize hact : Act.put _ (some 42) _ = act
  simp only [Act.put, sA, sC, sZ] at hact
  subst hact
  go_upto_region 4 with (fail)
  refine lbeg (opsOf Try.f4 4) ?_
  refine lnow 0 (.bool true) (some 8) ?_
  refine ldn 1 ?_
  generalize hact : Act.put _ (some 8) _ = act
  simp only [Act.put, sA, sC, sZ] at hact
  subst hact
  go_wp2
  go_ret
  exact ⟨rfl, BE.out⟩
 rw [decide_eq_false hbig]
 refine lnow 2 (.bool false) (some 34) ?_
 refine lnow 3 (.slice la L lc) (some 35) ?_
 refine lcal 4 9 #[.slice la L lc] (some 36) _ (great10_walk ds _ w3 DL.out SD.out (by rw [hL.out]; exact LN.out)) ?_
 rintro e w4 ⟨b, rfl, hb, hg⟩
 refine ⟨_, rfl, ?_⟩
 have BQ := Lib.hid (BQ.out.below hb BQ.out.lt)
 have TX := Lib.hid (TX.out.below hb)
 have DL := Lib.hid (DL.out.below hb)
 have BI := Lib.hid (BI.out.below hb (Nat.le_refl _))
 have BE := Lib.hid (BE.out.trans (hb.mono BE.out.size))
 clear hb
 refine lnow 5 (.bool b) (some 37) ?_
 refine lnow 6 (.bool b) (some 38) ?_
 cases b
 rotate_left
 ·skip
  refine lpas 7 (some 39) ?_
  refine lpas 8 (some 40) ?_
  refine lpas 9 (some 41) ?_
  refine lnow 10 (.bool true) (some 42) ?_
  refine ldn 11 ?_
  generalize hact : Act.put _ (some 42) _ = act
  simp only [Act.put, sA, sC, sZ] at hact
  subst hact
  go_upto_region 4 with (fail)
  refine lbeg (opsOf Try.f4 4) ?_
  refine lnow 0 (.bool true) (some 8) ?_
  refine ldn 1 ?_
  generalize hact : Act.put _ (some 8) _ = act
  simp only [Act.put, sA, sC, sZ] at hact
  subst hact
  go_wp2
  go_ret
  exact ⟨rfl, BE.out⟩
 refine lnow 7 (.slice ba N bc) (some 39) ?_
 refine lnow 8 (.int .i64 (N : Int)) (some 40) ?_
 refine lnow 9 (.bool (decide (300 < (N : Int)))) (some 41) ?_
 by_cases h3 : N ≤ 300
 rotate_left
 ·skip
  rw [decide_eq_true (show (300 : Int) < (N : Int) by omega)]
  refine lnow 10 (.bool true) (some 42) ?_
  refine ldn 11 ?_
  generalize hact : Act.put _ (some 42) _ = act
  simp only [Act.put, sA, sC, sZ] at hact
  subst hact
  go_upto_region 4 with (fail)
  refine lbeg (opsOf Try.f4 4) ?_
  refine lnow 0 (.bool true) (some 8) ?_
  refine ldn 1 ?_
  generalize hact : Act.put _ (some 8) _ = act
  simp only [Act.put, sA, sC, sZ] at hact
  subst hact
  go_wp2
  go_ret
  exact ⟨rfl, BE.out⟩
 rw [decide_eq_false (show ¬ (300 : Int) < (N : Int) by omega)]
 refine lnow 10 (.bool false) (some 42) ?_
 refine ldn 11 ?_
 generalize hact : Act.put _ (some 42) _ = act
 simp only [Act.put, sA, sC, sZ] at hact
 subst hact
 have N3 : Hid (zs.length ≤ 300) := by rw [Hid, hN.out]; exact h3
 have BIG : Hid (∀ d ∈ ds, SmD d ∧ BigD d) := fun d hd => ⟨SD.out d hd, ((hg rfl).2 d hd).big⟩
 have NT : Hid (nodesT t ≤ 100000000000) := by rw [Hid]; omega
 have L70 : Hid (L ≤ 70) := by have := (hg rfl).1; rw [hL.out] at this; exact this
 clear hg hbig h3
 go_upto_region 5 with (fail)
 refine lbeg (opsOf Try.f4 5) ?_
 refine lnow 0 (.int .i64 n) (some 44) ?_
 refine lcal 1 10 #[.int .i64 n] (some 45) _ (Num_walk n w4) ?_
 rintro e w5 ⟨v9, rfl, hr, hb⟩
 refine ⟨_, rfl, ?_⟩
 have R9 := Lib.hid hr
 clear hr
 have BQ := Lib.hid (BQ.out.below hb BQ.out.lt)
 have TX := Lib.hid (TX.out.below hb)
 have DL := Lib.hid (DL.out.below hb)
 have BI := Lib.hid (BI.out.below hb (Nat.le_refl _))
 have BE := Lib.hid (BE.out.trans (hb.mono BE.out.size))
 clear hb
 obtain ⟨ok, hok⟩ : ∃ y, Hid (numOk n = y) := ⟨_, rfl⟩
 rw [hok.out]
 refine lnow 2 (.tuple #[v9, .bool ok]) (some 43) ?_
 refine lnow 3 (v9) (some 46) ?_
 refine lnow 4 (.bool ok) (some 47) ?_
 refine lnow 5 (v9) (some 9) ?_
 refine lnow 6 (.bool ok) (some 10) ?_
 refine ldn 7 ?_
 generalize hact : Act.put _ (some 10) _ = act
 simp only [Act.put, sA, sC, sZ] at hact
 subst hact
 go_upto_region 6 with (fail)
 refine lbeg (opsOf Try.f4 6) ?_
 refine lnow 0 (.bool ok) (some 48) ?_
 refine ldn 1 ?_
 generalize hact : Act.put _ (some 48) _ = act
 simp only [Act.put, sA, sC, sZ] at hact
 subst hact
 go_upto_if 48 with (fail)
 go_cut [11, 12, 13] from 30 (fun s11 s12 s13 wc => Hid (Below w5.heap.size w5 wc))
 case first =>
  cases ok
  ·skip
   have RF : Hid (Below w5.heap.size w5 w5) := Below.refl _ _
   go_wp2
   go_meet
   case rel => exact RF
  have SML : Hid ((numV n).length ≤ 130000000) := Nat.le_trans (numV_sml n) (by decide)
  go_upto_region 7 with (fail)
  refine lbeg (opsOf Try.f4 7) ?_
  refine lnow 0 (v9) (some 50) ?_
  refine lcal 1 24 #[v9] (some 51) _ (copyb_walk _ _ w5 R9.out.in R9.out.nilok (by have := SML.out; omega)) ?_
  rintro e u1 ⟨vk, rfl, ho, hb1⟩
  refine ⟨_, rfl, ?_⟩
  have RK : Hid (RowB w5.heap.size u1 vk (numV n)) := ho
  have BI1 := Lib.hid (BI.out.below hb1 (Nat.le_refl _))
  clear ho
  refine lnow 2 (.slice ba N bc) (some 52) ?_
  refine lin_app 3 (some 53) vk (.slice ba N bc) (numV n) zs w5.heap.size RK.out (by have := BI1.out; exact this) NI.out (by have := SML.out; have := N3.out; omega) hb1.size (by kernel_rfl) (by kernel_rfl) (by kernel_rfl) ?_
  intro v7 u2 r7 s7
  have hb2 : Below w5.heap.size w5 u2 := hb1.trans (s7.below_of (fun k hk => (ownL_row RK.out k hk).1) hb1.size)
  have R7 := Lib.hid r7
  clear r7 s7 hb1 RK BI1
  have CALL := TakeNum_walk v7 (numV n ++ zs) u2 R7.out.in (isB.appK (numV_is n) IB.out) (by rw [List.length_append]; have := SML.out; have := N3.out; omega)
  rw [numV_full hok.out] at CALL
  refine lcal 4 23 #[v7] (some 54) _ (CALL) ?_
  rintro e u3 ⟨hb3, v, v12, rfl, hv, hr⟩
  obtain rfl : v = .int .i64 n := hv
  refine ⟨_, rfl, ?_⟩
  have R12 := Lib.hid hr
  have B3 := Lib.hid (hb2.trans (hb3.mono hb2.size))
  have BI3 := Lib.hid (BI.out.below B3.out (Nat.le_refl _))
  clear CALL hr hb3 hb2 R7
  refine lnow 5 (.tuple #[.int .i64 n, v12, .bool true]) (some 49) ?_
  refine lnow 6 (.int .i64 n) (some 55) ?_
  refine lnow 7 (v12) (some 56) ?_
  refine lnow 8 (.bool true) (some 57) ?_
  refine lnow 9 (.int .i64 n) (some 11) ?_
  refine lnow 10 (v12) (some 12) ?_
  refine lnow 11 (.bool true) (some 13) ?_
  refine ldn 12 ?_
  generalize hact : Act.put _ (some 13) _ = act
  simp only [Act.put, sA, sC, sZ] at hact
  subst hact
  go_upto_region 8 with (fail)
  refine lbeg (opsOf Try.f4 8) ?_
  refine lnow 0 (.bool true) (some 58) ?_
  refine lnow 1 (.bool false) (some 59) ?_
  refine lnow 2 (.bool false) (some 60) ?_
  refine lnow 3 (.int .i64 n) (some 61) ?_
  refine lnow 4 (.int .i64 n) (some 62) ?_
  refine lnow 5 (.bool (!decide (n = n))) (some 63) ?_
  rw [show (!decide (n = n)) = false by simp]
  refine lnow 6 (.bool false) (some 64) ?_
  refine lnow 7 (.bool false) (some 65) ?_
  refine lnow 8 (v12) (some 66) ?_
  refine lnow 9 (.slice ba N bc) (some 67) ?_
  refine lcal 10 16 #[v12, .slice ba N bc] (some 68) _ (rows_same R12.out BI3.out (by have := N3.out; omega)) ?_
  rintro e u4 ⟨rfl, hb4⟩
  refine ⟨_, rfl, ?_⟩
  have RF : Hid (Below w5.heap.size w5 u4) := B3.out.trans (hb4.mono B3.out.size)
  clear hb4
  refine lnow 11 (.bool false) (some 69) ?_
  refine lnow 12 (.bool false) (some 70) ?_
  refine ldn 13 ?_
  generalize hact : Act.put _ (some 70) _ = act
  simp only [Act.put, sA, sC, sZ] at hact
  subst hact
  go_wp2
  go_meet
  case rel => exact RF
 have hb := hcut.out
 clear hcut hok
 have BQ := Lib.hid (BQ.out.below hb BQ.out.lt)
 have TX := Lib.hid (TX.out.below hb)
 have DL := Lib.hid (DL.out.below hb)
 have BI := Lib.hid (BI.out.below hb (Nat.le_refl _))
 have R9 := Lib.hid (R9.out.below hb)
 have BE := Lib.hid (BE.out.trans (hb.mono BE.out.size))
 clear hb
 clear R9
 obtain ⟨wn, hwn⟩ : ∃ y, y = wc := ⟨_, rfl⟩
 rw [← hwn] at BQ TX DL BI BE ⊢
 clear hwn
 go_upto_region 10 with (fail)
 refine lbeg (opsOf Try.f4 10) ?_
 refine lrl 0 (cs) (some 72) 25 5 (q) 0 (BQ.out).whole Try.underlying25 (t5Size C5.out) ?_
 refine lcal 1 12 #[.agg cs.toArray] (some 73) _ (Term_walk t cs wn TX.out ST.out NT.out) ?_
 rintro e w6 ⟨v14, rfl, hr, hb⟩
 refine ⟨_, rfl, ?_⟩
 have R14 := Lib.hid hr
 clear hr
 have BQ := Lib.hid (BQ.out.below hb BQ.out.lt)
 have TX := Lib.hid (TX.out.below hb)
 have DL := Lib.hid (DL.out.below hb)
 have BI := Lib.hid (BI.out.below hb (Nat.le_refl _))
 have BE := Lib.hid (BE.out.trans (hb.mono BE.out.size))
 clear hb
 obtain ⟨ok, hok⟩ : ∃ y, Hid (termOk t = y) := ⟨_, rfl⟩
 rw [hok.out]
 refine lnow 2 (.tuple #[v14, .bool ok]) (some 71) ?_
 refine lnow 3 (v14) (some 74) ?_
 refine lnow 4 (.bool ok) (some 75) ?_
 refine lnow 5 (v14) (some 14) ?_
 refine lnow 6 (.bool ok) (some 10) ?_
 refine ldn 7 ?_
 generalize hact : Act.put _ (some 10) _ = act
 simp only [Act.put, sA, sC, sZ] at hact
 subst hact
 go_upto_region 11 with (fail)
 refine lbeg (opsOf Try.f4 11) ?_
 refine lnow 0 (.bool ok) (some 76) ?_
 refine ldn 1 ?_
 generalize hact : Act.put _ (some 76) _ = act
 simp only [Act.put, sA, sC, sZ] at hact
 subst hact
 go_upto_if 76 with (fail)
 go_cut [15, 16, 17] from 30 (fun s15 s16 s17 wc => Hid (Below w6.heap.size w6 wc))
 case first =>
  cases ok
  ·skip
   have RF : Hid (Below w6.heap.size w6 w6) := Below.refl _ _
   go_wp2
   go_meet
   case rel => exact RF
  have SML : Hid ((termV t).length ≤ 130000000) := Nat.le_trans (termV_sml LVT.out) (by decide)
  go_upto_region 12 with (fail)
  refine lbeg (opsOf Try.f4 12) ?_
  refine lnow 0 (v14) (some 78) ?_
  refine lcal 1 24 #[v14] (some 79) _ (copyb_walk _ _ w6 R14.out.in R14.out.nilok (by have := SML.out; omega)) ?_
  rintro e u1 ⟨vk, rfl, ho, hb1⟩
  refine ⟨_, rfl, ?_⟩
  have RK : Hid (RowB w6.heap.size u1 vk (termV t)) := ho
  have BI1 := Lib.hid (BI.out.below hb1 (Nat.le_refl _))
  clear ho
  refine lnow 2 (.slice ba N bc) (some 80) ?_
  refine lin_app 3 (some 81) vk (.slice ba N bc) (termV t) zs w6.heap.size RK.out (by have := BI1.out; exact this) NI.out (by have := SML.out; have := N3.out; omega) hb1.size (by kernel_rfl) (by kernel_rfl) (by kernel_rfl) ?_
  intro v7 u2 r7 s7
  have hb2 : Below w6.heap.size w6 u2 := hb1.trans (s7.below_of (fun k hk => (ownL_row RK.out k hk).1) hb1.size)
  have R7 := Lib.hid r7
  clear r7 s7 hb1 RK BI1
  have CALL := TakeTerm_walk v7 (termV t ++ zs) u2 R7.out.in (isB.appK (termV_is t) IB.out) (by rw [List.length_append]; have := SML.out; have := N3.out; omega)
  rw [takeT_full hok.out LVT.out] at CALL
  refine lcal 4 25 #[v7] (some 82) _ (CALL) ?_
  rintro e u3 ⟨hb3, v, v16, rfl, ⟨ks, rfl, hk⟩, hr⟩
  refine ⟨_, rfl, ?_⟩
  have R16 := Lib.hid hr
  have B3 := Lib.hid (hb2.trans (hb3.mono hb2.size))
  have KX := Lib.hid hk
  have K5 := Lib.hid hk.len
  have KONE := Lib.hid hk.one
  clear CALL hr hb3 hb2 R7 hk
  refine lnow 5 (.tuple #[.agg ks.toArray, v16, .bool true]) (some 77) ?_
  refine lnow 6 (.agg ks.toArray) (some 83) ?_
  refine lnow 7 (v16) (some 84) ?_
  refine lnow 8 (.bool true) (some 85) ?_
  obtain ⟨z, hz⟩ : ∃ z, Hid (u3.heap.size = z) := ⟨_, rfl⟩
  refine lall 9 25 z5T (z) (some 15) hz ?_
  intro u4 bu4 beu4 hsu4
  refine lput 10 25 (.tmp 15) (.tmp 83) z _ z5T ks bu4 (K5.out.trans (rfl : 5 = z5T.length)) (t5Size K5.out) (by simpa using KONE.out) ?_
  intro u5 bu5 uu5
  refine lnow 11 (v16) (some 16) ?_
  refine lnow 12 (.bool true) (some 17) ?_
  refine ldn 13 ?_
  generalize hact : Act.put _ (some 17) _ = act
  simp only [Act.put, sA, sC, sZ] at hact
  subst hact
  have hb5 : Below u3.heap.size u3 u5 := by rw [hz.out]; exact uu5.below beu4 (Nat.le_refl _) (by have := hsu4.out; omega)
  have BZ := Lib.hid bu5
  have KX5 := Lib.hid (KX.out.below hb5)
  have R165 := Lib.hid (R16.out.below hb5)
  have B5 := Lib.hid (B3.out.trans (hb5.mono B3.out.size))
  have BI5 := Lib.hid (BI.out.below B5.out (Nat.le_refl _))
  have TX5 := Lib.hid (TX.out.below B5.out)
  have BQ5 := Lib.hid (BQ.out.below B5.out BQ.out.lt)
  clear bu4 beu4 hsu4 bu5 uu5 hb5 hz KX R16 B3
  go_upto_region 13 with (fail)
  refine lbeg (opsOf Try.f4 13) ?_
  refine lnow 0 (.bool true) (some 86) ?_
  refine lnow 1 (.bool false) (some 87) ?_
  refine lnow 2 (.bool false) (some 88) ?_
  refine lrl 3 (ks) (some 89) 25 15 (z) 0 (BZ.out).whole Try.underlying25 (t5Size K5.out) ?_
  refine lrl 4 (cs) (some 90) 25 5 (q) 0 (BQ5.out).whole Try.underlying25 (t5Size C5.out) ?_
  refine lcal 5 26 #[.agg ks.toArray, .agg cs.toArray] (some 91) _ (sameterm_walk t t ks cs u5 _ _ KX5.out TX5.out ST.out) ?_
  rw [eqT_yes rfl]
  rintro e u6 ⟨rfl, hb6⟩
  refine ⟨_, rfl, ?_⟩
  have R166 := R165.out.below hb6
  have BI6 := BI5.out.below hb6 (Nat.le_refl _)
  have B6 := B5.out.trans (hb6.mono B5.out.size)
  clear hb6
  refine lnow 6 (.bool false) (some 92) ?_
  refine lnow 7 (.bool false) (some 93) ?_
  refine lnow 8 (.bool false) (some 94) ?_
  refine lnow 9 (v16) (some 95) ?_
  refine lnow 10 (.slice ba N bc) (some 96) ?_
  refine lcal 11 16 #[v16, .slice ba N bc] (some 97) _ (rows_same R166 BI6 (by have := N3.out; omega)) ?_
  rintro e u7 ⟨rfl, hb7⟩
  refine ⟨_, rfl, ?_⟩
  have RF : Hid (Below w6.heap.size w6 u7) := B6.trans (hb7.mono B6.size)
  clear hb7 R166 BI6 B6
  refine lnow 12 (.bool false) (some 98) ?_
  refine lnow 13 (.bool false) (some 99) ?_
  refine ldn 14 ?_
  generalize hact : Act.put _ (some 99) _ = act
  simp only [Act.put, sA, sC, sZ] at hact
  subst hact
  go_wp2
  go_meet
  case rel => exact RF
 have hb := hcut.out
 clear hcut hok
 have BQ := Lib.hid (BQ.out.below hb BQ.out.lt)
 have TX := Lib.hid (TX.out.below hb)
 have DL := Lib.hid (DL.out.below hb)
 have BI := Lib.hid (BI.out.below hb (Nat.le_refl _))
 have R14 := Lib.hid (R14.out.below hb)
 have BE := Lib.hid (BE.out.trans (hb.mono BE.out.size))
 clear hb
 clear R14
 obtain ⟨wm, hwm⟩ : ∃ y, y = wc := ⟨_, rfl⟩
 rw [← hwm] at BQ TX DL BI BE ⊢
 clear hwm
 go_upto_region 15 with (fail)
 refine lbeg (opsOf Try.f4 15) ?_
 refine lnow 0 (.int .i64 0) (some 18) ?_
 refine ldn 1 ?_
 generalize hact : Act.put _ (some 18) _ = act
 simp only [Act.put, sA, sC, sZ] at hact
 subst hact
 clear TX BQ
 go_wp2
 go_loopw [18] (fun iv wr => ∃ i : Nat, i ≤ L ∧ iv = .int .i64 (i : Int) ∧ Hid (DcsAt G wr ds (.slice la L lc)) ∧ Hid (BytesIn wr (.slice ba N bc) zs) ∧ Hid (Below w.heap.size w wr)) (fun iv _ => L - (intOf iv).toNat)
 case atStart => exact ⟨0, Nat.zero_le _, rfl, DL, BI, BE⟩
 case round =>
  clear DL BI BE
  obtain ⟨i, hi, rfl, DL, BI, BE⟩ := hrel
  have l70 := L70.out
  by_cases hlt : i < L
  rotate_left
  ·skip
   go_upto_region 16 with (fail)
   refine lbeg (opsOf Try.f4 16) ?_
   refine lnow 0 (.int .i64 (i : Int)) (some 100) ?_
   refine lnow 1 (.slice la L lc) (some 101) ?_
   refine lnow 2 (.int .i64 (L : Int)) (some 102) ?_
   refine lnow 3 (.bool (decide ((i : Int) < (L : Int)))) (some 103) ?_
   rw [decide_eq_false (show ¬ (i : Int) < (L : Int) by omega)]
   refine ldn 4 ?_
   generalize hact : Act.put _ (some 103) _ = act
   simp only [Act.put, sA, sC, sZ] at hact
   subst hact
   obtain ⟨wk, hwk⟩ : ∃ y, y = wr := ⟨_, rfl⟩
   rw [← hwk] at DL BI BE ⊢
   clear hwk
   go_upto_region 23 with (fail)
   refine lbeg (opsOf Try.f4 23) ?_
   refine lnow 0 (.slice la L lc) (some 143) ?_
   refine lcal 1 14 #[.slice la L lc] (some 144) _ (Library_walk ds _ wk DL.out BIG.out (by rw [hL.out]; exact LN.out)) ?_
   rintro e x1 ⟨v24, rfl, hr, hb⟩
   refine ⟨_, rfl, ?_⟩
   have R24 := Lib.hid hr
   clear hr
   have DL := Lib.hid (DL.out.below hb)
   have BI := Lib.hid (BI.out.below hb (Nat.le_refl _))
   have BE := Lib.hid (BE.out.trans (hb.mono BE.out.size))
   clear hb
   have SML : Hid ((libV ds).length ≤ 130000000) := libV_sml LVS.out
   cases hok : libOk ds
   ·skip
    refine lnow 2 (.tuple #[v24, .bool false]) (some 142) ?_
    refine lnow 3 (v24) (some 145) ?_
    refine lnow 4 (.bool false) (some 146) ?_
    refine lnow 5 (v24) (some 24) ?_
    refine lnow 6 (.bool false) (some 10) ?_
    refine ldn 7 ?_
    generalize hact : Act.put _ (some 10) _ = act
    simp only [Act.put, sA, sC, sZ] at hact
    subst hact
    go_upto_region 24 with (fail)
    refine lbeg (opsOf Try.f4 24) ?_
    refine lnow 0 (.bool false) (some 147) ?_
    refine lnow 1 (.bool true) (some 148) ?_
    refine ldn 2 ?_
    generalize hact : Act.put _ (some 148) _ = act
    simp only [Act.put, sA, sC, sZ] at hact
    subst hact
    go_upto_region 25 with (fail)
    refine lbeg (opsOf Try.f4 25) ?_
    refine lnow 0 (.bool true) (some 8) ?_
    refine ldn 1 ?_
    generalize hact : Act.put _ (some 8) _ = act
    simp only [Act.put, sA, sC, sZ] at hact
    subst hact
    go_wp2
    go_ret
    exact ⟨rfl, BE.out⟩
   refine lnow 2 (.tuple #[v24, .bool true]) (some 142) ?_
   refine lnow 3 (v24) (some 145) ?_
   refine lnow 4 (.bool true) (some 146) ?_
   refine lnow 5 (v24) (some 24) ?_
   refine lnow 6 (.bool true) (some 10) ?_
   refine ldn 7 ?_
   generalize hact : Act.put _ (some 10) _ = act
   simp only [Act.put, sA, sC, sZ] at hact
   subst hact
   go_upto_region 24 with (fail)
   refine lbeg (opsOf Try.f4 24) ?_
   refine lnow 0 (.bool true) (some 147) ?_
   refine lnow 1 (.bool false) (some 148) ?_
   refine ldn 2 ?_
   generalize hact : Act.put _ (some 148) _ = act
   simp only [Act.put, sA, sC, sZ] at hact
   subst hact
   go_upto_region 26 with (fail)
   refine lbeg (opsOf Try.f4 26) ?_
   refine lnow 0 (v24) (some 150) ?_
   have CALL := TakeLib_walk v24 (libV ds) x1 R24.out.in (libV_is ds) (by have := SML.out; omega)
   rw [libV_full hok LVS.out] at CALL
   refine lcal 1 28 #[v24] (some 151) _ (CALL) ?_
   rintro e x2 ⟨hb, v25, rfl, hds⟩
   refine ⟨_, rfl, ?_⟩
   obtain ⟨ra, rc, rfl⟩ := hds.slice
   rw [hL.out] at hds ⊢
   have DR := Lib.hid hds
   clear hds CALL
   have DL := Lib.hid (DL.out.below hb)
   have BI := Lib.hid (BI.out.below hb (Nat.le_refl _))
   have R24 := Lib.hid (R24.out.below hb)
   have BE := Lib.hid (BE.out.trans (hb.mono BE.out.size))
   clear hb
   refine lnow 2 (.tuple #[.slice ra L rc, .bool true]) (some 149) ?_
   refine lnow 3 (.slice ra L rc) (some 152) ?_
   refine lnow 4 (.bool true) (some 153) ?_
   refine lnow 5 (.slice ra L rc) (some 25) ?_
   refine lnow 6 (.bool true) (some 26) ?_
   refine ldn 7 ?_
   generalize hact : Act.put _ (some 26) _ = act
   simp only [Act.put, sA, sC, sZ] at hact
   subst hact
   go_upto_region 27 with (fail)
   refine lbeg (opsOf Try.f4 27) ?_
   refine lnow 0 (v24) (some 155) ?_
   refine lcal 1 24 #[v24] (some 156) _ (copyb_walk _ _ x2 R24.out.in R24.out.nilok (by have := SML.out; omega)) ?_
   rintro e x3 ⟨vk, rfl, ho, hb3⟩
   refine ⟨_, rfl, ?_⟩
   have RK : Hid (RowB x2.heap.size x3 vk (libV ds)) := ho
   clear ho
   refine lin_new 2 (some 157) [0] 1 rfl (by decide) (by kernel_rfl) (by kernel_rfl) (by kernel_rfl) ?_
   intro vo x4 ro hb4 _ _
   have RO := Lib.hid ro
   have RK4 := Lib.hid (RK.out.below hb4)
   have HB4 : Below x2.heap.size x2 x4 := hb3.trans (hb4.mono hb3.size)
   clear ro RK hb3 hb4
   refine lin_app 3 (some 158) vk vo (libV ds) [0] x2.heap.size RK4.out RO.out.in RO.out.nilok (by have := SML.out; simp only [List.length_singleton]; omega) HB4.size (by kernel_rfl) (by kernel_rfl) (by kernel_rfl) ?_
   intro v7 x5 r7 s7
   have R7 := Lib.hid r7
   have hb : Below x2.heap.size x2 x5 := HB4.trans (s7.below_of (fun k hk => (ownL_row RK4.out k hk).1) HB4.size)
   clear r7 s7 HB4 RK4 RO
   have DL := Lib.hid (DL.out.below hb)
   have BI := Lib.hid (BI.out.below hb (Nat.le_refl _))
   have R24 := Lib.hid (R24.out.below hb)
   have DR := Lib.hid (DR.out.below hb)
   have BE := Lib.hid (BE.out.trans (hb.mono BE.out.size))
   clear hb
   have CALL := TakeLib_walk v7 (libV ds ++ [0]) x5 R7.out.in (isB.appK (libV_is ds) (isB.consK (by decide) isB.nilK)) (by rw [List.length_append]; have := SML.out; simp only [List.length_singleton]; omega)
   rw [libV_more hok LVS.out] at CALL
   refine lcal 4 28 #[v7] (some 159) _ (CALL) ?_
   rintro e x6 ⟨hb, rfl⟩
   refine ⟨_, rfl, ?_⟩
   clear CALL R7
   have DL := Lib.hid (DL.out.below hb)
   have BI := Lib.hid (BI.out.below hb (Nat.le_refl _))
   have R24 := Lib.hid (R24.out.below hb)
   have DR := Lib.hid (DR.out.below hb)
   have BE := Lib.hid (BE.out.trans (hb.mono BE.out.size))
   clear hb
   refine lnow 5 (.tuple #[.slice none 0 0, .bool false]) (some 154) ?_
   refine lnow 6 (.slice none 0 0) (some 160) ?_
   refine lnow 7 (.bool false) (some 161) ?_
   refine lnow 8 (.slice none 0 0) (some 27) ?_
   refine lnow 9 (.bool false) (some 28) ?_
   refine ldn 10 ?_
   generalize hact : Act.put _ (some 28) _ = act
   simp only [Act.put, sA, sC, sZ] at hact
   subst hact
   go_upto_region 28 with (fail)
   refine lbeg (opsOf Try.f4 28) ?_
   refine lnow 0 (.bool true) (some 162) ?_
   refine lnow 1 (.bool false) (some 163) ?_
   refine lnow 2 (.bool false) (some 164) ?_
   refine lnow 3 (.bool false) (some 165) ?_
   refine lnow 4 (.bool false) (some 166) ?_
   refine lnow 5 (.bool false) (some 167) ?_
   refine lnow 6 (.slice ra L rc) (some 168) ?_
   refine lnow 7 (.int .i64 (L : Int)) (some 169) ?_
   refine lnow 8 (.slice la L lc) (some 170) ?_
   refine lnow 9 (.int .i64 (L : Int)) (some 171) ?_
   refine lnow 10 (.bool (!decide ((L : Int) = (L : Int)))) (some 172) ?_
   rw [show (!decide ((L : Int) = (L : Int))) = false by simp]
   refine lnow 11 (.bool false) (some 173) ?_
   refine ldn 12 ?_
   generalize hact : Act.put _ (some 173) _ = act
   simp only [Act.put, sA, sC, sZ] at hact
   subst hact
   go_upto_region 30 with (fail)
   refine lbeg (opsOf Try.f4 30) ?_
   refine lnow 0 (.int .i64 0) (some 29) ?_
   refine ldn 1 ?_
   generalize hact : Act.put _ (some 29) _ = act
   simp only [Act.put, sA, sC, sZ] at hact
   subst hact
   clear R24 BI hok SML
   obtain ⟨wj, hwj⟩ : ∃ y, y = x6 := ⟨_, rfl⟩
   rw [← hwj] at DL DR BE ⊢
   clear hwj
   go_wp2
   go_loopw [29] (fun jv wr => ∃ j : Nat, j ≤ L ∧ jv = .int .i64 (j : Int) ∧ Hid (DcsAt G wr ds (.slice la L lc)) ∧ Hid (DcsAt (List.range x1.heap.size) wr ds (.slice ra L rc)) ∧ Hid (Below w.heap.size w wr)) (fun jv _ => L - (intOf jv).toNat)
   case atStart => exact ⟨0, Nat.zero_le _, rfl, DL, DR, BE⟩
   case round =>
    clear DL DR BE
    obtain ⟨j, hj, rfl, DL, DR, BE⟩ := hrel
    by_cases hlj : j < L
    rotate_left
    ·skip
     go_upto_region 31 with (fail)
     refine lbeg (opsOf Try.f4 31) ?_
     refine lnow 0 (.int .i64 (j : Int)) (some 174) ?_
     refine lnow 1 (.slice ra L rc) (some 175) ?_
     refine lnow 2 (.int .i64 (L : Int)) (some 176) ?_
     refine lnow 3 (.bool (decide ((j : Int) < (L : Int)))) (some 177) ?_
     rw [decide_eq_false (show ¬ (j : Int) < (L : Int) by omega)]
     refine ldn 4 ?_
     generalize hact : Act.put _ (some 177) _ = act
     simp only [Act.put, sA, sC, sZ] at hact
     subst hact
     go_upto_region 35 with (fail)
     refine lbeg (opsOf Try.f4 35) ?_
     refine lnow 0 (.bool true) (some 8) ?_
     refine ldn 1 ?_
     generalize hact : Act.put _ (some 8) _ = act
     simp only [Act.put, sA, sC, sZ] at hact
     subst hact
     go_wp2
     go_ret
     exact ⟨rfl, BE.out⟩
    go_upto_region 31 with (fail)
    refine lbeg (opsOf Try.f4 31) ?_
    refine lnow 0 (.int .i64 (j : Int)) (some 174) ?_
    refine lnow 1 (.slice ra L rc) (some 175) ?_
    refine lnow 2 (.int .i64 (L : Int)) (some 176) ?_
    refine lnow 3 (.bool (decide ((j : Int) < (L : Int)))) (some 177) ?_
    rw [decide_eq_true (show (j : Int) < (L : Int) by omega)]
    refine ldn 4 ?_
    generalize hact : Act.put _ (some 177) _ = act
    simp only [Act.put, sA, sC, sZ] at hact
    subst hact
    obtain ⟨d, pb, po, dcs, hx, hxm, hda, -, hpb, hrx, hdx⟩ := DL.out.get hL.out hlj
    obtain ⟨d2, pb2, po2, ecs, hy, -, hra, -, hpb2, hry, hdy⟩ := DR.out.get hL.out hlj
    obtain rfl : d = d2 := by rw [hx] at hy; exact Option.some.inj hy
    have SX := Lib.hid (SD.out d hxm)
    have C15 := Lib.hid hdx.len
    have E15 := Lib.hid hdy.len
    clear hx hy hxm
    go_upto_region 33 with (fail)
    refine region_begin (opsOf Try.f4 33) (fun W' => Below wr.heap.size wr W') (by kernel_rfl) (by kernel_rfl) 10 (by kernel_rfl) ?_
    intro Q' hQN hN
    have HS : Below wr.heap.size wr wr.drew := (Below.refl _ _).drew
    generalize wr.drew = wd at HS ⊢
    subst hda
    subst hra
    refine reg_now 0 (.slice (some ⟨pb2, po2, none⟩) L rc) (some 180) hQN HS (by kernel_rfl) (by kernel_rfl) (fun w => by kernel_rfl) ?_
    refine reg_now 1 (.int .i64 (j : Int)) (some 181) hQN HS (by kernel_rfl) (by kernel_rfl) (fun w => by kernel_rfl) ?_
    refine reg_now 2 (.pointer (some ⟨pb2, po2 + 15 * j, none⟩)) (some 182) hQN HS (by kernel_rfl) (by kernel_rfl) (fun w' => exec_indexAt 26 (.tmp 180) (.tmp 181) (by kernel_rfl) _ _ _ (by kernel_rfl) (by kernel_rfl) (run_at_dc pb2 po2 L rc j hlj w')) ?_
    refine reg_nowIf 3 (.agg ecs.toArray) (some 183) hQN HS (by kernel_rfl) (by kernel_rfl) (fun w' hw => exec_load_mid 38 (.tmp 182) (by kernel_rfl) pb2 (po2 + 15 * j) (by kernel_rfl) ecs _ (rangeBelow hw hpb2 hry) Try.underlying38 rfl (dcSize E15.out)) ?_
    refine reg_now 4 (.slice (some ⟨pb, po, none⟩) L lc) (some 184) hQN HS (by kernel_rfl) (by kernel_rfl) (fun w => by kernel_rfl) ?_
    refine reg_now 5 (.int .i64 (j : Int)) (some 185) hQN HS (by kernel_rfl) (by kernel_rfl) (fun w => by kernel_rfl) ?_
    refine reg_now 6 (.pointer (some ⟨pb, po + 15 * j, none⟩)) (some 186) hQN HS (by kernel_rfl) (by kernel_rfl) (fun w' => exec_indexAt 26 (.tmp 184) (.tmp 185) (by kernel_rfl) _ _ _ (by kernel_rfl) (by kernel_rfl) (run_at_dc pb po L lc j hlj w')) ?_
    refine reg_nowIf 7 (.agg dcs.toArray) (some 187) hQN HS (by kernel_rfl) (by kernel_rfl) (fun w' hw => exec_load_mid 38 (.tmp 186) (by kernel_rfl) pb (po + 15 * j) (by kernel_rfl) dcs _ (rangeBelow hw hpb hrx) Try.underlying38 rfl (dcSize C15.out)) ?_
    refine reg_call 8 22 #[.agg ecs.toArray, .agg dcs.toArray] (some 188) _ (by kernel_rfl) (by kernel_rfl) (by kernel_rfl) (samedecl_same d ecs dcs wd _ _ (hdy.below HS) (hdx.below HS) SX.out) ?_
    rintro e x9 ⟨rfl, hb⟩
    have HS2 : Below wr.heap.size wr x9 := HS.trans (hb.mono HS.size)
    refine ⟨_, rfl, HS2, ?_⟩
    have HS := HS2
    clear hb HS2
    refine reg_now 9 (.bool false) (some 189) hQN HS (by kernel_rfl) (by kernel_rfl) (fun w => by kernel_rfl) ?_
    have DL9 := Lib.hid (DL.out.below HS)
    have DR9 := Lib.hid (DR.out.below HS)
    have BE9 : Hid (Below w.heap.size w x9) := BE.out.trans (HS.mono BE.out.size)
    clear DL DR BE hrx hry hdx hdy hpb hpb2
    refine reg_done (by kernel_rfl) (hN _ _ ?_)
    generalize hact : Act.put _ (some 189) _ = act
    simp only [Act.put, sA, sC, sZ] at hact
    subst hact
    clear HS hQN hN
    go_wp2
    go_roundw
    case rel => exact ⟨j + 1, by omega, by go_num, DL9, DR9, BE9⟩
    case measure => simp [intOf]; omega
  go_upto_region 16 with (fail)
  refine lbeg (opsOf Try.f4 16) ?_
  refine lnow 0 (.int .i64 (i : Int)) (some 100) ?_
  refine lnow 1 (.slice la L lc) (some 101) ?_
  refine lnow 2 (.int .i64 (L : Int)) (some 102) ?_
  refine lnow 3 (.bool (decide ((i : Int) < (L : Int)))) (some 103) ?_
  rw [decide_eq_true (show (i : Int) < (L : Int) by omega)]
  refine ldn 4 ?_
  generalize hact : Act.put _ (some 103) _ = act
  simp only [Act.put, sA, sC, sZ] at hact
  subst hact
  obtain ⟨d, pb, po, dcs, hx, hxm, hda, -, hpb, hrx, hdx⟩ := DL.out.get hL.out hlt
  subst hda
  have C15 := Lib.hid hdx.len
  have SX := Lib.hid (SD.out d hxm)
  have BX := Lib.hid (BIG.out d hxm).2
  have LVX := Lib.hid hdx.lv
  have RX := Lib.hid hrx
  have PB := Lib.hid hpb
  have DX := Lib.hid hdx
  clear hx hxm hrx hdx hpb
  go_upto_region 18 with (fail)
  refine lbeg (opsOf Try.f4 18) ?_
  refine lnow 0 (.slice (some ⟨pb, po, none⟩) L lc) (some 107) ?_
  refine lnow 1 (.int .i64 (i : Int)) (some 108) ?_
  refine lix 2 (.pointer (some ⟨pb, po + 15 * i, none⟩)) (some 109) 26 107 108 (run_at_dc pb po L lc i hlt _) ?_
  refine lrl 3 dcs (some 110) 38 109 pb (po + 15 * i) RX.out Try.underlying38 (dcSize C15.out) ?_
  refine lcal 4 18 #[.agg dcs.toArray] (some 111) _ (Decl_walk d dcs wr DX.out SX.out BX.out) ?_
  rintro e y1 ⟨v19, rfl, hr, hb⟩
  refine ⟨_, rfl, ?_⟩
  have R19 := Lib.hid hr
  clear hr
  have RX := Lib.hid (rangeBelow hb PB.out RX.out)
  have PB : Hid (pb < y1.heap.size) := Nat.lt_of_lt_of_le PB.out hb.size
  have DL := Lib.hid (DL.out.below hb)
  have BI := Lib.hid (BI.out.below hb (Nat.le_refl _))
  have DX := Lib.hid (DX.out.below hb)
  have BE := Lib.hid (BE.out.trans (hb.mono BE.out.size))
  clear hb
  have SML : Hid ((declV d).length ≤ 130000000) := Nat.le_trans (declV_sml LVX.out) (by decide)
  cases hok : formB d
  ·skip
   refine lnow 5 (.tuple #[v19, .bool false]) (some 106) ?_
   refine lnow 6 (v19) (some 112) ?_
   refine lnow 7 (.bool false) (some 113) ?_
   refine lnow 8 (v19) (some 19) ?_
   refine lnow 9 (.bool false) (some 20) ?_
   refine ldn 10 ?_
   generalize hact : Act.put _ (some 20) _ = act
   simp only [Act.put, sA, sC, sZ] at hact
   subst hact
   go_upto_region 19 with (fail)
   refine lbeg (opsOf Try.f4 19) ?_
   refine lnow 0 (.bool false) (some 114) ?_
   refine lnow 1 (.bool true) (some 115) ?_
   refine ldn 2 ?_
   generalize hact : Act.put _ (some 115) _ = act
   simp only [Act.put, sA, sC, sZ] at hact
   subst hact
   clear DX RX R19 hok SML
   go_wp2
   go_roundw
   case rel => exact ⟨i + 1, by omega, by go_num, DL, BI, BE⟩
   case measure => simp [intOf]; omega
  refine lnow 5 (.tuple #[v19, .bool true]) (some 106) ?_
  refine lnow 6 (v19) (some 112) ?_
  refine lnow 7 (.bool true) (some 113) ?_
  refine lnow 8 (v19) (some 19) ?_
  refine lnow 9 (.bool true) (some 20) ?_
  refine ldn 10 ?_
  generalize hact : Act.put _ (some 20) _ = act
  simp only [Act.put, sA, sC, sZ] at hact
  subst hact
  go_upto_region 19 with (fail)
  refine lbeg (opsOf Try.f4 19) ?_
  refine lnow 0 (.bool true) (some 114) ?_
  refine lnow 1 (.bool false) (some 115) ?_
  refine ldn 2 ?_
  generalize hact : Act.put _ (some 115) _ = act
  simp only [Act.put, sA, sC, sZ] at hact
  subst hact
  go_upto_region 20 with (fail)
  refine lbeg (opsOf Try.f4 20) ?_
  refine lnow 0 (v19) (some 117) ?_
  refine lcal 1 24 #[v19] (some 118) _ (copyb_walk _ _ y1 R19.out.in R19.out.nilok (by have := SML.out; omega)) ?_
  rintro e u1 ⟨vk, rfl, ho, hb1⟩
  refine ⟨_, rfl, ?_⟩
  have RK : Hid (RowB y1.heap.size u1 vk (declV d)) := ho
  have BI1 := Lib.hid (BI.out.below hb1 (Nat.le_refl _))
  clear ho
  refine lnow 2 (.slice ba N bc) (some 119) ?_
  refine lin_app 3 (some 120) vk (.slice ba N bc) (declV d) zs y1.heap.size RK.out (by have := BI1.out; exact this) NI.out (by have := SML.out; have := N3.out; omega) hb1.size (by kernel_rfl) (by kernel_rfl) (by kernel_rfl) ?_
  intro v7 u2 r7 s7
  have hb2 : Below y1.heap.size y1 u2 := hb1.trans (s7.below_of (fun k hk => (ownL_row RK.out k hk).1) hb1.size)
  have R7 := Lib.hid r7
  clear r7 s7 hb1 RK BI1
  have hb := hb2
  have R7b := R7
  clear hb2 R7
  clear R19
  have RX := Lib.hid (rangeBelow hb PB.out RX.out)
  have PB : Hid (pb < u2.heap.size) := Nat.lt_of_lt_of_le PB.out hb.size
  have DL := Lib.hid (DL.out.below hb)
  have BI := Lib.hid (BI.out.below hb (Nat.le_refl _))
  have DX := Lib.hid (DX.out.below hb)
  have BE := Lib.hid (BE.out.trans (hb.mono BE.out.size))
  clear hb
  have CALL := TakeDecl_walk v7 (declV d ++ zs) u2 R7b.out.in (isB.appK (declV_is d) IB.out) (by rw [List.length_append]; have := SML.out; have := N3.out; omega)
  rw [declV_full hok LVX.out] at CALL
  refine lcal 4 27 #[v7] (some 121) _ (CALL) ?_
  rintro e u3 ⟨hb, v, v22, rfl, ⟨ks, rfl, hk⟩, hr⟩
  refine ⟨_, rfl, ?_⟩
  have R22 := Lib.hid hr
  have K15 := Lib.hid hk.len
  have KONE := Lib.hid hk.one
  have KX : Hid (DcAt [] u3 d ks) := hk.sub (fun k hk => by cases hk)
  clear CALL hr R7b hk
  have RX := Lib.hid (rangeBelow hb PB.out RX.out)
  have PB : Hid (pb < u3.heap.size) := Nat.lt_of_lt_of_le PB.out hb.size
  have DL := Lib.hid (DL.out.below hb)
  have BI := Lib.hid (BI.out.below hb (Nat.le_refl _))
  have DX := Lib.hid (DX.out.below hb)
  have BE := Lib.hid (BE.out.trans (hb.mono BE.out.size))
  clear hb
  refine lnow 5 (.tuple #[.agg ks.toArray, v22, .bool true]) (some 116) ?_
  refine lnow 6 (.agg ks.toArray) (some 122) ?_
  refine lnow 7 (v22) (some 123) ?_
  refine lnow 8 (.bool true) (some 124) ?_
  obtain ⟨z, hz⟩ : ∃ z, Hid (u3.heap.size = z) := ⟨_, rfl⟩
  refine lin_alloc 9 38 zD z (some 21) (by kernel_rfl) (by kernel_rfl) (by kernel_rfl) zeroDc hz ?_
  intro u4 b4 be4 hs4
  refine lput 10 38 (.tmp 21) (.tmp 122) z _ zD ks b4 (K15.out.trans (rfl : 15 = zD.length)) (dcSize K15.out) (by simpa using KONE.out) ?_
  intro u5 b5 uu5
  refine lnow 11 (v22) (some 22) ?_
  refine lnow 12 (.bool true) (some 23) ?_
  refine ldn 13 ?_
  generalize hact : Act.put _ (some 23) _ = act
  simp only [Act.put, sA, sC, sZ] at hact
  subst hact
  have hb : Below u3.heap.size u3 u5 := by rw [hz.out]; exact uu5.below be4 (Nat.le_refl _) (by have := hs4.out; omega)
  have BZ := Lib.hid b5
  clear b4 be4 hs4 b5 uu5 hz
  have RX := Lib.hid (rangeBelow hb PB.out RX.out)
  have PB : Hid (pb < u5.heap.size) := Nat.lt_of_lt_of_le PB.out hb.size
  have DL := Lib.hid (DL.out.below hb)
  have BI := Lib.hid (BI.out.below hb (Nat.le_refl _))
  have DX := Lib.hid (DX.out.below hb)
  have R22 := Lib.hid (R22.out.below hb)
  have KX := Lib.hid (KX.out.below hb)
  have BE := Lib.hid (BE.out.trans (hb.mono BE.out.size))
  clear hb
  go_upto_region 21 with (fail)
  refine region_begin (opsOf Try.f4 21) (fun W' => Below u5.heap.size u5 W') (by kernel_rfl) (by kernel_rfl) 17 (by kernel_rfl) ?_
  intro Q' hQN hN
  have HS : Below u5.heap.size u5 u5.drew := (Below.refl _ _).drew
  generalize u5.drew = x0 at HS ⊢
  refine reg_now 0 (.bool true) (some 125) hQN HS (by kernel_rfl) (by kernel_rfl) (fun w => by kernel_rfl) ?_
  refine reg_now 1 (.bool false) (some 126) hQN HS (by kernel_rfl) (by kernel_rfl) (fun w => by kernel_rfl) ?_
  refine reg_now 2 (.bool false) (some 127) hQN HS (by kernel_rfl) (by kernel_rfl) (fun w => by kernel_rfl) ?_
  refine reg_nowIf 3 (.agg ks.toArray) (some 128) hQN HS (by kernel_rfl) (by kernel_rfl) (fun w' hw => exec_load_mid 38 (.tmp 21) (by kernel_rfl) z 0 (by kernel_rfl) ks _ (BZ.out.below hw BZ.out.lt).whole Try.underlying38 rfl (dcSize K15.out)) ?_
  refine reg_now 4 (.slice (some ⟨pb, po, none⟩) L lc) (some 129) hQN HS (by kernel_rfl) (by kernel_rfl) (fun w => by kernel_rfl) ?_
  refine reg_now 5 (.int .i64 (i : Int)) (some 130) hQN HS (by kernel_rfl) (by kernel_rfl) (fun w => by kernel_rfl) ?_
  refine reg_now 6 (.pointer (some ⟨pb, po + 15 * i, none⟩)) (some 131) hQN HS (by kernel_rfl) (by kernel_rfl) (fun w' => exec_indexAt 26 (.tmp 129) (.tmp 130) (by kernel_rfl) _ _ _ (by kernel_rfl) (by kernel_rfl) (run_at_dc pb po L lc i hlt w')) ?_
  refine reg_nowIf 7 (.agg dcs.toArray) (some 132) hQN HS (by kernel_rfl) (by kernel_rfl) (fun w' hw => exec_load_mid 38 (.tmp 131) (by kernel_rfl) pb (po + 15 * i) (by kernel_rfl) dcs _ (rangeBelow hw PB.out RX.out) Try.underlying38 rfl (dcSize C15.out)) ?_
  refine reg_call 8 22 #[.agg ks.toArray, .agg dcs.toArray] (some 133) _ (by kernel_rfl) (by kernel_rfl) (by kernel_rfl) (samedecl_same d ks dcs x0 _ _ (KX.out.below HS) (DX.out.below HS) SX.out) ?_
  rintro e x1 ⟨rfl, hb⟩
  have HS2 : Below u5.heap.size u5 x1 := HS.trans (hb.mono HS.size)
  refine ⟨_, rfl, HS2, ?_⟩
  have HS := HS2
  clear hb HS2
  refine reg_now 9 (.bool false) (some 134) hQN HS (by kernel_rfl) (by kernel_rfl) (fun w => by kernel_rfl) ?_
  refine reg_now 10 (.bool false) (some 135) hQN HS (by kernel_rfl) (by kernel_rfl) (fun w => by kernel_rfl) ?_
  refine reg_now 11 (.bool false) (some 136) hQN HS (by kernel_rfl) (by kernel_rfl) (fun w => by kernel_rfl) ?_
  refine reg_now 12 (v22) (some 137) hQN HS (by kernel_rfl) (by kernel_rfl) (fun w => by kernel_rfl) ?_
  refine reg_now 13 (.slice ba N bc) (some 138) hQN HS (by kernel_rfl) (by kernel_rfl) (fun w => by kernel_rfl) ?_
  refine reg_call 14 16 #[v22, .slice ba N bc] (some 139) _ (by kernel_rfl) (by kernel_rfl) (by kernel_rfl) (rows_same (R22.out.below HS) (BI.out.below HS (Nat.le_refl _)) (by have := N3.out; omega)) ?_
  rintro e x2 ⟨rfl, hb⟩
  have HS2 : Below u5.heap.size u5 x2 := HS.trans (hb.mono HS.size)
  refine ⟨_, rfl, HS2, ?_⟩
  have HS := HS2
  clear hb HS2
  refine reg_now 15 (.bool false) (some 140) hQN HS (by kernel_rfl) (by kernel_rfl) (fun w => by kernel_rfl) ?_
  refine reg_now 16 (.bool false) (some 141) hQN HS (by kernel_rfl) (by kernel_rfl) (fun w => by kernel_rfl) ?_
  have DL2 := Lib.hid (DL.out.below HS)
  have BI2 := Lib.hid (BI.out.below HS (Nat.le_refl _))
  have BE2 : Hid (Below w.heap.size w x2) := BE.out.trans (HS.mono BE.out.size)
  clear DL BI BE DX RX KX R22 BZ SML hok
  refine reg_done (by kernel_rfl) (hN _ _ ?_)
  generalize hact : Act.put _ (some 141) _ = act
  simp only [Act.put, sA, sC, sZ] at hact
  subst hact
  clear HS hQN hN
  go_wp2
  go_roundw
  case rel => exact ⟨i + 1, by omega, by go_num, DL2, BI2, BE2⟩
  case measure => simp [intOf]; omega
end Go.Proofs.Yteohjbggicchgaa
