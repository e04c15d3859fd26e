/- package tag's Set over whatever digests; the statements' own sameAll. -/
import Derived.Test.YtoeilaedpibboaaDoorTagSoG
namespace Go.Proofs.YtoeilaedpibboaaDoor
open Go Go.RowKit
set_option maxRecDepth 100000

set_option maxHeartbeats 1000000 in
theorem tset_pos (kind : Int) (u : Value) (ds : List (List Int)) (n : Nat) (w : World) (hu : DigsIn w u ds) (hn : ds.length = n) (h0 : 1 ≤ n) (hl : n ≤ 1000) (hok : okD ds) (hK : KW w) :
    Calls Tryd.prog 16 #[.int .u8 kind, u] w fun e w' => e = .returned (.agg (ints .u8 (nodeL kind (sortS ds))).toArray) ∧ Below w.heap.size w w' := by
  have hst := fun w1 (hb : Below w.heap.size w w1) => tsort_pos u ds n w1 (hu.below hb (Nat.le_refl _)) hn h0 hl hok
  have HST := Lib.hid hst
  have h32 : okD (sortS ds) := fun d hd => hok d ((sortS_mem d ds).1 hd)
  have hr0 := sortS_len ds
  have HK := Lib.hid hK
  obtain ⟨a, c, rfl, -⟩ := id hu
  clear hst hu hok hK
  obtain ⟨rl, hr⟩ : ∃ rl, Hid (sortS ds = rl) := ⟨_, rfl⟩
  rw [hr.out] at HST h32 hr0 ⊢
  have H32 := Lib.hid h32
  obtain ⟨j, hrl⟩ : ∃ j, rl.length = j := ⟨_, rfl⟩
  have HRL := Lib.hid hrl
  rw [hrl, hn] at hr0
  clear h32 hrl
  have HFL : Hid (rl.flatten.length ≤ 1000000) := by unfold Hid; rw [flat32_length H32.out.a, HRL.out]; omega
  rw [hn] at HST ⊢
  clear hn
  go_enter Tryd.func16, Tryd.ntmps16
  go_wp2_with fail
  refine (HST.out _ ((Below.refl _ _).alloc (Nat.le_refl _) _)).mono ?_
  rintro e w1 ⟨D, cap, rest, rfl, hD, -, hdg, hb1⟩
  rw [HRL.out]
  have R1 : Hid (Blk w1 w.heap.size 24 (ints .u8 (List.replicate 32 0))) := (Blk.new2 w _ _ _ _ rfl (by kernel_rfl)).below hb1 (by simp)
  have HB1 : Hid (Below w.heap.size w w1) := ((Below.refl _ _).alloc (Nat.le_refl _) _).trans (hb1.mono (by simp))
  have HDG := Lib.hid hdg
  have hDw : w.heap.size < D := by have : (w.alloc _).heap.size ≤ D := hD; simp at this; omega
  clear hD hdg hb1 HST
  go_wp2_with (refine wpList_make_blk _ rfl _ _ 38 rfl 36 (.slice none 0 0) 24 Tryd.underlying38 infoBytes3 rfl _ _ _ _ j rfl rfl rfl rfl (by omega) (by omega) ?_)
  intro w2 hb2 hbe2 hsz2
  obtain ⟨P, hP⟩ : ∃ P, P = w1.heap.size := ⟨_, rfl⟩
  rw [← hP] at hb2 ⊢
  have hDP : D < P := by have := Blk.lt HDG.out; omega
  have P2 : Hid (Blk w2 P 36 (digSlices D 0 ++ List.replicate (j - 0) (.slice none 0 0))) := hb2
  have R2 := Lib.hid (R1.out.below hbe2 R1.out.lt)
  have HB2 := Lib.hid (HB1.out.trans (hbe2.mono HB1.out.size))
  have DG2 := Lib.hid (HDG.out.below hbe2 (Blk.lt HDG.out))
  clear hb2 hbe2 hsz2 hP R1 HB1 HDG
  have hat := fun k (hk : k < j) w => run_at_digest D 0 j cap k hk w
  have HAT := Lib.hid hat
  clear hat
  go_wp2
  go_loopw [15, 7] (fun i _ wr => ∃ k : Nat, k ≤ j ∧ i = .int .i64 k ∧ Blk wr P 36 (digSlices D k ++ List.replicate (j - k) (.slice none 0 0)) ∧ Upd P w2 wr) (fun i _ _ => j - (intOf i).toNat)
  case atStart => exact ⟨0, by omega, rfl, P2.out, Upd.refl _ _⟩
  case round =>
    obtain ⟨k, hk, rfl, hPb, hU⟩ := hrel
    by_cases hlt : k < j
    · have q1 : (k : Int) < (j : Int) := by omega
      have ha := fun w => HAT.out k hlt w
      rw [Nat.zero_add] at ha
      have hlen : (digSlices D k ++ List.replicate (j - k) (Value.slice none 0 0)).length = j := by rw [List.length_append, digSlices_length, List.length_replicate]; omega
      have cP := hPb.cell (j := k) (v := .slice none 0 0) (by rw [List.getElem?_append_right (by rw [digSlices_length]; omega), digSlices_length, List.getElem?_replicate, if_pos (by omega)])
      have fP := hPb.free k
      have HP := Lib.hid hPb
      have HU := Lib.hid hU
      clear hPb hU hlen P2
      go_wp2
      go_roundw
      case rel =>
        refine ⟨k + 1, by omega, by go_num, ?_, HU.out.setCell k _⟩
        have h1 := HP.out.set k (.slice (some ⟨D, 32 * k, none⟩) 32 32)
        have h2 := set_fill (digSlices D k) (j - (k + 1)) (.slice none 0 0) (.slice (some ⟨D, 32 * k, none⟩) 32 32)
        rw [digSlices_length, show j - (k + 1) + 1 = j - k by omega] at h2
        rw [h2] at h1
        exact h1
      case measure => simp [intOf]; omega
    · have q1 : ¬ (k : Int) < (j : Int) := by omega
      have HP : Hid (Blk wr P 36 (digSlices D rl.length)) := by
        have e : k = j := by omega
        subst e
        unfold Hid
        rw [HRL.out]
        simpa using hPb
      have R3 := Lib.hid (hU.blk R2.out (by omega))
      have HB3 := Lib.hid (hU.below HB2.out (by omega) HB2.out.size)
      have DG3 := Lib.hid (DG2.out.upd hU (by omega))
      have HPI : Hid (PartsIn wr (.slice (some ⟨P, 0, none⟩) j j) rl) := by
        have := parts_digs HP.out DG3.out H32.out.a (by rw [HRL.out]; omega)
        rw [HRL.out] at this
        exact this
      have KW3 := Lib.hid (HK.out.below HB3.out HK.out.lt)
      clear hPb hU P2 R2 HB2 DG2
      go_wp2_with fail
      refine (node_walk kind _ rl _ HPI.out (by rw [HRL.out]; omega) HFL.out KW3.out).mono ?_
      rintro e w4 ⟨rfl, hb4⟩
      have R4 := Lib.hid (R3.out.below hb4 R3.out.lt)
      have HB4 := Lib.hid (HB3.out.trans (hb4.mono HB3.out.size))
      clear hb4 R3 HB3 KW3 HPI HP DG3
      obtain ⟨res, hres⟩ : ∃ r, Hid (nodeL kind rl = r) := ⟨_, rfl⟩
      have HRS : Hid (res.length = 32) := by unfold Hid; rw [← hres.out]; exact nodeL_length _ _
      rw [hres.out]
      have HI : Hid ((Tryd.prog.info? 24).map (·.size) = some (ints .u8 res).length) := by unfold Hid; rw [ints_length, HRS.out]; exact infoDigest
      have HI' : Hid ((Tryd.prog.info? 24).map (·.size) = some (ints .u8 res).toArray.size) := by unfold Hid; rw [List.size_toArray, ints_length, HRS.out]; exact infoDigest
      have HL : Hid ((ints .u8 res).length = (ints .u8 (List.replicate 32 0)).length) := by unfold Hid; rw [ints_length, HRS.out, ints_length, List.length_replicate]
      go_wp2_with (refine wpList_store_whole rfl 24 _ _ rfl w.heap.size (ints .u8 res) rfl rfl 24 (ints .u8 (List.replicate 32 0)) R4.out HL.out HI.out (ints_oneCell _ _) ?_)
      intro w5 hb5 hup5 _
      refine wpList_nil ?_
      go_wp2
      have hbl := hup5.below HB4.out (Nat.le_refl _) HB4.out.size
      refine bodyPost_ret (v := .agg (ints .u8 res).toArray) ?_ rfl ⟨by rw [hres.out], hbl⟩
      refine results_cell_row (g := w.heap.size) (t := 24) (cs := (ints .u8 res).toArray) (fr := (0, 0)) Tryd.results16 _ _ _ ?_ ?_ Tryd.underlying24 rfl HI'.out
      · rfl
      · exact hb5
theorem tset_zero (kind : Int) (a : Option Addr) (c : Nat) (hnil : NilOk (.slice a 0 c)) (w : World) (hK : KW w) :
    Calls Tryd.prog 16 #[.int .u8 kind, .slice a 0 c] w fun e w' => e = .returned (.agg (ints .u8 (nodeL kind [])).toArray) ∧ Below w.heap.size w w' := by
  have HST : Hid (∀ w1, Calls Tryd.prog 14 #[.slice a 0 c] w1 (NoDig w1)) := fun w1 => tsort_zero a c hnil w1
  have HK := Lib.hid hK
  clear hK hnil
  go_enter Tryd.func16, Tryd.ntmps16
  go_wp2_with fail
  refine (HST.out _).mono ?_
  rintro e w1 ⟨a1, c1, rfl, -, hb1⟩
  have R1 : Hid (Blk w1 w.heap.size 24 (ints .u8 (List.replicate 32 0))) := (Blk.new2 w _ _ _ _ rfl (by kernel_rfl)).below hb1 (by simp)
  have HB1 : Hid (Below w.heap.size w w1) := ((Below.refl _ _).alloc (Nat.le_refl _) _).trans (hb1.mono (by simp))
  clear hb1 HST
  go_wp2_with (refine wpList_make_blk _ rfl _ _ 38 rfl 36 (.slice none 0 0) 24 Tryd.underlying38 infoBytes3 rfl _ _ _ _ 0 rfl rfl rfl rfl (by omega) (by omega) ?_)
  intro w2 hb2 hbe2 hsz2
  obtain ⟨P, hP⟩ : ∃ P, P = w1.heap.size := ⟨_, rfl⟩
  rw [← hP] at hb2 ⊢
  have R3 := Lib.hid (R1.out.below hbe2 R1.out.lt)
  have HB3 := Lib.hid (HB1.out.trans (hbe2.mono HB1.out.size))
  clear hb2 hbe2 hsz2 hP R1 HB1
  go_wp2
  go_loopw [15, 7] (fun i _ wr => i = .int .i64 0 ∧ wr = w2) (fun _ _ _ => 0)
  case atStart => exact ⟨rfl, rfl⟩
  case round =>
    obtain ⟨rfl, rfl⟩ := hrel
    have q1 : ¬ (0 : Int) < 0 := by omega
    have KW3 := Lib.hid (HK.out.below HB3.out HK.out.lt)
    have HPI : Hid (PartsIn wr (.slice (some ⟨P, 0, none⟩) 0 0) []) := ⟨some ⟨P, 0, none⟩, 0, [], rfl, rfl, by simp, fun h => absurd h (by simp), fun k v zs hv => by simp at hv⟩
    go_wp2_with fail
    refine (node_walk kind _ [] _ HPI.out (by simp) (by simp) KW3.out).mono ?_
    rintro e w4 ⟨rfl, hb4⟩
    have R4 := Lib.hid (R3.out.below hb4 R3.out.lt)
    have HB4 := Lib.hid (HB3.out.trans (hb4.mono HB3.out.size))
    clear hb4 R3 HB3 KW3 HPI
    obtain ⟨res, hres⟩ : ∃ r, Hid (nodeL kind [] = r) := ⟨_, rfl⟩
    have HRS : Hid (res.length = 32) := by unfold Hid; rw [← hres.out]; exact nodeL_length _ _
    rw [hres.out]
    have HI : Hid ((Tryd.prog.info? 24).map (·.size) = some (ints .u8 res).length) := by unfold Hid; rw [ints_length, HRS.out]; exact infoDigest
    have HI' : Hid ((Tryd.prog.info? 24).map (·.size) = some (ints .u8 res).toArray.size) := by unfold Hid; rw [List.size_toArray, ints_length, HRS.out]; exact infoDigest
    have HL : Hid ((ints .u8 res).length = (ints .u8 (List.replicate 32 0)).length) := by unfold Hid; rw [ints_length, HRS.out, ints_length, List.length_replicate]
    go_wp2_with (refine wpList_store_whole rfl 24 _ _ rfl w.heap.size (ints .u8 res) rfl rfl 24 (ints .u8 (List.replicate 32 0)) R4.out HL.out HI.out (ints_oneCell _ _) ?_)
    intro w5 hb5 hup5 _
    refine wpList_nil ?_
    go_wp2
    have hbl := hup5.below HB4.out (Nat.le_refl _) HB4.out.size
    refine bodyPost_ret (v := .agg (ints .u8 res).toArray) ?_ rfl ⟨by rw [hres.out], hbl⟩
    refine results_cell_row (g := w.heap.size) (t := 24) (cs := (ints .u8 res).toArray) (fr := (0, 0)) Tryd.results16 _ _ _ ?_ ?_ Tryd.underlying24 rfl HI'.out
    · rfl
    · exact hb5
theorem tset_all (kind : Int) (u : Value) (ds : List (List Int)) (w : World) (hu : DigsIn w u ds) (hnil : NilOk u) (hl : ds.length ≤ 1000) (hok : okD ds) (hK : KW w) :
    Calls Tryd.prog 16 #[.int .u8 kind, u] w fun e w' => e = .returned (.agg (ints .u8 (nodeL kind (sortS ds))).toArray) ∧ Below w.heap.size w w' := by
  by_cases h0 : 1 ≤ ds.length
  · exact tset_pos kind u ds _ w hu rfl h0 hl hok hK
  · have e : ds = [] := List.eq_nil_of_length_eq_zero (by omega)
    subst e
    obtain ⟨a, c, rfl, -⟩ := hu
    exact tset_zero kind a c hnil w hK
theorem tsort_all (u : Value) (ds : List (List Int)) (w : World) (hu : DigsIn w u ds) (hnil : NilOk u) (hl : ds.length ≤ 1000) (hok : okD ds) :
    Calls Tryd.prog 14 #[u] w fun e w' => ∃ v, e = .returned v ∧ DigsIn w' v (sortS ds) ∧ NilOk v ∧ Below w.heap.size w w' := by
  by_cases h0 : 1 ≤ ds.length
  · refine (tsort_pos u ds _ w hu rfl h0 hl hok).mono ?_
    rintro e w' ⟨D, cap, rest, rfl, -, -, hd, hb⟩
    refine ⟨_, rfl, ⟨_, _, rfl, fun _ => ⟨D, 0, rfl, Blk.lt hd, ?_⟩⟩, trivial, hb⟩
    intro j v hv
    have h1 := Blk.cell hd (j := j) (v := v) (by rw [List.getElem?_append_left (List.getElem?_eq_some_iff.1 hv).1]; exact hv)
    rwa [Nat.zero_add]
  · have e : ds = [] := List.eq_nil_of_length_eq_zero (by omega)
    subst e
    obtain ⟨a, c, rfl, -⟩ := hu
    refine (tsort_zero a c hnil w).mono ?_
    rintro e w' ⟨a2, c2, rfl, hn2, hb⟩
    exact ⟨_, rfl, ⟨a2, c2, rfl, fun h => absurd h (by simp [sortS])⟩, hn2, hb⟩
theorem DigsIn.el {w : World} {a : Option Addr} {n c i : Nat} {ds : List (List Int)} {x : List Int} (h : DigsIn w (.slice a n c) ds) (h32 : all32 ds) (hx : ds[i]? = some x) : ∃ p o, a = some ⟨p, o, none⟩ ∧ p < w.heap.size ∧ w.rangeAt p (o + 32 * i) (ints .u8 x) := by
  obtain ⟨a2, c2, e, hp⟩ := h
  obtain ⟨rfl, -, -⟩ := Value.slice.inj e
  obtain ⟨p, o, h1, h2, h3⟩ := hp (by have := (List.getElem?_eq_some_iff.1 hx).1; omega)
  refine ⟨p, o, h1, h2, fun j v hv => ?_⟩
  have e1 : ((ints .u8 ds.flatten).drop (32 * i)).take 32 = ints .u8 x := by rw [ints_drop, ints_take, flat32_at h32 hx]
  rw [← e1, List.getElem?_take, List.getElem?_drop] at hv
  split at hv
  · have h4 := h3 (32 * i + j) v hv
    rw [show o + 32 * i + j = o + (32 * i + j) by omega]
    exact h4
  · cases hv
set_option maxHeartbeats 1000000 in
theorem sameall_walk (a1 a2 : Option Addr) (n c1 c2 : Nat) (ds : List (List Int)) (w : World) (hu : DigsIn w (.slice a1 n c1) ds) (hv : DigsIn w (.slice a2 n c2) ds) (hn : ds.length = n) (hm : n ≤ 1000) (hok : okD ds) :
    Calls Tryd.prog 13 #[.slice a1 n c1, .slice a2 n c2] w fun e w' => e = .returned (.bool true) ∧ Below w.heap.size w w' := by
  have HU : Hid (DigsIn w (.slice a1 n c1) ds ∧ DigsIn w (.slice a2 n c2) ds ∧ n ≤ 1000) := ⟨hu, hv, hm⟩
  have HN := Lib.hid hn
  have HOK := Lib.hid hok
  clear hu hv hn hok
  go_enter Tryd.func13, Tryd.ntmps13
  go_upto_region 0 with (fail)
  refine lin_begin (opsOf Tryd.f13 0) (by kernel_rfl) ?_
  refine lnow 0 (.bool false) (some 4) ?_
  refine lin_done 1 (by kernel_rfl) ?_
  generalize hact : Act.put _ (some 4) _ = act
  simp only [Act.put, List.setIfInBounds_toArray, List.set_cons_succ, List.set_cons_zero] at hact
  subst hact
  go_upto_region 1 with (fail)
  refine lin_begin (opsOf Tryd.f13 1) (by kernel_rfl) ?_
  refine lnow 0 (.slice a1 n c1) (some 6) ?_
  refine lnow 1 (.int .i64 (n : Int)) (some 7) ?_
  refine lnow 2 (.slice a2 n c2) (some 8) ?_
  refine lnow 3 (.int .i64 (n : Int)) (some 9) ?_
  refine lnow 4 (.bool (!decide ((n : Int) = (n : Int)))) (some 10) ?_
  rw [decide_eq_true (rfl)]
  rw [show (!true) = false from rfl]
  refine lin_done 5 (by kernel_rfl) ?_
  generalize hact : Act.put _ (some 10) _ = act
  simp only [Act.put, List.setIfInBounds_toArray, List.set_cons_succ, List.set_cons_zero] at hact
  subst hact
  go_upto_region 3 with (fail)
  refine lin_begin (opsOf Tryd.f13 3) (by kernel_rfl) ?_
  refine lnow 0 (.int .i64 0) (some 5) ?_
  refine lin_done 1 (by kernel_rfl) ?_
  generalize hact : Act.put _ (some 5) _ = act
  simp only [Act.put, List.setIfInBounds_toArray, List.set_cons_succ, List.set_cons_zero] at hact
  subst hact
  go_wp2
  go_loopw [5] (fun kv wr => ∃ k : Nat, k ≤ n ∧ kv = .int .i64 (k : Int) ∧ Hid (Below w.heap.size w wr)) (fun kv _ => n - (intOf kv).toNat)
  case atStart => exact ⟨0, Nat.zero_le _, rfl, Below.refl _ _⟩
  case round =>
    obtain ⟨k, hk, rfl, BR⟩ := hrel
    by_cases hlt : (k : Int) < (n : Int)
    rotate_left
    · skip
      go_upto_region 4 with (fail)
      refine lin_begin (opsOf Tryd.f13 4) (by kernel_rfl) ?_
      refine lnow 0 (.int .i64 (k : Int)) (some 11) ?_
      refine lnow 1 (.slice a1 n c1) (some 12) ?_
      refine lnow 2 (.int .i64 (n : Int)) (some 13) ?_
      refine lnow 3 (.bool (decide ((k : Int) < (n : Int)))) (some 14) ?_
      rw [decide_eq_false (hlt)]
      refine lin_done 4 (by kernel_rfl) ?_
      generalize hact : Act.put _ (some 14) _ = act
      simp only [Act.put, List.setIfInBounds_toArray, List.set_cons_succ, List.set_cons_zero] at hact
      subst hact
      go_upto_region 8 with (fail)
      refine lin_begin (opsOf Tryd.f13 8) (by kernel_rfl) ?_
      refine lnow 0 (.bool true) (some 4) ?_
      refine lin_done 1 (by kernel_rfl) ?_
      generalize hact : Act.put _ (some 4) _ = act
      simp only [Act.put, List.setIfInBounds_toArray, List.set_cons_succ, List.set_cons_zero] at hact
      subst hact
      go_wp2
      go_ret
      exact ⟨rfl, BR.out⟩
    go_upto_region 4 with (fail)
    refine lin_begin (opsOf Tryd.f13 4) (by kernel_rfl) ?_
    refine lnow 0 (.int .i64 (k : Int)) (some 11) ?_
    refine lnow 1 (.slice a1 n c1) (some 12) ?_
    refine lnow 2 (.int .i64 (n : Int)) (some 13) ?_
    refine lnow 3 (.bool (decide ((k : Int) < (n : Int)))) (some 14) ?_
    rw [decide_eq_true (hlt)]
    refine lin_done 4 (by kernel_rfl) ?_
    generalize hact : Act.put _ (some 14) _ = act
    simp only [Act.put, List.setIfInBounds_toArray, List.set_cons_succ, List.set_cons_zero] at hact
    subst hact
    obtain ⟨x, hx⟩ : ∃ x, Hid (ds[k]? = some x) := ⟨_, List.getElem?_eq_getElem (by rw [HN.out]; omega)⟩
    have OX : Hid (x.length = 32) := (HOK.out x (List.mem_of_getElem? hx.out)).1
    obtain ⟨p1, o1, rfl, -, hr1⟩ := (HU.out.1.below BR.out (Nat.le_refl _)).el HOK.out.a hx.out
    obtain ⟨p2, o2, rfl, -, hr2⟩ := (HU.out.2.1.below BR.out (Nat.le_refl _)).el HOK.out.a hx.out
    have R1 := Lib.hid hr1
    have R2 := Lib.hid hr2
    clear hr1 hr2
    go_upto_region 6 with (fail)
    refine region_begin (opsOf Tryd.f13 6) (fun w' => ∀ p, w'.cell? p = World.cell? wr p) (by kernel_rfl) (by kernel_rfl) 9 (by kernel_rfl) ?_
    intro Q' hQN hN
    have HS : ∀ p, World.cell? (World.drew wr) p = World.cell? wr p := fun _ => rfl
    refine reg_now 0 (.slice (some ⟨p1, o1, none⟩) n c1) (some 17) hQN HS (by kernel_rfl) (by kernel_rfl) (fun w => by kernel_rfl) ?_
    refine reg_now 1 (.int .i64 (k : Int)) (some 18) hQN HS (by kernel_rfl) (by kernel_rfl) (fun w => by kernel_rfl) ?_
    refine reg_now 2 (.pointer (some ⟨p1, o1 + 32 * k, none⟩)) (some 19) hQN HS (by kernel_rfl) (by kernel_rfl) (fun w' => exec_indexAt 22 (.tmp 17) (.tmp 18) (by kernel_rfl) _ _ _ (by kernel_rfl) (by kernel_rfl) (run_at_digest p1 o1 n c1 k (by omega) _)) ?_
    refine reg_nowIf 3 (.agg (ints .u8 x).toArray) (some 20) hQN HS (by kernel_rfl) (by kernel_rfl) (fun w' hw => exec_load_mid 24 (.tmp 19) (by kernel_rfl) (p1) (o1 + 32 * k) (by kernel_rfl) (ints .u8 x) _ (fun j y hy => (hw _).trans (R1.out j y hy)) Tryd.underlying24 rfl (sizeD OX.out)) ?_
    refine reg_now 4 (.slice (some ⟨p2, o2, none⟩) n c2) (some 21) hQN HS (by kernel_rfl) (by kernel_rfl) (fun w => by kernel_rfl) ?_
    refine reg_now 5 (.int .i64 (k : Int)) (some 22) hQN HS (by kernel_rfl) (by kernel_rfl) (fun w => by kernel_rfl) ?_
    refine reg_now 6 (.pointer (some ⟨p2, o2 + 32 * k, none⟩)) (some 23) hQN HS (by kernel_rfl) (by kernel_rfl) (fun w' => exec_indexAt 22 (.tmp 21) (.tmp 22) (by kernel_rfl) _ _ _ (by kernel_rfl) (by kernel_rfl) (run_at_digest p2 o2 n c2 k (by omega) _)) ?_
    refine reg_nowIf 7 (.agg (ints .u8 x).toArray) (some 24) hQN HS (by kernel_rfl) (by kernel_rfl) (fun w' hw => exec_load_mid 24 (.tmp 23) (by kernel_rfl) (p2) (o2 + 32 * k) (by kernel_rfl) (ints .u8 x) _ (fun j y hy => (hw _).trans (R2.out j y hy)) Tryd.underlying24 rfl (sizeD OX.out)) ?_
    refine reg_now 8 (.bool (!decide (x = x))) (some 25) hQN HS (by kernel_rfl) (by kernel_rfl) (fun w' => exec_neq w' (.tmp 20) (.tmp 24) 24 (by kernel_rfl) Tryd.underlying24 Tryd.underlying5 sizeByte guardDigest x x OX.out OX.out (by kernel_rfl) (by kernel_rfl)) ?_
    rw [show (!decide (x = x)) = false by rw [decide_eq_true (rfl : x = x)]; rfl]
    refine reg_done (by kernel_rfl) (hN _ _ ?_)
    generalize hact : Act.put _ (some 25) _ = act
    simp only [Act.put, List.setIfInBounds_toArray, List.set_cons_succ, List.set_cons_zero] at hact
    subst hact
    have BR2 : Hid (Below w.heap.size w wr.drew) := BR.out.drew
    clear BR R1 R2 HS hQN hN OX
    generalize ints .u8 x = vx
    go_wp2
    go_roundw
    case rel => exact ⟨k + 1, by omega, by go_num, BR2⟩
    case measure => simp [intOf]; omega
end Go.Proofs.YtoeilaedpibboaaDoor
