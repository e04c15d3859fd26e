/- ShaSums answers true. -/
import Derived.Test.YtkfemngknmnnmaaDoorShaRefSu
namespace Go.Proofs.YtkfemngknmnnmaaDoor
open Go.RowKit
set_option maxRecDepth 100000

/-- What stands behind so many bytes; nothing outside the limits. -/
def padI (n : Int) : List Int := if n < 0 ∨ 1125899906842624 < n then [] else Sha.pad n.toNat
theorem padI_length (n : Int) : (padI n).length ≤ 72 := by
  unfold padI; split
  · simp
  · rw [Sha.pad_length]; exact (Sha.padSize_bounds _).2
def BytesPost (zs : List Int) (w : World) (e : Ending) (w' : World) : Prop := ∃ v, e = .returned v ∧ BytesIn w' v zs ∧ Below w.heap.size w w'
theorem pad_any (n : Int) (w : World) : Calls Tryd.prog 21 #[.int .i64 n] w (BytesPost (padI n) w) := by
  by_cases h : n < 0 ∨ 1125899906842624 < n
  · refine (pad_none n h w).mono fun e w' ⟨he, hw⟩ => ⟨_, he, ?_, ?_⟩
    · rw [padI, if_pos h]; exact bytes_nil _
    · subst hw; exact Below.refl _ _
  · obtain ⟨m, rfl⟩ := Int.eq_ofNat_of_zero_le (show 0 ≤ n by omega)
    refine (pad_some m (by omega) w).mono fun e w' ⟨b, hb, he, hbl, hbe⟩ => ⟨_, he, ?_, hbe⟩
    rw [padI, if_neg h]
    exact bytes_blk hbl (by simp [Sha.pad_length])
theorem rpad_any (n : Int) (w : World) : Calls Tryd.prog 22 #[.int .i64 n] w (BytesPost (padI n) w) := by
  by_cases h : n < 0 ∨ 1125899906842624 < n
  · refine (rpad_none n h w).mono fun e w' ⟨he, hw⟩ => ⟨_, he, ?_, ?_⟩
    · rw [padI, if_pos h]; exact bytes_nil _
    · subst hw; exact Below.refl _ _
  · obtain ⟨m, rfl⟩ := Int.eq_ofNat_of_zero_le (show 0 ≤ n by omega)
    refine (rpad_some m (by omega) w).mono fun e w' ⟨v, he, ⟨g, cap, hv, ho⟩, hbe⟩ => ⟨_, he, ?_, hbe⟩
    rw [padI, if_neg h, hv]
    exact owns_bytes ho
theorem guardState : Tryd.prog.eqGuardType Tryd.prog.depth 24 = false := by kernel_rfl
theorem sizeU32 : (Tryd.prog.info? 23).map (·.size) = some 1 := by kernel_rfl

/-- What ShaSums has in memory at its last statement. -/
structure Ss (st bs zs : List Int) (u vo : Value) (w wr : World) : Prop where
  b0 : Blk wr w.heap.size 24 (ints .u32 st)
  b1 : Blk wr (w.heap.size + 1) 25 (ints .u8 bs)
  a : BytesIn wr u zs
  o : BytesIn wr vo zs
  k : KW wr
  bel : Below w.heap.size w wr
theorem Ss.next {st bs zs : List Int} {u vo : Value} {w w1 w2 : World} (h : Ss st bs zs u vo w w1) (hb : Below w1.heap.size w1 w2) : Ss st bs zs u vo w w2 :=
  ⟨h.b0.below hb h.b0.lt, h.b1.below hb h.b1.lt, h.a.below hb (Nat.le_refl _), h.o.below hb (Nat.le_refl _), h.k.below hb h.k.lt, h.bel.trans (hb.mono h.bel.size)⟩
set_option maxHeartbeats 2000000 in
theorem sums_main (u : Value) (zs st bs : List Int) (n : Int) (w : World) (hu : BytesIn w u zs) (hnil : NilOk u) (hm : zs.length ≤ 1000) (hst : st.length = 8) (hbs : bs.length = 64) (hK : KW w) :
    Calls Tryd.prog 3 #[u, .agg (ints .u32 st).toArray, .agg (ints .u8 bs).toArray, .int .i64 n] w fun e w' => e = .returned (.bool true) ∧ Below w.heap.size w w' := by
  obtain ⟨sa, c, rfl, -⟩ := id hu
  have HI : Hid ((Tryd.prog.info? 24).map (·.size) = some (ints .u32 st).length) := by unfold Hid; rw [ints_length, hst]; exact infoState
  have HIB : Hid ((Tryd.prog.info? 25).map (·.size) = some (ints .u8 bs).length) := by unfold Hid; rw [ints_length, hbs]; exact infoBlock
  have HS0 : Hid (Below w.heap.size w ((w.alloc (.cells (ints .u32 st).toArray 24)).alloc (.cells (ints .u8 bs).toArray 25))) := ((Below.refl _ _).alloc (Nat.le_refl _) _).alloc (by simp) _
  have HB0 : Hid (Blk ((w.alloc (.cells (ints .u32 st).toArray 24)).alloc (.cells (ints .u8 bs).toArray 25)) w.heap.size 24 (ints .u32 st)) := (Blk.new _ _ _).alloc _
  have HB1 : Hid (Blk ((w.alloc (.cells (ints .u32 st).toArray 24)).alloc (.cells (ints .u8 bs).toArray 25)) (w.heap.size + 1) 25 (ints .u8 bs)) := Blk.new2 _ _ _ _ _ (by simp) rfl
  have HU := Lib.hid hu
  have HN := Lib.hid hnil
  have HST := Lib.hid hst
  have HBS := Lib.hid hbs
  have HK := Lib.hid hK
  have hm' : ¬ ((1000 : Int) < (zs.length : Int)) := by omega
  have KW0 := Lib.hid (HK.out.below HS0.out HK.out.lt)
  clear hu hnil hst hbs hK
  go_enter Tryd.func3, Tryd.ntmps3
  go_wp2_with fail
  refine (alive_walk _ KW0.out).mono ?_
  rintro e w1 ⟨rfl, hb1⟩
  have hw0 : w.heap.size ≤ ((w.alloc (.cells (ints .u32 st).toArray 24)).alloc (.cells (ints .u8 bs).toArray 25)).heap.size := HS0.out.size
  have BEL1 := Lib.hid (HS0.out.trans (hb1.mono hw0))
  have C0 := Lib.hid (HB0.out.below hb1 HB0.out.lt)
  have C1 := Lib.hid (HB1.out.below hb1 HB1.out.lt)
  clear hb1 hw0 HS0 HB0 HB1
  go_wp2_with fail
  refine (copyb_walk _ zs _ (HU.out.below BEL1.out (Nat.le_refl _)) HN.out (by omega)).mono ?_
  rintro e w2 ⟨vo, rfl, ho, hb2⟩
  have HS : Hid (Ss st bs zs (.slice sa zs.length c) vo w w2) :=
    ⟨C0.out.below hb2 C0.out.lt, C1.out.below hb2 C1.out.lt, (HU.out.below BEL1.out (Nat.le_refl _)).below hb2 (Nat.le_refl _), owns_bytes ho, (HK.out.below BEL1.out HK.out.lt).below hb2 (HK.out.below BEL1.out HK.out.lt).lt, BEL1.out.trans (hb2.mono BEL1.out.size)⟩
  clear ho hb2 C0 C1 BEL1
  go_wp2_with fail
  refine region_begin (opsOf Tryd.f3 6) (Ss st bs zs (.slice sa zs.length c) vo w) (by kernel_rfl) (by kernel_rfl) 27 (by kernel_rfl) ?_
  intro Q' hQ hN
  have hS : Ss st bs zs (.slice sa zs.length c) vo w w2.drew := HS.out.next (Below.refl _ _).drew
  clear HS
  have hlc : Hid ((Sha.compress st bs).length = 8) := by unfold Hid; rw [Sha.compress_length, HST.out]
  have hls : Hid ((Sha.sum zs).length = 32) := Sha.sum_length zs
  generalize w2.drew = w3 at hS ⊢
  refine reg_now 0 vo (some 17) hQ hS (by kernel_rfl) (by kernel_rfl) (fun w => by kernel_rfl) ?_
  refine reg_now 2 (.slice sa zs.length c) (some 19) hQ hS (by kernel_rfl) (by kernel_rfl) (fun w => by kernel_rfl) ?_
  refine reg_call 1 16 #[vo] (some 18) _ (by kernel_rfl) (by kernel_rfl) (by kernel_rfl) (sum_walk vo zs w3 hS.o (by omega) hS.k) ?_
  rintro e w4 ⟨rfl, hb4⟩
  have hS4 := hS.next hb4
  refine ⟨_, rfl, hS4, ?_⟩
  clear hb4
  refine reg_call 3 17 #[.slice sa zs.length c] (some 20) _ (by kernel_rfl) (by kernel_rfl) (by kernel_rfl) (rsum_walk _ zs w4 hS4.a HN.out (by omega)) ?_
  rintro e w5 ⟨rfl, hb5⟩
  have hS5 := hS4.next hb5
  refine ⟨_, rfl, hS5, ?_⟩
  clear hb5
  generalize Sha.sum zs = ds at hls ⊢
  refine reg_now 4 (.bool (decide (ds = ds))) (some 21) hQ hS5 (by kernel_rfl) (by kernel_rfl) (fun w' => exec_eql w' (.tmp 18) (.tmp 20) 29 (by kernel_rfl) Tryd.underlying29 Tryd.underlying5 sizeByte guardDigest ds ds hls.out hls.out (by kernel_rfl) (by kernel_rfl)) ?_
  rw [show decide (ds = ds) = true from decide_eq_true rfl]
  refine reg_now 5 (.bool true) (some 22) hQ hS5 (by kernel_rfl) (by kernel_rfl) (fun w => by kernel_rfl) ?_
  refine reg_nowIf 6 (.agg (ints .u32 st).toArray) (some 23) hQ hS5 (by kernel_rfl) (by kernel_rfl) (fun w' hw => exec_load_mid 24 (.tmp 5) (by kernel_rfl) w.heap.size 0 (by kernel_rfl) (ints .u32 st) _ hw.b0.whole Tryd.underlying24 rfl HI.out) ?_
  refine reg_nowIf 7 (.agg (ints .u8 bs).toArray) (some 24) hQ hS5 (by kernel_rfl) (by kernel_rfl) (fun w' hw => exec_load_mid 25 (.tmp 6) (by kernel_rfl) (w.heap.size + 1) 0 (by kernel_rfl) (ints .u8 bs) _ hw.b1.whole Tryd.underlying25 rfl HIB.out) ?_
  refine reg_nowIf 9 (.agg (ints .u32 st).toArray) (some 26) hQ hS5 (by kernel_rfl) (by kernel_rfl) (fun w' hw => exec_load_mid 24 (.tmp 5) (by kernel_rfl) w.heap.size 0 (by kernel_rfl) (ints .u32 st) _ hw.b0.whole Tryd.underlying24 rfl HI.out) ?_
  refine reg_nowIf 10 (.agg (ints .u8 bs).toArray) (some 27) hQ hS5 (by kernel_rfl) (by kernel_rfl) (fun w' hw => exec_load_mid 25 (.tmp 6) (by kernel_rfl) (w.heap.size + 1) 0 (by kernel_rfl) (ints .u8 bs) _ hw.b1.whole Tryd.underlying25 rfl HIB.out) ?_
  refine reg_call 8 18 #[.agg (ints .u32 st).toArray, .agg (ints .u8 bs).toArray] (some 25) _ (by kernel_rfl) (by kernel_rfl) (by kernel_rfl) (compress_walk st bs HST.out HBS.out w5 hS5.k) ?_
  rintro e w6 ⟨rfl, hb6⟩
  have hS6 := hS5.next hb6
  refine ⟨_, rfl, hS6, ?_⟩
  clear hb6
  refine reg_call 11 19 #[.agg (ints .u32 st).toArray, .agg (ints .u8 bs).toArray] (some 28) _ (by kernel_rfl) (by kernel_rfl) (by kernel_rfl) (rcompress_walk st bs HST.out HBS.out w6) ?_
  rintro e w7 ⟨rfl, hb7⟩
  have hS7 := hS6.next hb7
  refine ⟨_, rfl, hS7, ?_⟩
  clear hb7
  generalize Sha.compress st bs = cs at hlc ⊢
  refine reg_now 12 (.bool (decide (cs = cs))) (some 29) hQ hS7 (by kernel_rfl) (by kernel_rfl) (fun w' => exec_eql w' (.tmp 25) (.tmp 28) 24 (by kernel_rfl) Tryd.underlying24 Tryd.underlying23 sizeU32 guardState cs cs hlc.out hlc.out (by kernel_rfl) (by kernel_rfl)) ?_
  rw [show decide (cs = cs) = true from decide_eq_true rfl]
  refine reg_now 13 (.bool true) (some 30) hQ hS7 (by kernel_rfl) (by kernel_rfl) (fun w => by kernel_rfl) ?_
  refine reg_now 14 (.bool true) (some 31) hQ hS7 (by kernel_rfl) (by kernel_rfl) (fun w => by kernel_rfl) ?_
  refine reg_now 15 (.int .i64 n) (some 32) hQ hS7 (by kernel_rfl) (by kernel_rfl) (fun w => by kernel_rfl) ?_
  refine reg_now 17 (.int .i64 n) (some 34) hQ hS7 (by kernel_rfl) (by kernel_rfl) (fun w => by kernel_rfl) ?_
  refine reg_call 16 21 #[.int .i64 n] (some 33) _ (by kernel_rfl) (by kernel_rfl) (by kernel_rfl) (pad_any n w7) ?_
  rintro e w8 ⟨p1, rfl, hp1, hb8⟩
  have hS8 := hS7.next hb8
  refine ⟨_, rfl, hS8, ?_⟩
  clear hb8
  refine reg_call 18 22 #[.int .i64 n] (some 35) _ (by kernel_rfl) (by kernel_rfl) (by kernel_rfl) (rpad_any n w8) ?_
  rintro e w9 ⟨p2, rfl, hp2, hb9⟩
  have hS9 := hS8.next hb9
  have hp1' := hp1.below hb9 (Nat.le_refl _)
  refine ⟨_, rfl, hS9, ?_⟩
  clear hb9 hp1
  refine reg_call 19 20 #[p1, p2] (some 36) _ (by kernel_rfl) (by kernel_rfl) (by kernel_rfl) (sameb_true p1 p2 (padI n) w9 hp1' hp2 (by have := padI_length n; omega)) ?_
  rintro e w10 ⟨rfl, n1, hn1⟩
  have hS10 : Ss st bs zs (.slice sa zs.length c) vo w w10 := by rw [hn1]; exact hS9.next (below_drewN _ _)
  refine ⟨_, rfl, hS10, ?_⟩
  clear hn1 hp1' hp2
  refine reg_now 20 (.bool true) (some 37) hQ hS10 (by kernel_rfl) (by kernel_rfl) (fun w => by kernel_rfl) ?_
  refine reg_now 21 (.bool true) (some 38) hQ hS10 (by kernel_rfl) (by kernel_rfl) (fun w => by kernel_rfl) ?_
  refine reg_now 22 vo (some 39) hQ hS10 (by kernel_rfl) (by kernel_rfl) (fun w => by kernel_rfl) ?_
  refine reg_now 23 (.slice sa zs.length c) (some 40) hQ hS10 (by kernel_rfl) (by kernel_rfl) (fun w => by kernel_rfl) ?_
  refine reg_call 24 20 #[vo, .slice sa zs.length c] (some 41) _ (by kernel_rfl) (by kernel_rfl) (by kernel_rfl) (sameb_true _ _ zs w10 hS10.o hS10.a (by omega)) ?_
  rintro e w11 ⟨rfl, n2, hn2⟩
  have hS11 : Ss st bs zs (.slice sa zs.length c) vo w w11 := by rw [hn2]; exact hS10.next (below_drewN _ _)
  refine ⟨_, rfl, hS11, ?_⟩
  clear hn2
  refine reg_now 25 (.bool true) (some 42) hQ hS11 (by kernel_rfl) (by kernel_rfl) (fun w => by kernel_rfl) ?_
  refine reg_now 26 (.bool true) (some 8) hQ hS11 (by kernel_rfl) (by kernel_rfl) (fun w => by kernel_rfl) ?_
  refine reg_done (by kernel_rfl) (hN _ _ ?_)
  have BELF := Lib.hid hS11.bel
  clear hS hS4 hS5 hS6 hS7 hS8 hS9 hS10 hS11
  generalize hact : Act.put _ (some 8) (.bool true) = act
  have h0 : act.tmps.getD 8 undef = .bool true := by rw [← hact]; kernel_rfl
  have hd : act.defers = [] := by rw [← hact]; kernel_rfl
  clear hact
  go_wp2
  refine bodyPost_ret (v := .bool true) ?_ hd ⟨rfl, BELF.out⟩
  rw [results_tmp Tryd.results3, h0]
theorem sums_big (u : Value) (zs st bs : List Int) (n : Int) (w : World) (hu : BytesIn w u zs) (hm : 1000 < zs.length) (hK : KW w) :
    Calls Tryd.prog 3 #[u, .agg (ints .u32 st).toArray, .agg (ints .u8 bs).toArray, .int .i64 n] w fun e w' => e = .returned (.bool true) ∧ Below w.heap.size w w' := by
  obtain ⟨sa, c, rfl, -⟩ := id hu
  have HS0 : Hid (Below w.heap.size w ((w.alloc (.cells (ints .u32 st).toArray 24)).alloc (.cells (ints .u8 bs).toArray 25))) := ((Below.refl _ _).alloc (Nat.le_refl _) _).alloc (by simp) _
  have HK := Lib.hid hK
  have hm' : (1000 : Int) < (zs.length : Int) := by omega
  have KW0 := Lib.hid (HK.out.below HS0.out HK.out.lt)
  clear hu hK
  go_enter Tryd.func3, Tryd.ntmps3
  go_wp2_with fail
  refine (alive_walk _ KW0.out).mono ?_
  rintro e w1 ⟨rfl, hb1⟩
  have BEL1 := Lib.hid (HS0.out.trans (hb1.mono HS0.out.size))
  clear hb1 HS0
  go_wp2
  go_ret
  exact ⟨rfl, BEL1.out⟩
end Go.Proofs.YtkfemngknmnnmaaDoor
