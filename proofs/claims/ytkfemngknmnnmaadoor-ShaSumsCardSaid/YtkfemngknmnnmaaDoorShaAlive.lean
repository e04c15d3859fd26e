/- alive answers true. -/
import Derived.Test.YtkfemngknmnnmaaDoorShaRef0
import Derived.Test.YtkfemngknmnnmaaDoorShaEq
import Derived.Test.YtkfemngknmnnmaaDoorShaEval
import Derived.Test.YtkfemngknmnnmaaDoorShaReg2
namespace Go.Proofs.YtkfemngknmnnmaaDoor
open Go.RowKit

/-- A slice whose block is just its bytes. -/
theorem bytes_blk {w : World} {b n : Nat} {zs : List Int} (h : Blk w b 5 (ints .u8 zs)) (hn : zs.length = n) : BytesIn w (.slice (some ⟨b, 0, none⟩) n n) zs := by
  subst hn
  exact ⟨some ⟨b, 0, none⟩, zs.length, rfl, Nat.le_refl _, fun _ => ⟨b, 0, rfl, h.lt, h.whole⟩⟩
theorem bytes_nil (w : World) : BytesIn w (.slice none 0 0) [] := ⟨none, 0, rfl, Nat.le_refl _, fun h => absurd h (by simp)⟩
theorem bytes_blk_at {w : World} {b p n : Nat} {zs : List Int} (h : Blk w p 5 (ints .u8 zs)) (hn : zs.length = n) (hp : p ≠ b) : BytesAt w b (.slice (some ⟨p, 0, none⟩) n n) zs := by
  subst hn
  exact ⟨some ⟨p, 0, none⟩, zs.length, rfl, Nat.le_refl _, fun _ => ⟨p, 0, rfl, hp, h.lt, h.whole⟩⟩
theorem parts_two {w : World} {b q : Nat} {v1 v2 : Value} {z1 z2 : List Int} (hq : Blk w q 22 [v1, v2]) (hne : q ≠ b) (h1 : BytesAt w b v1 z1) (h2 : BytesAt w b v2 z2) : PartsAt w b (.slice (some ⟨q, 0, none⟩) 2 2) [z1, z2] :=
  ⟨some ⟨q, 0, none⟩, 2, [v1, v2], rfl, rfl, by simp, fun _ => ⟨q, 0, rfl, hne, hq.lt, hq.whole⟩, fun k u us hu hus => by
    match k with
    | 0 => simp at hu hus; subst hu; subst hus; exact h1
    | 1 => simp at hu hus; subst hu; subst hus; exact h2
    | k + 2 => simp at hu⟩
theorem KW.alloc {w : World} (h : KW w) (o : Obj) : KW (w.alloc o) := h.below ((Below.refl w.heap.size w).alloc (Nat.le_refl _) o) h.lt

/-- What alive has in memory at its last statement. -/
structure Alive (da db : List Int) (A B h f : Nat) (w w' : World) : Prop where
  a : Blk w' A 29 (ints .u8 da)
  b : Blk w' B 29 (ints .u8 db)
  h : HashIs w' h [97, 98, 99]
  f : HashIs w' f [97, 98, 99, 100]
  bel : Below w.heap.size w w'
theorem Alive.next {da db : List Int} {A B h f : Nat} {w w1 w2 : World} (hS : Alive da db A B h f w w1) (hb : Below w1.heap.size w1 w2) : Alive da db A B h f w w2 :=
  ⟨hS.a.below hb hS.a.lt, hS.b.below hb hS.b.lt, hS.h.below hb hS.h.lt, hS.f.below hb hS.f.lt, hS.bel.trans (hb.mono hS.bel.size)⟩
theorem below_drewN (w : World) (n : Nat) : Below w.heap.size w (w.drewN n) := ⟨rfl, rfl, rfl, Nat.le_refl _, fun _ _ => rfl⟩
theorem bytes_head {w : World} {b : Nat} {t : TypeId} {ds zs : List Int} (h : Blk w b t (ints .u8 ds)) (h4 : ds.take 4 = zs) (hz : zs.length = 4) : BytesIn w (.slice (some ⟨b, 0, none⟩) 4 32) zs := by
  refine ⟨some ⟨b, 0, none⟩, 32, by rw [hz], by omega, fun _ => ⟨b, 0, rfl, h.lt, fun j v hv => ?_⟩⟩
  refine h.whole j v ?_
  rw [← h4] at hv
  simp only [ints, List.map_take, List.getElem?_take] at hv ⊢
  split at hv
  · exact hv
  · cases hv
theorem guardDigest : Tryd.prog.eqGuardType Tryd.prog.depth 29 = false := by kernel_rfl

set_option maxHeartbeats 2000000 in
set_option maxRecDepth 100000 in
theorem alive_walk (w : World) (hK : KW w) : Calls Tryd.prog 14 #[] w fun e w' => e = .returned (.bool true) ∧ Below w.heap.size w w' := by
  have hda : (Sha.sum [97, 98, 99]).length = 32 := Sha.sum_length _
  have hdb : (Sha.sum []).length = 32 := Sha.sum_length _
  have hdf : (Sha.sum [97, 98, 99, 100]).length = 32 := Sha.sum_length _
  have ha4 := k_abc
  have hb4 := k_nil
  have hne : Sha.sum [97, 98, 99, 100] ≠ Sha.sum [97, 98, 99] := fun e => by
    have h1 := k_abcd
    have h2 := k_abc
    rw [e] at h1
    have h3 : ((Sha.sum [97, 98, 99]).take 4).take 1 = [136] := by rw [List.take_take]; exact h1
    rw [h2] at h3
    cases h3
  have HDA := Lib.hid hda
  have HDB := Lib.hid hdb
  have HDF := Lib.hid hdf
  have HA4 := Lib.hid ha4
  have HB4 := Lib.hid hb4
  have HNE := Lib.hid hne
  have HK := Lib.hid hK
  clear hda hdb hdf ha4 hb4 hne hK
  go_enter Tryd.func14, Tryd.ntmps14
  go_wp2_with fail
  refine (sum_walk _ [97, 98, 99] _ (bytes_blk (Blk.new2 _ _ _ (ints .u8 [97, 98, 99]) _ rfl rfl) rfl) (by decide) (HK.out.alloc _)).mono ?_
  rintro e w1 ⟨rfl, hbel1⟩
  have BEL1 := Lib.hid (((Below.refl w.heap.size w).alloc (Nat.le_refl _) _).trans (hbel1.mono (by simp)))
  generalize hga : Sha.sum [97, 98, 99] = da at *
  generalize hgb : Sha.sum [] = db at *
  generalize hgf : Sha.sum [97, 98, 99, 100] = df at *
  have HGA := Lib.hid hga
  have HGB := Lib.hid hgb
  have HGF := Lib.hid hgf
  have hia : Hid ((Tryd.prog.info? 29).map (·.size) = some (ints .u8 da).length) := by unfold Hid; rw [ints_length, HDA.out]; exact infoDigest
  have hla : Hid ((ints .u8 da).length = (ints .u8 (List.replicate 32 0)).length) := by unfold Hid; rw [ints_length, HDA.out, ints_length, List.length_replicate]
  have hib : Hid ((Tryd.prog.info? 29).map (·.size) = some (ints .u8 db).length) := by unfold Hid; rw [ints_length, HDB.out]; exact infoDigest
  have hlb : Hid ((ints .u8 db).length = (ints .u8 (List.replicate 32 0)).length) := by unfold Hid; rw [ints_length, HDB.out, ints_length, List.length_replicate]
  clear hga hgb hgf hbel1
  go_wp2_with (refine wpList_store_whole rfl 29 _ _ rfl w1.heap.size (ints .u8 da) rfl rfl 29 (ints .u8 (List.replicate 32 0)) (Blk.new2 _ _ _ _ _ rfl (by kernel_rfl)) hla.out hia.out (ints_oneCell _ _) ?_)
  intro w2 hb2 hup2 hsz2
  have A2 := Lib.hid hb2
  have BEL2 := Lib.hid (hup2.below (BEL1.out.alloc BEL1.out.size _) BEL1.out.size (by have := BEL1.out.size; simp; omega))
  obtain ⟨A, hA⟩ : ∃ A, A = w1.heap.size := ⟨_, rfl⟩
  rw [← hA] at A2 ⊢
  have hAw : w.heap.size ≤ A := by have := BEL1.out.size; omega
  clear hb2 hup2 hsz2 BEL1 hA
  refine wpList_nil ?_
  go_wp2_with fail
  refine (sum_walk _ [] _ (bytes_nil _) (by decide) (HK.out.below BEL2.out HK.out.lt)).mono ?_
  rintro e w3 ⟨rfl, hbel3⟩
  rw [HGB.out]
  have A3 := Lib.hid (A2.out.below hbel3 A2.out.lt)
  have BEL3 := Lib.hid (BEL2.out.trans (hbel3.mono BEL2.out.size))
  clear hbel3 A2 BEL2
  go_wp2_with (refine wpList_store_whole rfl 29 _ _ rfl w3.heap.size (ints .u8 db) rfl rfl 29 (ints .u8 (List.replicate 32 0)) (Blk.new2 _ _ _ _ _ rfl (by kernel_rfl)) hlb.out hib.out (ints_oneCell _ _) ?_)
  intro w4 hb4 hup4 hsz4
  have B4 := Lib.hid hb4
  have A4 := Lib.hid (hup4.blk (A3.out.alloc _) (by have := A3.out.lt; omega))
  have BEL4 := Lib.hid (hup4.below (BEL3.out.alloc BEL3.out.size _) BEL3.out.size (by have := BEL3.out.size; simp; omega))
  obtain ⟨B, hB⟩ : ∃ B, B = w3.heap.size := ⟨_, rfl⟩
  rw [← hB] at B4 ⊢
  have hBw : w.heap.size ≤ B := by have := BEL3.out.size; omega
  clear hb4 hup4 hsz4 BEL3 hB A3
  refine wpList_nil ?_
  go_wp2_with fail
  refine (new_walk _).mono ?_
  rintro e w5 ⟨h, hh1, rfl, hh2, hbel5⟩
  have A5 := Lib.hid (A4.out.below hbel5 A4.out.lt)
  have B5 := Lib.hid (B4.out.below hbel5 B4.out.lt)
  have BEL5 := Lib.hid (BEL4.out.trans (hbel5.mono BEL4.out.size))
  have H5 := Lib.hid hh2
  have hAh : A ≠ h := by have := A4.out.lt; omega
  have hBh : B ≠ h := by have := B4.out.lt; omega
  have hhw : w.heap.size ≤ h := by have := BEL4.out.size; omega
  clear hh1 hh2 hbel5 A4 B4 BEL4
  go_wp2_with fail
  have hhlt := H5.out.lt
  have hKh : 0 ≠ h := by have := HK.out.lt; omega
  have KW5 := Lib.hid (HK.out.below BEL5.out HK.out.lt)
  refine (write_walk h [] [[97], [98, 99]] _ _ (((H5.out.alloc _).alloc _).alloc _)
    (parts_two (Blk.new2 _ _ _ [_, _] _ (by simp) rfl) (by omega) (bytes_blk_at (((Blk.new2 _ _ _ (ints .u8 [97]) _ rfl rfl).alloc _).alloc _) rfl (by omega)) (bytes_blk_at ((Blk.new2 _ _ _ (ints .u8 [98, 99]) _ (by simp) rfl).alloc _) rfl (by omega)))
    (by decide) (((KW5.out.alloc _).alloc _).alloc _) hKh).mono ?_
  rintro e w6 ⟨rfl, hh6, hu6⟩
  have A6 := Lib.hid (hu6.blk (((A5.out.alloc _).alloc _).alloc _) hAh)
  have B6 := Lib.hid (hu6.blk (((B5.out.alloc _).alloc _).alloc _) hBh)
  have BEL6 := Lib.hid (hu6.below (((BEL5.out.alloc BEL5.out.size _).alloc (by have := BEL5.out.size; simp; omega) _).alloc (by have := BEL5.out.size; simp; omega) _) hhw (by have := BEL5.out.size; simp; omega))
  have H6 : Hid (HashIs w6 h [97, 98, 99]) := hh6
  clear hh6 hu6 A5 B5 BEL5 H5 KW5
  go_wp2_with fail
  refine (fork_walk h [97, 98, 99] _ H6.out).mono ?_
  rintro e w7 ⟨f, hf1, rfl, hf2, hbel7⟩
  have A7 := Lib.hid (A6.out.below hbel7 A6.out.lt)
  have B7 := Lib.hid (B6.out.below hbel7 B6.out.lt)
  have H7 := Lib.hid (H6.out.below hbel7 H6.out.lt)
  have BEL7 := Lib.hid (BEL6.out.trans (hbel7.mono BEL6.out.size))
  have F7 := Lib.hid hf2
  have hAf : A ≠ f := by have := A6.out.lt; omega
  have hBf : B ≠ f := by have := B6.out.lt; omega
  have hhf : h ≠ f := by have := H6.out.lt; omega
  have hfw : w.heap.size ≤ f := by have := BEL6.out.size; omega
  clear hf1 hf2 hbel7 A6 B6 H6 BEL6
  go_wp2_with fail
  have hflt := F7.out.lt
  have hKf : 0 ≠ f := by have := HK.out.lt; omega
  have KW7 := Lib.hid (HK.out.below BEL7.out HK.out.lt)
  refine (write_walk f [97, 98, 99] [[100]] _ _ ((F7.out.alloc _).alloc _)
    (parts_one (Blk.new2 _ _ _ [_] _ (by simp) rfl) (by omega) (bytes_blk_at ((Blk.new2 _ _ _ (ints .u8 [100]) _ rfl rfl).alloc _) rfl (by omega)))
    (by decide) ((KW7.out.alloc _).alloc _) hKf).mono ?_
  rintro e w8 ⟨rfl, hh8, hu8⟩
  have A8 := Lib.hid (hu8.blk ((A7.out.alloc _).alloc _) hAf)
  have B8 := Lib.hid (hu8.blk ((B7.out.alloc _).alloc _) hBf)
  have H8 := Lib.hid (((H7.out.alloc _).alloc _).upd hu8 hhf)
  have BEL8 := Lib.hid (hu8.below ((BEL7.out.alloc BEL7.out.size _).alloc (by have := BEL7.out.size; simp; omega) _) hfw (by have := BEL7.out.size; simp; omega))
  have F8 : Hid (HashIs w8 f [97, 98, 99, 100]) := hh8
  clear hh8 hu8 A7 B7 H7 BEL7 F7 KW7
  go_wp2_with fail
  have HS : Alive da db A B h f w w8.drew := ⟨A8.out.drew, B8.out.drew, H8.out.below (Below.refl w8.heap.size w8).drew H8.out.lt, F8.out.below (Below.refl w8.heap.size w8).drew F8.out.lt, BEL8.out.drew⟩
  refine region_begin (opsOf Tryd.f14 11) (Alive da db A B h f w) (by kernel_rfl) (by kernel_rfl) 36 (by kernel_rfl) ?_
  intro Q' hQ hN
  generalize w8.drew = w9 at HS ⊢
  have hS := HS
  clear HS A8 B8 H8 F8 BEL8
  refine reg_now 0 (.slice (some ⟨A, 0, none⟩) 4 32) (some 24) hQ hS (by kernel_rfl) (by kernel_rfl) (fun w => by kernel_rfl) ?_
  have hS10 := hS.next ((Below.refl w9.heap.size w9).alloc (Nat.le_refl _) (.cells #[.int .u8 186, .int .u8 120, .int .u8 22, .int .u8 191] 5))
  have qa : Blk (w9.alloc (.cells #[.int .u8 186, .int .u8 120, .int .u8 22, .int .u8 191] 5)) w9.heap.size 5 (ints .u8 [186, 120, 22, 191]) := Blk.new2 _ _ _ _ _ rfl rfl
  refine reg_value 1 (.slice (some ⟨w9.heap.size, 0, none⟩) 4 4) (some 25) (w9.alloc (.cells #[.int .u8 186, .int .u8 120, .int .u8 22, .int .u8 191] 5)) (by kernel_rfl) (by kernel_rfl) (by kernel_rfl) hS10 ?_
  obtain ⟨Qa, hQa⟩ : ∃ Q, Q = w9.heap.size := ⟨_, rfl⟩
  rw [← hQa] at qa ⊢
  generalize w9.alloc (.cells #[.int .u8 186, .int .u8 120, .int .u8 22, .int .u8 191] 5) = w10 at hS10 qa ⊢
  refine reg_call 2 20 #[.slice (some ⟨A, 0, none⟩) 4 32, .slice (some ⟨Qa, 0, none⟩) 4 4] (some 26) _ (by kernel_rfl) (by kernel_rfl) (by kernel_rfl) (sameb_true _ _ [186, 120, 22, 191] w10 (bytes_head hS10.a HA4.out rfl) (bytes_blk qa rfl) (by decide)) ?_
  rintro e w11 ⟨rfl, na, hna⟩
  have hS11 : Alive da db A B h f w w11 := by rw [hna]; exact hS10.next (below_drewN _ _)
  refine ⟨_, rfl, hS11, ?_⟩
  clear hna qa
  refine reg_now 3 (.bool true) (some 27) hQ hS11 (by kernel_rfl) (by kernel_rfl) (fun w => by kernel_rfl) ?_
  refine reg_now 4 (.slice (some ⟨B, 0, none⟩) 4 32) (some 28) hQ hS11 (by kernel_rfl) (by kernel_rfl) (fun w => by kernel_rfl) ?_
  have hS12 := hS11.next ((Below.refl w11.heap.size w11).alloc (Nat.le_refl _) (.cells #[.int .u8 227, .int .u8 176, .int .u8 196, .int .u8 66] 5))
  have qb : Blk (w11.alloc (.cells #[.int .u8 227, .int .u8 176, .int .u8 196, .int .u8 66] 5)) w11.heap.size 5 (ints .u8 [227, 176, 196, 66]) := Blk.new2 _ _ _ _ _ rfl rfl
  refine reg_value 5 (.slice (some ⟨w11.heap.size, 0, none⟩) 4 4) (some 29) (w11.alloc (.cells #[.int .u8 227, .int .u8 176, .int .u8 196, .int .u8 66] 5)) (by kernel_rfl) (by kernel_rfl) (by kernel_rfl) hS12 ?_
  obtain ⟨Qb, hQb⟩ : ∃ Q, Q = w11.heap.size := ⟨_, rfl⟩
  rw [← hQb] at qb ⊢
  generalize w11.alloc (.cells #[.int .u8 227, .int .u8 176, .int .u8 196, .int .u8 66] 5) = w12 at hS12 qb ⊢
  refine reg_call 6 20 #[.slice (some ⟨B, 0, none⟩) 4 32, .slice (some ⟨Qb, 0, none⟩) 4 4] (some 30) _ (by kernel_rfl) (by kernel_rfl) (by kernel_rfl) (sameb_true _ _ [227, 176, 196, 66] w12 (bytes_head hS12.b HB4.out rfl) (bytes_blk qb rfl) (by decide)) ?_
  rintro e w13 ⟨rfl, nb, hnb⟩
  have hS13 : Alive da db A B h f w w13 := by rw [hnb]; exact hS12.next (below_drewN _ _)
  refine ⟨_, rfl, hS13, ?_⟩
  clear hnb qb
  refine reg_now 7 (.bool true) (some 31) hQ hS13 (by kernel_rfl) (by kernel_rfl) (fun w => by kernel_rfl) ?_
  refine reg_now 8 (.bool true) (some 32) hQ hS13 (by kernel_rfl) (by kernel_rfl) (fun w => by kernel_rfl) ?_
  refine reg_now 9 (.pointer (some ⟨h, 0, none⟩)) (some 33) hQ hS13 (by kernel_rfl) (by kernel_rfl) (fun w => by kernel_rfl) ?_
  refine reg_nowIf 11 (.agg (ints .u8 da).toArray) (some 35) hQ hS13 (by kernel_rfl) (by kernel_rfl) (fun w' hw => exec_load_mid 29 (.tmp 1) (by kernel_rfl) A 0 (by kernel_rfl) (ints .u8 da) _ hw.a.whole Tryd.underlying29 rfl hia.out) ?_
  have hc14 := hsum_walk h [97, 98, 99] w13 hS13.h (by decide) (HK.out.below hS13.bel HK.out.lt)
  rw [HGA.out] at hc14
  refine reg_call 10 27 #[.pointer (some ⟨h, 0, none⟩)] (some 34) _ (by kernel_rfl) (by kernel_rfl) (by kernel_rfl) hc14 ?_
  rintro e w14 ⟨rfl, hb14⟩
  have hS14 := hS13.next hb14
  refine ⟨_, rfl, hS14, ?_⟩
  clear hb14 hc14
  refine reg_now 12 (.bool (decide (da = da))) (some 36) hQ hS14 (by kernel_rfl) (by kernel_rfl) (fun w' => exec_eql w' (.tmp 34) (.tmp 35) 29 (by kernel_rfl) Tryd.underlying29 Tryd.underlying5 sizeByte guardDigest da da HDA.out HDA.out (by kernel_rfl) (by kernel_rfl)) ?_
  rw [show decide (da = da) = true from decide_eq_true rfl]
  refine reg_now 13 (.bool true) (some 37) hQ hS14 (by kernel_rfl) (by kernel_rfl) (fun w => by kernel_rfl) ?_
  refine reg_now 14 (.bool true) (some 38) hQ hS14 (by kernel_rfl) (by kernel_rfl) (fun w => by kernel_rfl) ?_
  refine reg_now 15 (.pointer (some ⟨h, 0, none⟩)) (some 39) hQ hS14 (by kernel_rfl) (by kernel_rfl) (fun w => by kernel_rfl) ?_
  refine reg_call 16 26 #[.pointer (some ⟨h, 0, none⟩)] (some 40) _ (by kernel_rfl) (by kernel_rfl) (by kernel_rfl) (len_walk h [97, 98, 99] w14 hS14.h) ?_
  rintro e w15 ⟨rfl, hb15⟩
  have hS15 : Alive da db A B h f w w15 := hb15 ▸ hS14
  refine ⟨_, rfl, hS15, ?_⟩
  clear hb15
  refine reg_now 17 (.bool true) (some 41) hQ hS15 (by kernel_rfl) (by kernel_rfl) (fun w => by kernel_rfl) ?_
  refine reg_now 18 (.bool true) (some 42) hQ hS15 (by kernel_rfl) (by kernel_rfl) (fun w => by kernel_rfl) ?_
  refine reg_now 19 (.bool true) (some 43) hQ hS15 (by kernel_rfl) (by kernel_rfl) (fun w => by kernel_rfl) ?_
  refine reg_now 20 (.pointer (some ⟨f, 0, none⟩)) (some 44) hQ hS15 (by kernel_rfl) (by kernel_rfl) (fun w => by kernel_rfl) ?_
  refine reg_call 21 26 #[.pointer (some ⟨f, 0, none⟩)] (some 45) _ (by kernel_rfl) (by kernel_rfl) (by kernel_rfl) (len_walk f [97, 98, 99, 100] w15 hS15.f) ?_
  rintro e w16 ⟨rfl, hb16⟩
  have hS16 : Alive da db A B h f w w16 := hb16 ▸ hS15
  refine ⟨_, rfl, hS16, ?_⟩
  clear hb16
  refine reg_now 22 (.bool true) (some 46) hQ hS16 (by kernel_rfl) (by kernel_rfl) (fun w => by kernel_rfl) ?_
  refine reg_now 23 (.bool true) (some 47) hQ hS16 (by kernel_rfl) (by kernel_rfl) (fun w => by kernel_rfl) ?_
  refine reg_now 24 (.bool true) (some 48) hQ hS16 (by kernel_rfl) (by kernel_rfl) (fun w => by kernel_rfl) ?_
  refine reg_now 25 (.pointer (some ⟨f, 0, none⟩)) (some 49) hQ hS16 (by kernel_rfl) (by kernel_rfl) (fun w => by kernel_rfl) ?_
  refine reg_nowIf 27 (.agg (ints .u8 da).toArray) (some 51) hQ hS16 (by kernel_rfl) (by kernel_rfl) (fun w' hw => exec_load_mid 29 (.tmp 1) (by kernel_rfl) A 0 (by kernel_rfl) (ints .u8 da) _ hw.a.whole Tryd.underlying29 rfl hia.out) ?_
  have hc17 := hsum_walk f [97, 98, 99, 100] w16 hS16.f (by decide) (HK.out.below hS16.bel HK.out.lt)
  rw [HGF.out] at hc17
  refine reg_call 26 27 #[.pointer (some ⟨f, 0, none⟩)] (some 50) _ (by kernel_rfl) (by kernel_rfl) (by kernel_rfl) hc17 ?_
  rintro e w17 ⟨rfl, hb17⟩
  have hS17 := hS16.next hb17
  refine ⟨_, rfl, hS17, ?_⟩
  clear hb17 hc17
  refine reg_now 28 (.bool (!decide (df = da))) (some 52) hQ hS17 (by kernel_rfl) (by kernel_rfl) (fun w' => exec_neq w' (.tmp 50) (.tmp 51) 29 (by kernel_rfl) Tryd.underlying29 Tryd.underlying5 sizeByte guardDigest df da HDF.out HDA.out (by kernel_rfl) (by kernel_rfl)) ?_
  rw [show (!decide (df = da)) = true by rw [decide_eq_false HNE.out]; rfl]
  refine reg_now 29 (.bool true) (some 53) hQ hS17 (by kernel_rfl) (by kernel_rfl) (fun w => by kernel_rfl) ?_
  refine reg_now 30 (.bool true) (some 54) hQ hS17 (by kernel_rfl) (by kernel_rfl) (fun w => by kernel_rfl) ?_
  refine reg_call 31 21 #[.int .i64 0] (some 55) _ (by kernel_rfl) (by kernel_rfl) (by kernel_rfl) (pad_some 0 (by decide) w17) ?_
  rintro e w18 ⟨p, hp1, rfl, _, hpb⟩
  have hS18 := hS17.next hpb
  refine ⟨_, rfl, hS18, ?_⟩
  clear hp1 hpb
  refine reg_now 32 (.int .i64 64) (some 56) hQ hS18 (by kernel_rfl) (by kernel_rfl) (fun w => by kernel_rfl) ?_
  refine reg_now 33 (.bool true) (some 57) hQ hS18 (by kernel_rfl) (by kernel_rfl) (fun w => by kernel_rfl) ?_
  refine reg_now 34 (.bool true) (some 58) hQ hS18 (by kernel_rfl) (by kernel_rfl) (fun w => by kernel_rfl) ?_
  refine reg_now 35 (.bool true) (some 0) hQ hS18 (by kernel_rfl) (by kernel_rfl) (fun w => by kernel_rfl) ?_
  refine reg_done (by kernel_rfl) (hN _ _ ?_)
  have BELF := Lib.hid hS18.bel
  clear hS hS10 hS11 hS12 hS13 hS14 hS15 hS16 hS17 hS18
  generalize hact : Act.put _ (some 0) (.bool true) = act
  have h0 : act.tmps.getD 0 undef = .bool true := by rw [← hact]; kernel_rfl
  have hd : act.defers = [] := by rw [← hact]; kernel_rfl
  clear hact
  go_wp2
  refine bodyPost_ret (v := .bool true) ?_ hd ⟨rfl, BELF.out⟩
  rw [results_tmp Tryd.results14, h0]
end Go.Proofs.YtkfemngknmnnmaaDoor
