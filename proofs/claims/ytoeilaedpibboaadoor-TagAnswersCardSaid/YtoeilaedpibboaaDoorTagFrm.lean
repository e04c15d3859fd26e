/- package tag's appendNumber, Frame and Node. -/
import Derived.Test.YtoeilaedpibboaaDoorShaParts
namespace Go.Proofs.YtoeilaedpibboaaDoor
open Go.RowKit
set_option maxRecDepth 100000

/-- A number below 2^32 as four bytes, the least first. -/
def num4 (n : Nat) : List Int := [(n : Int) % 256, (n : Int) / 256 % 256, (n : Int) / 65536 % 256, (n : Int) / 16777216]
def part4 (zs : List Int) : List Int := num4 zs.length ++ zs
/-- The frame of some parts: of all of them the count, of the first k the bytes. -/
def frameTo (zss : List (List Int)) (k : Nat) : List Int := num4 zss.length ++ ((zss.take k).map part4).flatten
def frameL (zss : List (List Int)) : List Int := frameTo zss zss.length
theorem num4_length (n : Nat) : (num4 n).length = 4 := rfl
theorem frameTo_length (zss : List (List Int)) (k : Nat) : (frameTo zss k).length = 4 + (4 * (zss.take k).length + (zss.take k).flatten.length) := by
  unfold frameTo
  rw [List.length_append, num4_length]
  congr 1
  generalize zss.take k = l
  induction l with
  | nil => rfl
  | cons z l ih => simp only [List.map_cons, List.flatten_cons, List.length_append, List.length_cons, ih, part4, num4_length]; omega
theorem frameTo_next (zss : List (List Int)) (k : Nat) (zs : List Int) (h : zss[k]? = some zs) : frameTo zss (k + 1) = frameTo zss k ++ num4 zs.length ++ zs := by
  unfold frameTo
  rw [List.take_add_one, h]
  simp [part4]
theorem frameL_length (zss : List (List Int)) : (frameL zss).length = 4 + (4 * zss.length + zss.flatten.length) := by
  rw [frameL, frameTo_length, List.take_length]

/-- A slice of the call's own grew. -/
def GrewPost (base : Nat) (xs : List Int) (w : World) (e : Ending) (w' : World) : Prop := ∃ v, e = .returned v ∧ w'.ownsRow base 5 1 v xs.length (ints .u8 xs) ∧ (∀ B u, Below B u w → B ≤ base → Below B u w')
theorem appnum_walk (base n : Nat) (v : Value) (xs : List Int) (w : World) (hv : w.ownsRow base 5 1 v xs.length (ints .u8 xs)) (hb : base ≤ w.heap.size) (hl : xs.length ≤ 1000000000) (hn : n ≤ 1000000000) :
    Calls Tryd.prog 31 #[v, .int .i64 (n : Int)] w (GrewPost base (xs ++ num4 n) w) := by
  have q0 : 0 ≤ (n : Int) := by omega
  have HBY : Hid (BytesIn (w.alloc (.cells #[.int .u8 ((n : Int) % 256), .int .u8 ((n : Int) / 256 % 256), .int .u8 ((n : Int) / 65536 % 256), .int .u8 ((n : Int) / 16777216)] 5)) (.slice (some ⟨w.heap.size, 0, none⟩) 4 4) (num4 n)) :=
    bytes_blk (Blk.new2 _ _ _ _ _ rfl rfl) rfl
  have HV : Hid ((w.alloc (.cells #[.int .u8 ((n : Int) % 256), .int .u8 ((n : Int) / 256 % 256), .int .u8 ((n : Int) / 65536 % 256), .int .u8 ((n : Int) / 16777216)] 5)).ownsRow base 5 1 v xs.length (ints .u8 xs)) := hv.alloc _
  have HLT := Lib.hid (owns_lt hv)
  have HRW := Lib.hid (owns_row hv)
  have HNI : Hid (NilOk (.slice (some ⟨w.heap.size, 0, none⟩) 4 4)) := trivial
  clear hv
  go_enter Tryd.func31, Tryd.ntmps31
  go_wp2_with (with_reducible refine wpList_append_bytes (o := ⟨some 18, _, _, _, _, _⟩) ?a1 (.tmp 5) (.tmp 17) ?a2 base v xs ?a3 HV.out (.slice (some ⟨w.heap.size, 0, none⟩) 4 4) (num4 n) ?a5 HBY.out HNI.out ?a6 ?a7 ?_)
  case a1 => rfl
  case a2 => rfl
  all_goals try (case a3 => rfl)
  all_goals try (case a5 => rfl)
  case a6 => rw [num4_length]; omega
  case a7 => simp; omega
  intro v' w' h1 h2
  have H1 : Hid (w'.ownsRow base 5 1 v' (xs ++ num4 n).length (ints .u8 (xs ++ num4 n))) := by unfold Hid; rw [List.length_append]; exact h1
  have H2 : Hid (∀ B u, Below B u w → B ≤ base → Below B u w') := fun B u hB hBb => (hB.alloc (by omega) _).grown h2 (by simp; omega) (fun k hk => by have := HRW.out k hk; omega)
  clear h1 h2
  go_wp2
  go_ret
  exact ⟨v', rfl, H1.out, H2.out⟩
set_option maxHeartbeats 1000000 in
theorem frame_walk (v : Value) (zss : List (List Int)) (w : World) (hv : PartsIn w v zss) (hm : zss.length ≤ 1000000) (hf : zss.flatten.length ≤ 1000000) :
    Calls Tryd.prog 18 #[v] w (CopyPost (frameL zss) w) := by
  obtain ⟨a, cap, ps, rfl, hps, -, hq, hall⟩ := hv
  obtain ⟨m, em⟩ : ∃ m, Hid (m = zss.length) := ⟨_, rfl⟩
  rw [← em.out] at hm hps hq ⊢
  obtain ⟨i0, hi, hz0, hz1, hz2⟩ := info_parts infoByte5
  have HI := Lib.hid hi
  have HZ0 := Lib.hid hz0
  have HZ1 := Lib.hid hz1
  have HZ2 := Lib.hid hz2
  have HPS := Lib.hid hps
  have HQ := Lib.hid hq
  have HALL := Lib.hid hall
  have HF := Lib.hid hf
  clear hps hq hall hi hz0 hz1 hz2 hf
  have hle : Hid (∀ k, (zss.take k).flatten.length ≤ 1000000) := fun k => by
    have h1 := HF.out
    rw [← List.take_append_drop k zss, List.flatten_append, List.length_append] at h1
    omega
  go_enter Tryd.func18, Tryd.ntmps18
  go_wp2
  go_loop [3, 11] (fun s i => ∃ k r : Nat, k ≤ m ∧ i = .int .i64 k ∧ s = .int .i64 (r : Int) ∧ r ≤ 10000000 ∧ Hid (r = 4 + (4 * k + (zss.take k).flatten.length))) (fun _ i => m - (intOf i).toNat)
  case atStart => exact ⟨0, 4, by omega, rfl, rfl, by omega, by unfold Hid; simp⟩
  case round =>
    obtain ⟨k, r, hk, rfl, rfl, hr, hfl⟩ := hrel
    by_cases hlt : k < m
    · obtain ⟨qb, qo, rfl, hq2, hq3⟩ := HQ.out (by omega)
      obtain ⟨v, hvk⟩ : ∃ v, ps[k]? = some v := ⟨_, List.getElem?_eq_getElem (by rw [HPS.out]; exact hlt)⟩
      obtain ⟨zs, hzk⟩ : ∃ zs, zss[k]? = some zs := ⟨_, List.getElem?_eq_getElem (by rw [← em.out]; exact hlt)⟩
      obtain ⟨⟨sa, c, rfl, -⟩, -, -⟩ := HALL.out k v zs hvk hzk
      have cq := hq3 k _ hvk
      have q1 : (k : Int) < (m : Int) := by omega
      have hnx : (zss.take (k + 1)).flatten.length = (zss.take k).flatten.length + zs.length := by
        rw [List.take_add_one, hzk]; simp
      have h1 := hle.out (k + 1)
      have h2 := hfl.out
      have hzl : (zs.length : Int) ≤ 1000000 := by omega
      have hnext : Hid (r + (4 + zs.length) = 4 + (4 * (k + 1) + (zss.take (k + 1)).flatten.length)) := by unfold Hid; omega
      have hr2 : r + (4 + zs.length) ≤ 10000000 := by omega
      clear hvk hzk hq3 hnx h1 h2
      go_wp2
      go_round
      case rel => exact ⟨k + 1, r + (4 + zs.length), by omega, by go_num, by go_num, hr2, hnext⟩
      case measure => simp [intOf]; omega
    · have q1 : ¬ (k : Int) < (m : Int) := by omega
      clear hfl
      have hB6 : Hid (i0.bytes * r ≤ 281474976710656) := by unfold Hid; rw [HZ2.out]; omega
      have hB7 : Hid (r ≤ maxLen) := by unfold Hid maxLen; omega
      go_wp2_with (refine wpList_make_own _ rfl _ _ 36 rfl w.heap.size 5 i0 (.int .u8 0) 1 Tryd.underlying36 HI.out HZ0.out HZ1.out _ _ _ r rfl rfl rfl hB6.out hB7.out (Nat.le_refl _) ?_)
      intro w1 ho1 hg1
      have HB1 : Hid (Below w.heap.size w w1) := (Below.refl w.heap.size w).grown hg1 (Nat.le_refl _) (fun k hk => by cases hk)
      have HO1 : Hid (w1.ownsRow w.heap.size 5 1 (.slice (some ⟨w.heap.size, 0, none⟩) 0 r) ([] : List Int).length (ints .u8 [])) := ho1
      clear ho1 hg1
      go_wp2_with fail
      refine (appnum_walk w.heap.size m _ [] _ HO1.out HB1.out.size (by simp) (by omega)).mono ?_
      rintro e w2 ⟨v2, rfl, ho2, hg2⟩
      have HB2 := Lib.hid (hg2 _ _ HB1.out (Nat.le_refl _))
      have HO2 : Hid (w2.ownsRow w.heap.size 5 1 v2 (frameTo zss 0).length (ints .u8 (frameTo zss 0))) := by
        have e : frameTo zss 0 = [] ++ num4 m := by rw [em.out]; simp [frameTo]
        unfold Hid; rw [e]; exact ho2
      clear ho2 hg2 HO1 HB1
      go_wp2
      go_loopw [6, 28] (fun v i wr => ∃ k : Nat, k ≤ m ∧ i = .int .i64 k ∧ wr.ownsRow w.heap.size 5 1 v (frameTo zss k).length (ints .u8 (frameTo zss k)) ∧ Below w.heap.size w wr) (fun _ i _ => m - (intOf i).toNat)
      case atStart => exact ⟨0, by omega, rfl, HO2.out, HB2.out⟩
      case round =>
        obtain ⟨k2, hk2, rfl, hown, hbel⟩ := hrel
        clear HO2 HB2 q1 hlt hk
        by_cases hlt : k2 < m
        · obtain ⟨qb, qo, rfl, hq2, hq3⟩ := HQ.out (by omega)
          obtain ⟨v, hvk⟩ : ∃ v, ps[k2]? = some v := ⟨_, List.getElem?_eq_getElem (by rw [HPS.out]; exact hlt)⟩
          obtain ⟨zs, hzk⟩ : ∃ zs, zss[k2]? = some zs := ⟨_, List.getElem?_eq_getElem (by rw [← em.out]; exact hlt)⟩
          obtain ⟨hby, hni, -⟩ := HALL.out k2 v zs hvk hzk
          obtain ⟨sa, c, rfl, -⟩ := id hby
          have cq : wr.cell? ⟨qb, qo + k2, none⟩ = _ := (hbel.cell (p := ⟨qb, qo + k2, none⟩) hq2).trans (hq3 k2 _ hvk)
          have q1 : (k2 : Int) < (m : Int) := by omega
          have HNX := Lib.hid (frameTo_next zss k2 zs hzk)
          have hfl : Hid ((frameTo zss k2).length ≤ 10000000) := by
            have h1 := hle.out k2
            unfold Hid; rw [frameTo_length, List.length_take]; omega
          have hzl : zs.length ≤ 1000000 := by
            have h1 := hle.out (k2 + 1)
            have : (zss.take (k2 + 1)).flatten.length = (zss.take k2).flatten.length + zs.length := by rw [List.take_add_one, hzk]; simp
            omega
          have HO := Lib.hid hown
          have HB := Lib.hid hbel
          have HBY := Lib.hid hby
          have HNI := Lib.hid hni
          clear hown hbel hby hni hvk hzk hq3
          generalize frameTo zss k2 = xs at *
          go_wp2_with fail
          refine (appnum_walk w.heap.size zs.length _ xs _ HO.out HB.out.size (by have := hfl.out; omega) (by omega)).mono ?_
          rintro e w3 ⟨v3, rfl, ho3, hg3⟩
          have HB3 := Lib.hid (hg3 _ _ HB.out (Nat.le_refl _))
          have HO3 := Lib.hid ho3
          have HBY3 := Lib.hid (HBY.out.below HB3.out (Nat.le_refl _))
          have HL3 : Hid ((xs ++ num4 zs.length).length + zs.length ≤ 70368744177664) := by have := hfl.out; unfold Hid; rw [List.length_append, num4_length]; omega
          clear ho3 hg3 HO HB cq
          generalize xs ++ num4 zs.length = xs2 at *
          have HSZ := Lib.hid HB3.out.size
          go_wp2_with (with_reducible refine wpList_append_bytes (o := ⟨some 38, _, _, _, _, _⟩) ?d1 (.tmp 36) (.tmp 37) ?d2 w.heap.size v3 xs2 ?d3 HO3.out (.slice sa zs.length c) zs ?d5 HBY3.out HNI.out HL3.out HSZ.out ?_)
          case d1 => rfl
          case d2 => rfl
          all_goals try (case d3 => rfl)
          all_goals try (case d5 => rfl)
          intro v4 w4 ho4 hg4
          have HB4 : Hid (Below w.heap.size w w4) := HB3.out.grown hg4 HB3.out.size (owns_row HO3.out)
          have HO4 : Hid (w4.ownsRow w.heap.size 5 1 v4 (frameTo zss (k2 + 1)).length (ints .u8 (frameTo zss (k2 + 1)))) := by unfold Hid; rw [HNX.out]; first | exact ho4 | (rw [List.length_append]; exact ho4)
          clear ho4 hg4 HO3 HB3 HBY3
          go_wp2
          exact ⟨⟨k2 + 1, by omega, by go_num, HO4.out, HB4.out⟩, by simp [intOf]; omega⟩
        · have q1 : ¬ (k2 : Int) < (m : Int) := by omega
          have e : k2 = zss.length := by have := em.out; omega
          rw [e] at hown
          have HO := Lib.hid hown
          have HB := Lib.hid hbel
          clear hown hbel e
          go_wp2
          go_ret
          exact ⟨_, rfl, HO.out, HB.out⟩
theorem parts_pair {w : World} {b q : Nat} {v1 v2 : Value} {z1 z2 : List Int} (hq : Blk w q 36 [v1, v2]) (hne : q ≠ b) (h1 : BytesAt w b v1 z1) (h2 : BytesAt w b v2 z2) : PartsAt w b (.slice (some ⟨q, 0, none⟩) 2 2) [z1, z2] := parts_two hq hne h1 h2
/-- The node of a kind and parts. -/
def nodeL (kind : Int) (zss : List (List Int)) : List Int := Sha.sum (kind :: frameL zss)
theorem nodeL_length (kind : Int) (zss : List (List Int)) : (nodeL kind zss).length = 32 := Sha.sum_length _
set_option maxHeartbeats 1000000 in
theorem node_walk (kind : Int) (v : Value) (zss : List (List Int)) (w : World) (hv : PartsIn w v zss) (hm : zss.length ≤ 1000000) (hf : zss.flatten.length ≤ 1000000) (hK : KW w) :
    Calls Tryd.prog 22 #[.int .u8 kind, v] w fun e w' => e = .returned (.agg (ints .u8 (nodeL kind zss)).toArray) ∧ Below w.heap.size w w' := by
  obtain ⟨a, cap, ps, rfl, -⟩ := id hv
  have HV := Lib.hid hv
  have HK := Lib.hid hK
  have HF := Lib.hid hf
  clear hv hK hf
  go_enter Tryd.func22, Tryd.ntmps22
  go_wp2_with fail
  refine (new_walk _).mono ?_
  rintro e w1 ⟨h, hh1, rfl, hh2, hb1⟩
  have R1 : Hid (Blk w1 w.heap.size 24 (ints .u8 (List.replicate 32 0))) := (Blk.new2 w _ _ _ _ rfl (by kernel_rfl)).below hb1 (by simp)
  have HB1 : Hid (Below w.heap.size w w1) := ((Below.refl _ _).alloc (Nat.le_refl _) _).trans (hb1.mono (by simp))
  have HH1 := Lib.hid hh2
  have hhw : w.heap.size < h := by have : (w.alloc _).heap.size ≤ h := hh1; simp at this; omega
  clear hh1 hh2 hb1
  have HBA := Lib.hid (HB1.out.alloc HB1.out.size (.cells #[.int .u8 kind] 5))
  go_wp2_with fail
  refine (frame_walk _ zss _ (HV.out.below HBA.out (Nat.le_refl _)) hm HF.out).mono ?_
  rintro e w2 ⟨fv, rfl, hfo, hb2⟩
  obtain ⟨fa, fc, rfl, -⟩ := id (owns_bytes hfo)
  have hw1 := HB1.out.size
  have K2 : Hid (Blk w2 w1.heap.size 5 (ints .u8 [kind])) := (Blk.new2 w1 _ _ _ _ rfl rfl).below hb2 (by simp)
  have R2 := Lib.hid ((R1.out.alloc (.cells #[.int .u8 kind] 5)).below hb2 (by have := R1.out.lt; simp; omega))
  have HH2 := Lib.hid ((HH1.out.alloc (.cells #[.int .u8 kind] 5)).below hb2 (by have := HH1.out.lt; simp; omega))
  have HB2 := Lib.hid (HBA.out.trans (hb2.mono (by simp; omega)))
  have hhlt : h < w1.heap.size := HH1.out.lt
  have FB : Hid (BytesAt w2 h (.slice fa (frameL zss).length fc) (frameL zss)) := owns_bytes_at hfo (by simp; omega)
  have hkh : 1 ≠ h := by have := HK.out.lt; omega
  have KW2 := Lib.hid (HK.out.below HB2.out HK.out.lt)
  have hsz2 : w1.heap.size < w2.heap.size := K2.out.lt
  have HFL : Hid ([[kind], frameL zss].flatten.length ≤ 10000000) := by
    have := HF.out
    unfold Hid
    simp only [List.flatten_cons, List.flatten_nil, List.length_append, List.length_cons, List.length_nil, frameL_length]; omega
  clear hfo hb2 R1 HH1 HB1 HBA
  go_wp2_with fail
  refine (write_walk h [] [[kind], frameL zss] _ _ (HH2.out.alloc _) (parts_two (Blk.new2 _ _ _ [_, _] _ rfl rfl) (by omega) ((bytes_blk_at K2.out rfl (by omega)).alloc _) (FB.out.alloc _)) (by have := HFL.out; simp only [List.length_nil]; omega) (KW2.out.alloc _) hkh).mono ?_
  rintro e w3 ⟨rfl, hh3, hu3⟩
  have HH3 : Hid (HashIs w3 h (kind :: frameL zss)) := by unfold Hid; simpa using hh3
  have R3 := Lib.hid (hu3.blk (R2.out.alloc _) (by omega))
  have HB3 := Lib.hid (hu3.below (HB2.out.alloc HB2.out.size _) (by omega) (by have := HB2.out.size; simp; omega))
  have KW3 := Lib.hid (HK.out.below HB3.out HK.out.lt)
  clear hh3 hu3 HH2 R2 HB2 KW2 K2 FB
  have hlm : Hid ((kind :: frameL zss).length + 72 ≤ 1125899906842624) := by
    have := HF.out
    unfold Hid; rw [List.length_cons, frameL_length]; omega
  go_wp2_with fail
  refine (hsum_walk h (kind :: frameL zss) _ HH3.out hlm.out KW3.out).mono ?_
  rintro e w4 ⟨rfl, hb4⟩
  have R4 := Lib.hid (R3.out.below hb4 R3.out.lt)
  have HB4 := Lib.hid (HB3.out.trans (hb4.mono HB3.out.size))
  clear hb4 R3 HB3 KW3 HH3
  obtain ⟨res, hres⟩ : ∃ r, Hid (nodeL kind zss = r) := ⟨_, rfl⟩
  have HRL : Hid (res.length = 32) := by unfold Hid; rw [← hres.out]; exact nodeL_length _ _
  rw [show Sha.sum (kind :: frameL zss) = res from hres.out]
  have HI : Hid ((Tryd.prog.info? 24).map (·.size) = some (ints .u8 res).length) := by unfold Hid; rw [ints_length, HRL.out]; exact infoDigest
  have HI' : Hid ((Tryd.prog.info? 24).map (·.size) = some (ints .u8 res).toArray.size) := by unfold Hid; rw [List.size_toArray, ints_length, HRL.out]; exact infoDigest
  have HL : Hid ((ints .u8 res).length = (ints .u8 (List.replicate 32 0)).length) := by unfold Hid; rw [ints_length, HRL.out, ints_length, List.length_replicate]
  go_wp2_with (refine wpList_store_whole rfl 24 _ _ rfl w.heap.size (ints .u8 res) rfl rfl 24 (ints .u8 (List.replicate 32 0)) R4.out HL.out HI.out (ints_oneCell _ _) ?_)
  intro w5 hb5 hup5 _
  refine wpList_nil ?_
  go_wp2
  have hbl := hup5.below HB4.out (Nat.le_refl _) HB4.out.size
  refine bodyPost_ret (v := .agg (ints .u8 res).toArray) ?_ rfl ⟨by rw [hres.out], hbl⟩
  refine results_cell_row (g := w.heap.size) (t := 24) (cs := (ints .u8 res).toArray) (fr := (0, 0)) Tryd.results22 _ _ _ ?_ ?_ Tryd.underlying24 rfl HI'.out
  · rfl
  · exact hb5
end Go.Proofs.YtoeilaedpibboaaDoor
