/- The reference's Frame and Node. -/
import Derived.Test.YtoeilaedpibboaaDoorTagFrm
import Derived.Test.YtoeilaedpibboaaDoorShaRefSu
namespace Go.Proofs.YtoeilaedpibboaaDoor
open Go.RowKit
set_option maxRecDepth 100000

theorem rfour_walk (n : Nat) (hn : n ≤ 1000000000) (w : World) : Calls Tryd.prog 62 #[.int .i64 (n : Int)] w (CopyPost (num4 n) w) := by
  have q0 : 0 ≤ (n : Int) := by omega
  have q1 : (n : Int) ≤ 1000000000 := by omega
  go_enter Tryd.func62, Tryd.ntmps62
  go_wp2
  go_ret
  exact ⟨_, rfl, ⟨rfl, .inr ⟨w.heap.size, 4, #[.int .u8 ((n : Int) % 256), .int .u8 ((n : Int) / 256 % 256), .int .u8 ((n : Int) / 65536 % 256), .int .u8 ((n : Int) / 16777216)], rfl, Nat.le_refl _, heap_alloc_last w _, Nat.le_refl _, by unfold maxLen; omega, rfl, rfl⟩⟩, (Below.refl _ _).alloc (Nat.le_refl _) _⟩
set_option maxHeartbeats 1000000 in
theorem rframe_walk (v : Value) (zss : List (List Int)) (w : World) (hv : PartsIn w v zss) (hm : zss.length ≤ 1000000) (hf : zss.flatten.length ≤ 1000000) :
    Calls Tryd.prog 42 #[v] w (CopyPost (frameL zss) w) := by
  obtain ⟨a, cap, ps, rfl, hps, -, hq, hall⟩ := hv
  obtain ⟨m, em⟩ : ∃ m, Hid (m = zss.length) := ⟨_, rfl⟩
  rw [← em.out] at hm hps hq ⊢
  have HPS := Lib.hid hps
  have HQ := Lib.hid hq
  have HALL := Lib.hid hall
  have HF := Lib.hid hf
  clear hps hq hall hf
  have hle : Hid (∀ k, (zss.take k).flatten.length ≤ 1000000) := fun k => by
    have h1 := HF.out
    rw [← List.take_append_drop k zss, List.flatten_append, List.length_append] at h1
    omega
  go_enter Tryd.func42, Tryd.ntmps42
  go_wp2_with fail
  refine (rfour_walk m (by omega) _).mono ?_
  rintro e w2 ⟨v2, rfl, ho2, hb2⟩
  have HB2 := Lib.hid hb2
  have HO2 : Hid (w2.ownsRow w.heap.size 5 1 v2 (frameTo zss 0).length (ints .u8 (frameTo zss 0))) := by
    have e : frameTo zss 0 = num4 m := by rw [em.out]; simp [frameTo]
    unfold Hid; rw [e]; exact ho2
  clear ho2 hb2
  go_wp2
  go_loopw [3, 4] (fun v i wr => ∃ k : Nat, k ≤ m ∧ i = .int .i64 k ∧ wr.ownsRow w.heap.size 5 1 v (frameTo zss k).length (ints .u8 (frameTo zss k)) ∧ Below w.heap.size w wr) (fun _ i _ => m - (intOf i).toNat)
  case atStart => exact ⟨0, by omega, rfl, HO2.out, HB2.out⟩
  case round =>
    obtain ⟨k2, hk2, rfl, hown, hbel⟩ := hrel
    clear HO2 HB2
    by_cases hlt : k2 < m
    · obtain ⟨qb, qo, rfl, hq2, hq3⟩ := HQ.out (by omega)
      obtain ⟨v, hvk⟩ : ∃ v, ps[k2]? = some v := ⟨_, List.getElem?_eq_getElem (by rw [HPS.out]; exact hlt)⟩
      obtain ⟨zs, hzk⟩ : ∃ zs, zss[k2]? = some zs := ⟨_, List.getElem?_eq_getElem (by rw [← em.out]; exact hlt)⟩
      obtain ⟨hby, hni, -⟩ := HALL.out k2 v zs hvk hzk
      obtain ⟨sa, c, rfl, -⟩ := id hby
      have cq : wr.cell? ⟨qb, qo + k2, none⟩ = _ := (hbel.cell (p := ⟨qb, qo + k2, none⟩) hq2).trans (hq3 k2 _ hvk)
      have CQ : Hid (w.cell? ⟨qb, qo + k2, none⟩ = _) := hq3 k2 _ hvk
      have q1 : (k2 : Int) < (m : Int) := by omega
      have HNX := Lib.hid (frameTo_next zss k2 zs hzk)
      have hfl : Hid ((frameTo zss k2).length ≤ 10000000) := by
        have h1 := hle.out k2
        unfold Hid; rw [frameTo_length, List.length_take]; omega
      have hzl : zs.length ≤ 1000000 := by
        have h1 := hle.out (k2 + 1)
        have : (zss.take (k2 + 1)).flatten.length = (zss.take k2).flatten.length + zs.length := by rw [List.take_add_one, hzk]; simp
        omega
      have HO := Lib.hid hown
      have HB := Lib.hid hbel
      have HBY := Lib.hid hby
      have HNI := Lib.hid hni
      clear hown hbel hby hni hvk hzk hq3
      generalize frameTo zss k2 = xs at *
      go_wp2_with fail
      refine (rfour_walk zs.length (by omega) _).mono ?_
      rintro e w3 ⟨v3, rfl, ho3, hb3⟩
      obtain ⟨fa, fc, rfl, -⟩ := id (owns_bytes ho3)
      have HB3 := Lib.hid (HB.out.trans (hb3.mono HB.out.size))
      have F3 := Lib.hid (owns_bytes ho3)
      have N3 := Lib.hid (owns_nilok ho3)
      have HO3 : Hid (w3.ownsRow w.heap.size 5 1 _ xs.length (ints .u8 xs)) := HO.out.kept (row := none) ⟨hb3.os, hb3.tape, hb3.output, hb3.size, fun k hk _ => hb3.block k hk⟩ (by cases h : Value.ownBlock _ with | none => exact .inl rfl | some g => exact .inr (by simp))
      have HL3 : Hid (xs.length + (num4 zs.length).length ≤ 70368744177664) := by have := hfl.out; unfold Hid; rw [num4_length]; omega
      have HSZ := Lib.hid HB3.out.size
      clear ho3 hb3 HO HB cq
      rw [num4_length] at F3 N3 ⊢
      go_wp2_with (with_reducible refine wpList_append_bytes (o := ⟨some 21, _, _, _, _, _⟩) ?d1 (.tmp 14) (.tmp 20) ?d2 w.heap.size _ xs ?d3 HO3.out (.slice fa 4 fc) (num4 zs.length) ?d5 F3.out N3.out HL3.out HSZ.out ?_)
      case d1 => rfl
      case d2 => rfl
      all_goals try (case d3 => rfl)
      all_goals try (case d5 => rfl)
      intro v4 w4 ho4 hg4
      have HB4 : Hid (Below w.heap.size w w4) := HB3.out.grown hg4 HB3.out.size (owns_row HO3.out)
      have HO4 : Hid (w4.ownsRow w.heap.size 5 1 v4 (xs ++ num4 zs.length).length (ints .u8 (xs ++ num4 zs.length))) := by unfold Hid; first | exact ho4 | (rw [List.length_append]; exact ho4)
      have HBY4 := Lib.hid (HBY.out.below HB4.out (Nat.le_refl _))
      have cq4 : w4.cell? ⟨qb, qo + k2, none⟩ = some (.slice sa zs.length c) := (HB4.out.cell (p := ⟨qb, qo + k2, none⟩) hq2).trans CQ.out
      have HL4 : Hid ((xs ++ num4 zs.length).length + zs.length ≤ 70368744177664) := by have := hfl.out; unfold Hid; rw [List.length_append, num4_length]; omega
      have HSZ4 := Lib.hid HB4.out.size
      clear ho4 hg4 HO3 HB3 F3 N3 HSZ HL3
      generalize xs ++ num4 zs.length = xs2 at *
      go_wp2_with (with_reducible refine wpList_append_bytes (o := ⟨some 27, _, _, _, _, _⟩) ?d1 (.tmp 22) (.tmp 26) ?d2 w.heap.size v4 xs2 ?d3 HO4.out (.slice sa zs.length c) zs ?d5 HBY4.out HNI.out HL4.out HSZ4.out ?_)
      case d1 => rfl
      case d2 => rfl
      all_goals try (case d3 => rfl)
      all_goals try (case d5 => rfl)
      intro v5 w5 ho5 hg5
      have HB5 : Hid (Below w.heap.size w w5) := HB4.out.grown hg5 HB4.out.size (owns_row HO4.out)
      have HO5 : Hid (w5.ownsRow w.heap.size 5 1 v5 (frameTo zss (k2 + 1)).length (ints .u8 (frameTo zss (k2 + 1)))) := by unfold Hid; rw [HNX.out]; first | exact ho5 | (rw [List.length_append]; exact ho5)
      clear ho5 hg5 HO4 HB4 HBY4 cq4
      go_wp2
      exact ⟨⟨k2 + 1, by omega, by go_num, HO5.out, HB5.out⟩, by simp [intOf]; omega⟩
    · have q1 : ¬ (k2 : Int) < (m : Int) := by omega
      have e : k2 = zss.length := by have := em.out; omega
      rw [e] at hown
      have HO := Lib.hid hown
      have HB := Lib.hid hbel
      clear hown hbel e
      go_wp2
      go_ret
      exact ⟨_, rfl, HO.out, HB.out⟩
theorem owns_one (w : World) (base : Nat) (z : Int) (hb : base ≤ w.heap.size) : (w.alloc (.cells #[.int .u8 z] 5)).ownsRow base 5 1 (.slice (some ⟨w.heap.size, 0, none⟩) 1 1) 1 (ints .u8 [z]) :=
  ⟨rfl, Or.inr ⟨w.heap.size, 1, #[.int .u8 z], rfl, hb, heap_alloc_last w _, Nat.le_refl _, by unfold maxLen; omega, rfl, rfl⟩⟩
set_option maxHeartbeats 1000000 in
theorem rnode_walk (kind : Int) (v : Value) (zss : List (List Int)) (w : World) (hv : PartsIn w v zss) (hm : zss.length ≤ 1500) (hf : zss.flatten.length ≤ 1500) :
    Calls Tryd.prog 30 #[.int .u8 kind, v] w fun e w' => e = .returned (.agg (ints .u8 (nodeL kind zss)).toArray) ∧ Below w.heap.size w w' := by
  obtain ⟨a, cap, ps, rfl, -⟩ := id hv
  have HV := Lib.hid hv
  have HF := Lib.hid hf
  clear hv hf
  have BA : Hid (∀ o, Below w.heap.size w ((w.alloc o).alloc (.cells #[.int .u8 kind] 5))) := fun o => ((Below.refl _ _).alloc (Nat.le_refl _) _).alloc (by simp) _
  go_enter Tryd.func30, Tryd.ntmps30
  go_wp2_with fail
  refine (rframe_walk _ zss _ (HV.out.below (BA.out _) (Nat.le_refl _)) (by omega) (by have := HF.out; omega)).mono ?_
  rintro e w2 ⟨fv, rfl, hfo, hb2⟩
  obtain ⟨fa, fc, rfl, -⟩ := id (owns_bytes hfo)
  have R2 : Hid (Blk w2 w.heap.size 24 (ints .u8 (List.replicate 32 0))) := ((Blk.new2 w _ _ _ _ rfl (by kernel_rfl)).alloc _).below hb2 (by simp; omega)
  have HB2 := Lib.hid ((BA.out _).trans (hb2.mono (by simp; omega)))
  have O2 : Hid (w2.ownsRow (w.heap.size + 1) 5 1 (.slice (some ⟨w.heap.size + 1, 0, none⟩) 1 1) 1 (ints .u8 [kind])) := by
    have hgr : World.grownBy _ w2 none := ⟨hb2.os, hb2.tape, hb2.output, hb2.size, fun k hk _ => hb2.block k hk⟩
    have h2 := World.ownsRow.kept (owns_one _ (w.heap.size + 1) kind (by simp)) hgr (.inr (by simp [Value.ownBlock]))
    unfold Hid
    simpa using h2
  have F2 := Lib.hid (owns_bytes hfo)
  have N2 := Lib.hid (owns_nilok hfo)
  have HFL : Hid ((frameL zss).length ≤ 10000) := by have := HF.out; unfold Hid; rw [frameL_length]; omega
  have HL2 : Hid ([kind].length + (frameL zss).length ≤ 70368744177664) := by have := HFL.out; unfold Hid; simp only [List.length_cons, List.length_nil]; omega
  have HSZ2 : Hid (w.heap.size + 1 ≤ w2.heap.size) := by have := R2.out.lt; unfold Hid; omega
  clear hfo hb2 BA
  go_wp2_with (with_reducible refine wpList_append_bytes (o := ⟨some 9, _, _, _, _, _⟩) ?d1 (.tmp 6) (.tmp 8) ?d2 (w.heap.size + 1) _ [kind] ?d3 O2.out (.slice fa (frameL zss).length fc) (frameL zss) ?d5 F2.out N2.out HL2.out HSZ2.out ?_)
  case d1 => rfl
  case d2 => rfl
  all_goals try (case d3 => rfl)
  all_goals try (case d5 => rfl)
  intro v4 w4 ho4 hg4
  have HB4 : Hid (Below w.heap.size w w4) := HB2.out.grown hg4 HB2.out.size (fun k hk => by have := owns_row O2.out k hk; omega)
  have R4 : Hid (Blk w4 w.heap.size 24 (ints .u8 (List.replicate 32 0))) := by
    unfold Hid Blk
    rw [hg4.block w.heap.size R2.out.lt (by simp [Value.ownBlock])]
    exact R2.out
  have A4 : Hid (BytesIn w4 v4 (kind :: frameL zss)) := owns_bytes ho4
  have N4 := Lib.hid (owns_nilok ho4)
  clear ho4 hg4 HB2 R2 O2 F2 N2
  go_wp2_with fail
  refine (rsum_walk _ (kind :: frameL zss) _ A4.out N4.out (by have := HFL.out; simp only [List.length_cons]; omega)).mono ?_
  rintro e w5 ⟨rfl, hb5⟩
  have R5 := Lib.hid (R4.out.below hb5 R4.out.lt)
  have HB5 := Lib.hid (HB4.out.trans (hb5.mono HB4.out.size))
  clear hb5 R4 HB4 A4 N4
  obtain ⟨res, hres⟩ : ∃ r, Hid (nodeL kind zss = r) := ⟨_, rfl⟩
  have HRL : Hid (res.length = 32) := by unfold Hid; rw [← hres.out]; exact nodeL_length _ _
  rw [show Sha.sum (kind :: frameL zss) = res from hres.out]
  have HI : Hid ((Tryd.prog.info? 24).map (·.size) = some (ints .u8 res).length) := by unfold Hid; rw [ints_length, HRL.out]; exact infoDigest
  have HI' : Hid ((Tryd.prog.info? 24).map (·.size) = some (ints .u8 res).toArray.size) := by unfold Hid; rw [List.size_toArray, ints_length, HRL.out]; exact infoDigest
  have HL : Hid ((ints .u8 res).length = (ints .u8 (List.replicate 32 0)).length) := by unfold Hid; rw [ints_length, HRL.out, ints_length, List.length_replicate]
  go_wp2_with (refine wpList_store_whole rfl 24 _ _ rfl w.heap.size (ints .u8 res) rfl rfl 24 (ints .u8 (List.replicate 32 0)) R5.out HL.out HI.out (ints_oneCell _ _) ?_)
  intro w6 hb6 hup6 _
  refine wpList_nil ?_
  go_wp2
  have hbl := hup6.below HB5.out (Nat.le_refl _) HB5.out.size
  refine bodyPost_ret (v := .agg (ints .u8 res).toArray) ?_ rfl ⟨by rw [hres.out], hbl⟩
  refine results_cell_row (g := w.heap.size) (t := 24) (cs := (ints .u8 res).toArray) (fr := (0, 0)) Tryd.results30 _ _ _ ?_ ?_ Tryd.underlying24 rfl HI'.out
  · rfl
  · exact hb6
end Go.Proofs.YtoeilaedpibboaaDoor
