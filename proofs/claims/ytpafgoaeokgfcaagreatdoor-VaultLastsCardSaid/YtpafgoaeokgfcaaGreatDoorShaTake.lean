/- take -/
import Derived.Test.YtpafgoaeokgfcaaGreatDoorShaDig
import Derived.Test.YtpafgoaeokgfcaaGreatDoorShaPad
import Derived.Test.YtpafgoaeokgfcaaGreatDoorShaBlk
import Derived.Test.YtpafgoaeokgfcaaGreatDoorShaSpec
import Derived.Deep.RegionWith
namespace Go.Proofs.YtpafgoaeokgfcaaGreatDoor
open Go.RowKit
set_option maxRecDepth 100000

/-- A hash's cells. -/
def hcells (st buf : List Int) (n : Nat) : List Value := ints .u32 st ++ ints .u8 buf ++ [.int .i64 (n : Int)]
theorem hcells_length {st buf : List Int} {n : Nat} (h1 : st.length = 8) (h2 : buf.length = 64) : (hcells st buf n).length = 73 := by simp [hcells, ints, h1, h2]
theorem hcells_over {st buf : List Int} {n r : Nat} {cs : List Int} (h1 : st.length = 8) (h2 : buf.length = 64) (hr : r + cs.length ≤ 64) : splice (hcells st buf n) (8 + r) (ints .u8 cs) = hcells st (Sha.over buf r cs) n := by
  unfold splice hcells Sha.over
  have e1 : (ints .u32 st ++ ints .u8 buf ++ [Value.int .i64 (n : Int)]).take (8 + r) = ints .u32 st ++ ints .u8 (buf.take r) := by
    rw [List.append_assoc, List.take_append, ints_length, h1, List.take_of_length_le (by rw [ints_length]; omega), show 8 + r - 8 = r by omega, List.take_append, ints_length, h2, show r - 64 = 0 by omega]
    simp [ints]
  have e2 : (ints .u32 st ++ ints .u8 buf ++ [Value.int .i64 (n : Int)]).drop (8 + r + (ints .u8 cs).length) = ints .u8 (buf.drop (r + cs.length)) ++ [Value.int .i64 (n : Int)] := by
    rw [ints_length, List.append_assoc, List.drop_append, ints_length, h1, List.drop_eq_nil_of_le (by rw [ints_length]; omega), show 8 + r + cs.length - 8 = r + cs.length by omega, List.drop_append, ints_length, h2, show r + cs.length - 64 = 0 by omega]
    simp [ints]
  rw [e1, e2]
  simp [ints]
theorem hcells_count {st buf : List Int} {n : Nat} (h1 : st.length = 8) (h2 : buf.length = 64) (m : Nat) : (hcells st buf n).set 72 (.int .i64 (m : Int)) = hcells st buf m := by
  unfold hcells
  rw [List.set_append_right _ _ (by simp [ints, h1, h2])]
  simp [ints, h1, h2]
theorem hcells_state {st st' buf : List Int} {n : Nat} (h1 : st.length = 8) (h2 : st'.length = 8) : splice (hcells st buf n) 0 (ints .u32 st') = hcells st' buf n := by
  unfold splice hcells
  rw [ints_length, h2, List.take_zero, Nat.zero_add, List.append_assoc (ints .u32 st), List.drop_append, ints_length, h1, List.drop_eq_nil_of_le (by rw [ints_length]; omega)]
  simp
theorem hcells_c72 {st buf : List Int} {n : Nat} (h1 : st.length = 8) (h2 : buf.length = 64) : (hcells st buf n)[72]? = some (.int .i64 (n : Int)) := by
  unfold hcells
  rw [List.getElem?_append_right (by simp [ints, h1, h2])]
  simp [ints, h1, h2]
theorem hcells_take {st buf : List Int} {n : Nat} (h1 : st.length = 8) : ((hcells st buf n).drop 0).take 8 = ints .u32 st := by
  unfold hcells
  rw [List.drop_zero, List.append_assoc, List.take_append, ints_length, h1, List.take_of_length_le (by rw [ints_length]; omega)]
  simp
theorem hcells_mid {st buf : List Int} {n : Nat} (h1 : st.length = 8) (h2 : buf.length = 64) : ((hcells st buf n).drop 8).take 64 = ints .u8 buf := by
  unfold hcells
  rw [List.append_assoc, List.drop_append, ints_length, h1, List.drop_eq_nil_of_le (by rw [ints_length]; omega)]
  simp [ints, h2]
theorem sizeByte : (Tryz.prog.info? 5).map (·.size) = some 1 := by kernel_rfl

theorem run_slice_buf (b r : Nat) (hr : r < 64) (w : World) : (Instr.sliceAt 78 (.pointer (some ⟨b, 8, none⟩)) (some (.int .i64 (r : Int))) none none).run Tryz.prog w = .ok (.slice (some ⟨b, 8 + r, none⟩) (64 - r) (64 - r)) w := by
  have hl : Tryz.prog.arrayLen 78 = 64 := by kernel_rfl
  have hz : (sizeOf (Tryz.prog.elem 78)).run Tryz.prog w = .ok 1 w := by kernel_rfl
  rw [run_sliceAt_array_l w 78 ⟨b, 8, none⟩ (by kernel_rfl) .i64 (r : Int) (by omega) (by rw [hl]; omega), hz, hl]
  simp only [Result.andThen_ok, slicedAt]
  rw [if_neg (by omega), Addr.add_mid]
  simp
set_option maxHeartbeats 1000000 in
theorem take_walk (b : Nat) (st buf : List Int) (n : Nat) (hst : st.length = 8) (hbuf : buf.length = 64) (pb po len cap : Nat) (zs : List Int) (hz : zs.length = len) (hpos : 0 < len) (hN : n + len ≤ 1125899906842624)
    (w : World) (hb : Blk w b 143 (hcells st buf n)) (hp : w.rangeAt pb po (ints .u8 zs)) (hK : KW w) (hKb : 0 ≠ b) :
    Calls Tryz.prog 94 #[.pointer (some ⟨b, 0, none⟩), .slice (some ⟨pb, po, none⟩) len cap] w fun e w' => e = .returned (.int .i64 (takenN n len : Int)) ∧ Blk w' b 143 (hcells (takenSt st buf n zs) (takenBuf buf n zs) (n + takenN n len)) ∧ Upd b w w' := by
  obtain ⟨r, hr⟩ : ∃ r, r = n % 64 := ⟨_, rfl⟩
  obtain ⟨c, hc⟩ : ∃ c, c = takenN n len := ⟨_, rfl⟩
  have hcv : c = min (64 - r) len := by rw [hc, takenN, hr]
  have hr1 : (n : Int) % 64 = (r : Int) := by omega
  have hr2 : r < 64 := by omega
  have hc0 : 0 < c := by omega
  have hc1 : c ≤ 64 - r := by omega
  have hc2 : c ≤ len := by omega
  have c72 : w.cell? ⟨b, 72, none⟩ = some (.int .i64 (n : Int)) := hb.cell (hcells_c72 hst hbuf)
  have hlen : (hcells st buf n).length = 73 := hcells_length hst hbuf
  have hcl : (ints .u8 (zs.take (64 - r))).length = c := by rw [ints_length, List.length_take, hz, hcv]
  have hn : Hid ((ints .u8 (zs.take (64 - r))).length = Nat.min len (64 - r)) := by unfold Hid; rw [ints_length, List.length_take, hz]; exact Nat.min_comm _ _
  have hsrc : Hid (w.rangeAt pb po (ints .u8 (zs.take (64 - r)))) := fun j v hv => hp j v (by
    simp only [ints, List.map_take, List.getElem?_take] at hv ⊢
    split at hv
    · exact hv
    · cases hv)
  have hfit : Hid (8 + r + (ints .u8 (zs.take (64 - r))).length ≤ (hcells st buf n).length) := by unfold Hid; rw [hlen, hcl]; omega
  have hbuf' : (takenBuf buf n zs).length = 64 := by rw [takenBuf, ← hr, Sha.over_length (by rw [List.length_take, hz, hbuf]; omega), hbuf]
  have hov : splice (hcells st buf n) (8 + r) (ints .u8 (zs.take (64 - r))) = hcells st (takenBuf buf n zs) n := by
    rw [takenBuf, ← hr]; exact hcells_over hst hbuf (by rw [List.length_take, hz]; omega)
  have hst' : Hid (takenSt st buf n zs = if r + c = 64 then Sha.compress st (takenBuf buf n zs) else st) := by unfold Hid; rw [takenSt, hz, ← hr, ← hc]
  rw [← hc]
  have HR := Lib.hid hr
  have HC := Lib.hid hc
  have HCV := Lib.hid hcv
  have HB := Lib.hid hb
  have HK := Lib.hid hK
  have HCL := Lib.hid hcl
  have HOV := Lib.hid hov
  have HST := Lib.hid hst
  have HBUF := Lib.hid hbuf'
  have hslice := run_slice_buf b r hr2
  clear hr hb hp hK hz hst hbuf hlen hcl hov hbuf' hc hcv
  generalize takenBuf buf n zs = buf' at *
  generalize takenSt st buf n zs = st' at *
  go_enter Tryz.func94, Tryz.ntmps94
  go_wp2_with (with_reducible refine wpList_copy_blk (o := ⟨some 18, _, _, _, _, _⟩) ?a1 (.tmp 16) (.tmp 17) 36 36 ?a2 5 Tryz.underlying36 sizeByte b (8 + r) (64 - r) (64 - r) pb po len cap ?a3 ?a4 (hcells st buf n) 143 HB.out (ints .u8 (zs.take (64 - r))) hn.out hsrc.out hfit.out (ints_one _ _) c HCL.out ?_)
  case a1 => rfl
  case a2 => rfl
  case a3 => rfl
  case a4 => rfl
  intro w1 hb1 hup
  rw [HOV.out] at hb1
  have d72 : w1.cell? ⟨b, 72, none⟩ = some (.int .i64 (n : Int)) := hb1.cell (hcells_c72 HST.out HBUF.out)
  have f72 := hb1.free 72
  have hb2 : Blk (w1.setCell ⟨b, 72, none⟩ (.int .i64 ((n : Int) + (c : Int)))) b 143 (hcells st buf' (n + c)) := by
    have := hb1.set 72 (.int .i64 ((n + c : Nat) : Int))
    rw [hcells_count HST.out HBUF.out] at this
    exact this
  have HB2 := Lib.hid hb2
  have HUP := Lib.hid (hup.setCell 72 (.int .i64 ((n : Int) + (c : Int))))
  clear hb1 hup hb2 hslice hsrc hfit hn c72 HB HCL HOV
  by_cases hfull : r + c = 64
  · have t1 : ((r : Int) + (c : Int) == 64) = true := by rw [beq_iff_eq]; omega
    have HF := Lib.hid hfull
    clear hfull
    go_wp2
    generalize w1.setCell ⟨b, 72, none⟩ (.int .i64 ((n : Int) + (c : Int))) = w2 at *
    have hr8 : Hid (w2.drew.rangeAt b 0 (ints .u32 st)) := by
      have := HB2.out.drew.range 0 8
      rwa [hcells_take HST.out] at this
    have hr64 : Hid (w2.drew.rangeAt b 8 (ints .u8 buf')) := by
      have := HB2.out.drew.range 8 64
      rwa [hcells_mid HST.out HBUF.out] at this
    have hi8 : Hid ((Tryz.prog.info? 140).map (·.size) = some (ints .u32 st).length) := by unfold Hid; rw [ints_length, HST.out]; exact infoState
    have hi64 : Hid ((Tryz.prog.info? 78).map (·.size) = some (ints .u8 buf').length) := by unfold Hid; rw [ints_length, HBUF.out]; exact infoBlock
    have hcl : (Sha.compress st buf').length = 8 := by rw [Sha.compress, Sha.addTo_length, HST.out]
    have hi8' : Hid ((Tryz.prog.info? 140).map (·.size) = some (ints .u32 (Sha.compress st buf')).length) := by unfold Hid; rw [ints_length, hcl]; exact infoState
    have HCL := Lib.hid hcl
    clear hcl
    have HB3 : Hid (Blk w2.drew b 143 (hcells st buf' (n + c))) := HB2.out.drew
    have HUP3 : Hid (Upd b w w2.drew) := HUP.out.drew
    have HK3 : Hid (KW w2.drew) := HK.out.upd HUP.out.drew hKb
    refine wp_region_any (by kernel_rfl) ?_
    change wpAny _ _ _ _ _ _ _ w2.drew
    generalize w2.drew = w3 at *
    refine wpAny_take (i := 0) (v := .pointer (some ⟨b, 0, none⟩)) rfl (by kernel_rfl) (by kernel_rfl) (by kernel_rfl) (fun _ _ _ h => h) (Or.inl ⟨rfl, fun w => by kernel_rfl⟩) ?_
    refine wpAny_take (i := 1) (v := .pointer (some ⟨b, 0, none⟩)) rfl (by kernel_rfl) (by kernel_rfl) (by kernel_rfl) (fun _ _ _ h => h) (Or.inl ⟨rfl, fun w => by kernel_rfl⟩) ?_
    refine wpAny_take (i := 2) (v := .pointer (some ⟨b, 0, none⟩)) rfl (by kernel_rfl) (by kernel_rfl) (by kernel_rfl) (fun _ _ _ h => h) (Or.inl ⟨rfl, fun w => by kernel_rfl⟩) ?_
    refine wpAny_take (i := 3) (v := .pointer (some ⟨b, 0, none⟩)) rfl (by kernel_rfl) (by kernel_rfl) (by kernel_rfl) (fun _ _ _ h => h) (Or.inl ⟨rfl, fun w => by kernel_rfl⟩) ?_
    refine wpAny_take (i := 5) (v := .pointer (some ⟨b, 0, none⟩)) rfl (by kernel_rfl) (by kernel_rfl) (by kernel_rfl) (fun _ _ _ h => h) (Or.inl ⟨rfl, fun w => by kernel_rfl⟩) ?_
    refine wpAny_take (i := 6) (v := .pointer (some ⟨b, 0, none⟩)) rfl (by kernel_rfl) (by kernel_rfl) (by kernel_rfl) (fun _ _ _ h => h) (Or.inl ⟨rfl, fun w => by kernel_rfl⟩) ?_
    refine wpAny_take (i := 7) (v := .pointer (some ⟨b, 8, none⟩)) rfl (by kernel_rfl) (by kernel_rfl) (by kernel_rfl) (fun _ _ _ h => h) (Or.inl ⟨rfl, fun w => by kernel_rfl⟩) ?_
    refine wpAny_two (i := 4) (j := 8) (by kernel_rfl) (wpOp_value (.agg (ints .u32 st).toArray) rfl rfl (exec_load_mid 140 (.tmp 34) rfl b 0 (by kernel_rfl) _ _ hr8.out Tryz.underlying140 rfl hi8.out) ?_) (wpOp_value (.agg (ints .u8 buf').toArray) rfl rfl (exec_load_mid 78 (.tmp 38) rfl b 8 (by kernel_rfl) _ _ hr64.out Tryz.underlying78 rfl hi64.out) ?_)
    · refine wpAny_one (i := 8) (by kernel_rfl) (wpOp_value (.agg (ints .u8 buf').toArray) rfl rfl (exec_load_mid 78 (.tmp 38) rfl b 8 (by kernel_rfl) _ _ hr64.out Tryz.underlying78 rfl hi64.out) ?_)
      refine wpAny_one (i := 9) (by kernel_rfl) (wpOp_call 98 #[.agg (ints .u32 st).toArray, .agg (ints .u8 buf').toArray] (.agg (ints .u32 (Sha.compress st buf')).toArray) (Below w3.heap.size w3) rfl rfl (by kernel_rfl) (compress_walk st buf' HST.out HBUF.out w3 HK3.out) ?_)
      intro w4 hb4
      refine wpAny_take (i := 10) (v := .pointer (some ⟨b, 0, none⟩)) rfl (by kernel_rfl) (by kernel_rfl) (by kernel_rfl) (fun _ _ _ h => h) (Or.inl ⟨rfl, fun w => by kernel_rfl⟩) ?_
      refine wpAny_take (i := 11) (v := .pointer (some ⟨b, 0, none⟩)) rfl (by kernel_rfl) (by kernel_rfl) (by kernel_rfl) (fun _ _ _ h => h) (Or.inl ⟨rfl, fun w => by kernel_rfl⟩) ?_
      have hb5 := HB3.out.below hb4 HB3.out.lt
      have ht5 : w4.there b 0 (ints .u32 (Sha.compress st buf')).length := by rw [ints_length, HCL.out]; exact hb5.there 0 8 (by rw [hcells_length HST.out HBUF.out]; omega)
      refine wpAny_one (i := 12) (by kernel_rfl) (wpOp_skip rfl rfl (exec_store_mid 140 (.tmp 42) (.tmp 40) rfl b 0 (ints .u32 (Sha.compress st buf')) (by kernel_rfl) (by kernel_rfl) ht5 hi8'.out (ints_oneCell _ _)) ?_)
      refine wpAny_done (by kernel_rfl) ?_ _
      have hfin : Blk (w4.setCells b 0 (ints .u32 (Sha.compress st buf'))) b 143 (hcells st' buf' (n + c)) := by
        have := Blk.setCells (ints .u32 (Sha.compress st buf')) hb5 0 (by rw [ints_length, HCL.out, hcells_length HST.out HBUF.out]; omega)
        rw [hcells_state HST.out HCL.out] at this
        rw [hst'.out, if_pos HF.out]
        exact this
      have hupf : Upd b w (w4.setCells b 0 (ints .u32 (Sha.compress st buf'))) := (HUP3.out.trans (Upd.of_below hb4 (Nat.le_refl _))).setCells _ 0
      generalize w4.setCells b 0 (ints .u32 (Sha.compress st buf')) = w5 at *
      go_wp2
      go_ret
      exact ⟨rfl, hfin, hupf⟩
    · refine wpAny_one (i := 4) (by kernel_rfl) (wpOp_value (.agg (ints .u32 st).toArray) rfl rfl (exec_load_mid 140 (.tmp 34) rfl b 0 (by kernel_rfl) _ _ hr8.out Tryz.underlying140 rfl hi8.out) ?_)
      refine wpAny_one (i := 9) (by kernel_rfl) (wpOp_call 98 #[.agg (ints .u32 st).toArray, .agg (ints .u8 buf').toArray] (.agg (ints .u32 (Sha.compress st buf')).toArray) (Below w3.heap.size w3) rfl rfl (by kernel_rfl) (compress_walk st buf' HST.out HBUF.out w3 HK3.out) ?_)
      intro w4 hb4
      refine wpAny_take (i := 10) (v := .pointer (some ⟨b, 0, none⟩)) rfl (by kernel_rfl) (by kernel_rfl) (by kernel_rfl) (fun _ _ _ h => h) (Or.inl ⟨rfl, fun w => by kernel_rfl⟩) ?_
      refine wpAny_take (i := 11) (v := .pointer (some ⟨b, 0, none⟩)) rfl (by kernel_rfl) (by kernel_rfl) (by kernel_rfl) (fun _ _ _ h => h) (Or.inl ⟨rfl, fun w => by kernel_rfl⟩) ?_
      have hb5 := HB3.out.below hb4 HB3.out.lt
      have ht5 : w4.there b 0 (ints .u32 (Sha.compress st buf')).length := by rw [ints_length, HCL.out]; exact hb5.there 0 8 (by rw [hcells_length HST.out HBUF.out]; omega)
      refine wpAny_one (i := 12) (by kernel_rfl) (wpOp_skip rfl rfl (exec_store_mid 140 (.tmp 42) (.tmp 40) rfl b 0 (ints .u32 (Sha.compress st buf')) (by kernel_rfl) (by kernel_rfl) ht5 hi8'.out (ints_oneCell _ _)) ?_)
      refine wpAny_done (by kernel_rfl) ?_ _
      have hfin : Blk (w4.setCells b 0 (ints .u32 (Sha.compress st buf'))) b 143 (hcells st' buf' (n + c)) := by
        have := Blk.setCells (ints .u32 (Sha.compress st buf')) hb5 0 (by rw [ints_length, HCL.out, hcells_length HST.out HBUF.out]; omega)
        rw [hcells_state HST.out HCL.out] at this
        rw [hst'.out, if_pos HF.out]
        exact this
      have hupf : Upd b w (w4.setCells b 0 (ints .u32 (Sha.compress st buf'))) := (HUP3.out.trans (Upd.of_below hb4 (Nat.le_refl _))).setCells _ 0
      generalize w4.setCells b 0 (ints .u32 (Sha.compress st buf')) = w5 at *
      go_wp2
      go_ret
      exact ⟨rfl, hfin, hupf⟩
  · have t1 : ((r : Int) + (c : Int) == 64) = false := by rw [beq_eq_false_iff_ne]; omega
    have HF := Lib.hid hfull
    clear hfull
    go_wp2
    go_ret
    refine ⟨rfl, ?_, HUP.out⟩
    rw [hst'.out, if_neg HF.out]
    exact HB2.out
end Go.Proofs.YtpafgoaeokgfcaaGreatDoor
