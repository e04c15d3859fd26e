/- Pad -/
import Derived.Test.YtoeilaedpibboaaDoorGenB
import Derived.Test.YtoeilaedpibboaaDoorShaSpec
import Derived.Test.YtoeilaedpibboaaDoorShaBlk
import Derived.Test.YtoeilaedpibboaaDoorShaPure
import Derived.Test.YtoeilaedpibboaaDoorShaSched
import Derived.Deep.RegionWith
namespace Go.Proofs.YtoeilaedpibboaaDoor
open Go.RowKit

/-- What Pad leaves: a slice whose block is known whole. -/
def PadPost (n : Nat) (w : World) (e : Ending) (w' : World) : Prop := ∃ b, w.heap.size ≤ b ∧ e = .returned (.slice (some ⟨b, 0, none⟩) (Sha.padSize n) (Sha.padSize n)) ∧ Blk w' b 5 (ints .u8 (Sha.pad n)) ∧ Below w.heap.size w w'

theorem pad_none (n : Int) (h : n < 0 ∨ 1125899906842624 < n) (w : World) :
    Calls Tryd.prog 46 #[.int .i64 n] w fun e w' => e = .returned (.slice none 0 0) ∧ w = w' := by
  rcases h with h | h
  · go_enter Tryd.func46, Tryd.ntmps46
    go_wp2
    go_ret
    exact ⟨rfl, rfl⟩
  · have h' : ¬ n < 0 := by omega
    go_enter Tryd.func46, Tryd.ntmps46
    go_wp2
    go_ret
    exact ⟨rfl, rfl⟩
/-- What lies in memory while the padding's length is filled in. -/
def Filled (n k : Nat) (w wr : World) : Prop := Blk wr w.heap.size 5 (ints .u8 (Sha.padTo n k)) ∧ Below w.heap.size w wr
set_option maxHeartbeats 1000000 in
theorem pad_some (n : Nat) (h : n ≤ 1125899906842624) (w : World) : Calls Tryd.prog 46 #[.int .i64 (n : Int)] w (PadPost n w) := by
  have h1 : ¬ ((n : Int) < 0) := by omega
  have h2 : ¬ (1125899906842624 < (n : Int)) := by omega
  obtain ⟨z, ez⟩ : ∃ z, Hid (z = Sha.padSize n) := ⟨_, rfl⟩
  have hz9 : 9 ≤ z ∧ z ≤ 72 := by rw [ez.out]; exact Sha.padSize_bounds n
  obtain ⟨hz9, hz72⟩ := hz9
  by_cases hs : 64 - n % 64 < 9
  · have h3 : (64 : Int) - (n : Int) % 64 < 9 := by omega
    have hz : (64 : Int) - (n : Int) % 64 + 64 = (z : Int) := by rw [ez.out, Sha.padSize, if_pos hs]; omega
    go_enter Tryd.func46, Tryd.ntmps46
    go_wp2_with (refine wpList_make_blk _ rfl _ _ 36 rfl 5 (.int .u8 0) 1 Tryd.underlying36 infoByte rfl _ _ _ _ z rfl rfl rfl rfl (by omega) (by omega) ?_)
    intro w1 hb hbel hsz
    have f0 := hb.free 0
    have c0 : w1.cell? ⟨w.heap.size, 0, none⟩ = some (.int .u8 0) := hb.cell (by rw [List.getElem?_replicate, if_pos (by omega)])
    have hfill : Filled n 0 w (w1.setCell ⟨w.heap.size, 0, none⟩ (.int .u8 128)) := by
      refine ⟨?_, hbel.setCell (Nat.le_refl _) _⟩
      have := hb.set 0 (.int .u8 128)
      rw [ez.out] at this
      simpa [Sha.padTo, ints] using this
    have HF := Lib.hid hfill
    clear hb hbel hsz hfill
    go_wp2
    go_loopw [27, 6] (fun i _ wr => ∃ k : Nat, k ≤ 8 ∧ i = .int .i64 k ∧ Filled n k w wr) (fun i _ _ => 8 - (intOf i).toNat)
    case atStart => exact ⟨0, by omega, rfl, HF.out⟩
    case round =>
      obtain ⟨k, hk, rfl, hf⟩ := hrel
      clear HF f0 c0
      by_cases hlt : k < 8
      · have hl : (Sha.padTo n k).length = z := by rw [Sha.padTo_length, ez.out]
        have fk := hf.1.free (z - 1 - k)
        have ck := hf.1.cell (ints_getD (k := .u8) (j := z - 1 - k) (by omega))
        have p0 : (k : Int) < 8 := by omega
        have i1 : ((z : Int) - 1 - (k : Int)).toNat = z - 1 - k := by omega
        have i2 : 0 ≤ (z : Int) - 1 - (k : Int) := by omega
        have i3 : (z : Int) - 1 - (k : Int) < (z : Int) := by omega
        have i4 : (8 * (k : Int)).toNat = 8 * k := by omega
        have HF := Lib.hid hf
        clear hl hf
        go_wp2
        go_roundw
        case rel =>
          refine ⟨k + 1, by omega, by go_num, ?_, HF.out.2.setCell (Nat.le_refl _) _⟩
          have := HF.out.1.set (z - 1 - k) (.int .u8 ((n : Int) * 8 / 2 ^ (8 * k) % 256))
          rw [ints_set] at this
          rw [Sha.padTo, ← ez.out]
          exact this
        case measure => simp [intOf]; omega
      · have HF : Hid (Filled n 8 w wr) := by
          have e : k = 8 := by omega
          subst e; exact hf
        have q3 : ¬ ((k : Int) < 8) := by omega
        have q5 : decide ((k : Int) < 8) = false := by simp; omega
        clear hf
        go_wp2
        go_ret
        refine ⟨w.heap.size, Nat.le_refl _, ?_, HF.out.1, HF.out.2⟩
        rw [← ez.out]
        rfl
  · have hz : (64 : Int) - (n : Int) % 64 = (z : Int) := by rw [ez.out, Sha.padSize, if_neg hs]; omega
    go_enter Tryd.func46, Tryd.ntmps46
    go_wp2_with (refine wpList_make_blk _ rfl _ _ 36 rfl 5 (.int .u8 0) 1 Tryd.underlying36 infoByte rfl _ _ _ _ z rfl rfl rfl rfl (by omega) (by omega) ?_)
    intro w1 hb hbel hsz
    have f0 := hb.free 0
    have c0 : w1.cell? ⟨w.heap.size, 0, none⟩ = some (.int .u8 0) := hb.cell (by rw [List.getElem?_replicate, if_pos (by omega)])
    have hfill : Filled n 0 w (w1.setCell ⟨w.heap.size, 0, none⟩ (.int .u8 128)) := by
      refine ⟨?_, hbel.setCell (Nat.le_refl _) _⟩
      have := hb.set 0 (.int .u8 128)
      rw [ez.out] at this
      simpa [Sha.padTo, ints] using this
    have HF := Lib.hid hfill
    clear hb hbel hsz hfill
    go_wp2
    go_loopw [27, 6] (fun i _ wr => ∃ k : Nat, k ≤ 8 ∧ i = .int .i64 k ∧ Filled n k w wr) (fun i _ _ => 8 - (intOf i).toNat)
    case atStart => exact ⟨0, by omega, rfl, HF.out⟩
    case round =>
      obtain ⟨k, hk, rfl, hf⟩ := hrel
      clear HF f0 c0
      by_cases hlt : k < 8
      · have hl : (Sha.padTo n k).length = z := by rw [Sha.padTo_length, ez.out]
        have fk := hf.1.free (z - 1 - k)
        have ck := hf.1.cell (ints_getD (k := .u8) (j := z - 1 - k) (by omega))
        have p0 : (k : Int) < 8 := by omega
        have i1 : ((z : Int) - 1 - (k : Int)).toNat = z - 1 - k := by omega
        have i2 : 0 ≤ (z : Int) - 1 - (k : Int) := by omega
        have i3 : (z : Int) - 1 - (k : Int) < (z : Int) := by omega
        have i4 : (8 * (k : Int)).toNat = 8 * k := by omega
        have HF := Lib.hid hf
        clear hl hf
        go_wp2
        go_roundw
        case rel =>
          refine ⟨k + 1, by omega, by go_num, ?_, HF.out.2.setCell (Nat.le_refl _) _⟩
          have := HF.out.1.set (z - 1 - k) (.int .u8 ((n : Int) * 8 / 2 ^ (8 * k) % 256))
          rw [ints_set] at this
          rw [Sha.padTo, ← ez.out]
          exact this
        case measure => simp [intOf]; omega
      · have HF : Hid (Filled n 8 w wr) := by
          have e : k = 8 := by omega
          subst e; exact hf
        have q3 : ¬ ((k : Int) < 8) := by omega
        have q5 : decide ((k : Int) < 8) = false := by simp; omega
        clear hf
        go_wp2
        go_ret
        refine ⟨w.heap.size, Nat.le_refl _, ?_, HF.out.1, HF.out.2⟩
        rw [← ez.out]
        rfl
end Go.Proofs.YtoeilaedpibboaaDoor
/- take -/
namespace Go.Proofs.YtoeilaedpibboaaDoor
open Go.RowKit
set_option maxRecDepth 100000

/-- A hash's cells. -/
def hcells (st buf : List Int) (n : Nat) : List Value := ints .u32 st ++ ints .u8 buf ++ [.int .i64 (n : Int)]
theorem hcells_length {st buf : List Int} {n : Nat} (h1 : st.length = 8) (h2 : buf.length = 64) : (hcells st buf n).length = 73 := by simp [hcells, ints, h1, h2]
theorem hcells_over {st buf : List Int} {n r : Nat} {cs : List Int} (h1 : st.length = 8) (h2 : buf.length = 64) (hr : r + cs.length ≤ 64) : splice (hcells st buf n) (8 + r) (ints .u8 cs) = hcells st (Sha.over buf r cs) n := by
  unfold splice hcells Sha.over
  have e1 : (ints .u32 st ++ ints .u8 buf ++ [Value.int .i64 (n : Int)]).take (8 + r) = ints .u32 st ++ ints .u8 (buf.take r) := by
    rw [List.append_assoc, List.take_append, ints_length, h1, List.take_of_length_le (by rw [ints_length]; omega), show 8 + r - 8 = r by omega, List.take_append, ints_length, h2, show r - 64 = 0 by omega]
    simp [ints]
  have e2 : (ints .u32 st ++ ints .u8 buf ++ [Value.int .i64 (n : Int)]).drop (8 + r + (ints .u8 cs).length) = ints .u8 (buf.drop (r + cs.length)) ++ [Value.int .i64 (n : Int)] := by
    rw [ints_length, List.append_assoc, List.drop_append, ints_length, h1, List.drop_eq_nil_of_le (by rw [ints_length]; omega), show 8 + r + cs.length - 8 = r + cs.length by omega, List.drop_append, ints_length, h2, show r + cs.length - 64 = 0 by omega]
    simp [ints]
  rw [e1, e2]
  simp [ints]
theorem hcells_count {st buf : List Int} {n : Nat} (h1 : st.length = 8) (h2 : buf.length = 64) (m : Nat) : (hcells st buf n).set 72 (.int .i64 (m : Int)) = hcells st buf m := by
  unfold hcells
  rw [List.set_append_right _ _ (by simp [ints, h1, h2])]
  simp [ints, h1, h2]
theorem hcells_state {st st' buf : List Int} {n : Nat} (h1 : st.length = 8) (h2 : st'.length = 8) : splice (hcells st buf n) 0 (ints .u32 st') = hcells st' buf n := by
  unfold splice hcells
  rw [ints_length, h2, List.take_zero, Nat.zero_add, List.append_assoc (ints .u32 st), List.drop_append, ints_length, h1, List.drop_eq_nil_of_le (by rw [ints_length]; omega)]
  simp
theorem hcells_c72 {st buf : List Int} {n : Nat} (h1 : st.length = 8) (h2 : buf.length = 64) : (hcells st buf n)[72]? = some (.int .i64 (n : Int)) := by
  unfold hcells
  rw [List.getElem?_append_right (by simp [ints, h1, h2])]
  simp [ints, h1, h2]
theorem hcells_take {st buf : List Int} {n : Nat} (h1 : st.length = 8) : ((hcells st buf n).drop 0).take 8 = ints .u32 st := by
  unfold hcells
  rw [List.drop_zero, List.append_assoc, List.take_append, ints_length, h1, List.take_of_length_le (by rw [ints_length]; omega)]
  simp
theorem hcells_mid {st buf : List Int} {n : Nat} (h1 : st.length = 8) (h2 : buf.length = 64) : ((hcells st buf n).drop 8).take 64 = ints .u8 buf := by
  unfold hcells
  rw [List.append_assoc, List.drop_append, ints_length, h1, List.drop_eq_nil_of_le (by rw [ints_length]; omega)]
  simp [ints, h2]
theorem sizeByte : (Tryd.prog.info? 5).map (·.size) = some 1 := by kernel_rfl

theorem run_slice_buf (b r : Nat) (hr : r < 64) (w : World) : (Instr.sliceAt 49 (.pointer (some ⟨b, 8, none⟩)) (some (.int .i64 (r : Int))) none none).run Tryd.prog w = .ok (.slice (some ⟨b, 8 + r, none⟩) (64 - r) (64 - r)) w := by
  have hl : Tryd.prog.arrayLen 49 = 64 := by kernel_rfl
  have hz : (sizeOf (Tryd.prog.elem 49)).run Tryd.prog w = .ok 1 w := by kernel_rfl
  rw [run_sliceAt_array_l w 49 ⟨b, 8, none⟩ (by kernel_rfl) .i64 (r : Int) (by omega) (by rw [hl]; omega), hz, hl]
  simp only [Result.andThen_ok, slicedAt]
  rw [if_neg (by omega), Addr.add_mid]
  simp
set_option maxHeartbeats 1000000 in
theorem take_walk (b : Nat) (st buf : List Int) (n : Nat) (hst : st.length = 8) (hbuf : buf.length = 64) (pb po len cap : Nat) (zs : List Int) (hz : zs.length = len) (hpos : 0 < len) (hN : n + len ≤ 1125899906842624)
    (w : World) (hb : Blk w b 71 (hcells st buf n)) (hp : w.rangeAt pb po (ints .u8 zs)) (hK : KW w) (hKb : 1 ≠ b) :
    Calls Tryd.prog 44 #[.pointer (some ⟨b, 0, none⟩), .slice (some ⟨pb, po, none⟩) len cap] w fun e w' => e = .returned (.int .i64 (takenN n len : Int)) ∧ Blk w' b 71 (hcells (takenSt st buf n zs) (takenBuf buf n zs) (n + takenN n len)) ∧ Upd b w w' := by
  obtain ⟨r, hr⟩ : ∃ r, r = n % 64 := ⟨_, rfl⟩
  obtain ⟨c, hc⟩ : ∃ c, c = takenN n len := ⟨_, rfl⟩
  have hcv : c = min (64 - r) len := by rw [hc, takenN, hr]
  have hr1 : (n : Int) % 64 = (r : Int) := by omega
  have hr2 : r < 64 := by omega
  have hc0 : 0 < c := by omega
  have hc1 : c ≤ 64 - r := by omega
  have hc2 : c ≤ len := by omega
  have c72 : w.cell? ⟨b, 72, none⟩ = some (.int .i64 (n : Int)) := hb.cell (hcells_c72 hst hbuf)
  have hlen : (hcells st buf n).length = 73 := hcells_length hst hbuf
  have hcl : (ints .u8 (zs.take (64 - r))).length = c := by rw [ints_length, List.length_take, hz, hcv]
  have hn : Hid ((ints .u8 (zs.take (64 - r))).length = Nat.min len (64 - r)) := by unfold Hid; rw [ints_length, List.length_take, hz]; exact Nat.min_comm _ _
  have hsrc : Hid (w.rangeAt pb po (ints .u8 (zs.take (64 - r)))) := fun j v hv => hp j v (by
    simp only [ints, List.map_take, List.getElem?_take] at hv ⊢
    split at hv
    · exact hv
    · cases hv)
  have hfit : Hid (8 + r + (ints .u8 (zs.take (64 - r))).length ≤ (hcells st buf n).length) := by unfold Hid; rw [hlen, hcl]; omega
  have hbuf' : (takenBuf buf n zs).length = 64 := by rw [takenBuf, ← hr, Sha.over_length (by rw [List.length_take, hz, hbuf]; omega), hbuf]
  have hov : splice (hcells st buf n) (8 + r) (ints .u8 (zs.take (64 - r))) = hcells st (takenBuf buf n zs) n := by
    rw [takenBuf, ← hr]; exact hcells_over hst hbuf (by rw [List.length_take, hz]; omega)
  have hst' : Hid (takenSt st buf n zs = if r + c = 64 then Sha.compress st (takenBuf buf n zs) else st) := by unfold Hid; rw [takenSt, hz, ← hr, ← hc]
  rw [← hc]
  have HR := Lib.hid hr
  have HC := Lib.hid hc
  have HCV := Lib.hid hcv
  have HB := Lib.hid hb
  have HK := Lib.hid hK
  have HCL := Lib.hid hcl
  have HOV := Lib.hid hov
  have HST := Lib.hid hst
  have HBUF := Lib.hid hbuf'
  have hslice := run_slice_buf b r hr2
  clear hr hb hp hK hz hst hbuf hlen hcl hov hbuf' hc hcv
  generalize takenBuf buf n zs = buf' at *
  generalize takenSt st buf n zs = st' at *
  go_enter Tryd.func44, Tryd.ntmps44
  go_wp2_with (with_reducible refine wpList_copy_blk (o := ⟨some 18, _, _, _, _, _⟩) ?a1 (.tmp 16) (.tmp 17) 36 36 ?a2 5 Tryd.underlying36 sizeByte b (8 + r) (64 - r) (64 - r) pb po len cap ?a3 ?a4 (hcells st buf n) 71 HB.out (ints .u8 (zs.take (64 - r))) hn.out hsrc.out hfit.out (ints_one _ _) c HCL.out ?_)
  case a1 => rfl
  case a2 => rfl
  case a3 => rfl
  case a4 => rfl
  intro w1 hb1 hup
  rw [HOV.out] at hb1
  have d72 : w1.cell? ⟨b, 72, none⟩ = some (.int .i64 (n : Int)) := hb1.cell (hcells_c72 HST.out HBUF.out)
  have f72 := hb1.free 72
  have hb2 : Blk (w1.setCell ⟨b, 72, none⟩ (.int .i64 ((n : Int) + (c : Int)))) b 71 (hcells st buf' (n + c)) := by
    have := hb1.set 72 (.int .i64 ((n + c : Nat) : Int))
    rw [hcells_count HST.out HBUF.out] at this
    exact this
  have HB2 := Lib.hid hb2
  have HUP := Lib.hid (hup.setCell 72 (.int .i64 ((n : Int) + (c : Int))))
  clear hb1 hup hb2 hslice hsrc hfit hn c72 HB HCL HOV
  by_cases hfull : r + c = 64
  · have t1 : ((r : Int) + (c : Int) == 64) = true := by rw [beq_iff_eq]; omega
    have HF := Lib.hid hfull
    clear hfull
    go_wp2
    generalize w1.setCell ⟨b, 72, none⟩ (.int .i64 ((n : Int) + (c : Int))) = w2 at *
    have hr8 : Hid (w2.drew.rangeAt b 0 (ints .u32 st)) := by
      have := HB2.out.drew.range 0 8
      rwa [hcells_take HST.out] at this
    have hr64 : Hid (w2.drew.rangeAt b 8 (ints .u8 buf')) := by
      have := HB2.out.drew.range 8 64
      rwa [hcells_mid HST.out HBUF.out] at this
    have hi8 : Hid ((Tryd.prog.info? 68).map (·.size) = some (ints .u32 st).length) := by unfold Hid; rw [ints_length, HST.out]; exact infoState
    have hi64 : Hid ((Tryd.prog.info? 49).map (·.size) = some (ints .u8 buf').length) := by unfold Hid; rw [ints_length, HBUF.out]; exact infoBlock
    have hcl : (Sha.compress st buf').length = 8 := by rw [Sha.compress, Sha.addTo_length, HST.out]
    have hi8' : Hid ((Tryd.prog.info? 68).map (·.size) = some (ints .u32 (Sha.compress st buf')).length) := by unfold Hid; rw [ints_length, hcl]; exact infoState
    have HCL := Lib.hid hcl
    clear hcl
    have HB3 : Hid (Blk w2.drew b 71 (hcells st buf' (n + c))) := HB2.out.drew
    have HUP3 : Hid (Upd b w w2.drew) := HUP.out.drew
    have HK3 : Hid (KW w2.drew) := HK.out.upd HUP.out.drew hKb
    refine wp_region_any (by kernel_rfl) ?_
    change wpAny _ _ _ _ _ _ _ w2.drew
    generalize w2.drew = w3 at *
    refine wpAny_take (i := 0) (v := .pointer (some ⟨b, 0, none⟩)) rfl (by kernel_rfl) (by kernel_rfl) (by kernel_rfl) (fun _ _ _ h => h) (Or.inl ⟨rfl, fun w => by kernel_rfl⟩) ?_
    refine wpAny_take (i := 1) (v := .pointer (some ⟨b, 0, none⟩)) rfl (by kernel_rfl) (by kernel_rfl) (by kernel_rfl) (fun _ _ _ h => h) (Or.inl ⟨rfl, fun w => by kernel_rfl⟩) ?_
    refine wpAny_take (i := 2) (v := .pointer (some ⟨b, 0, none⟩)) rfl (by kernel_rfl) (by kernel_rfl) (by kernel_rfl) (fun _ _ _ h => h) (Or.inl ⟨rfl, fun w => by kernel_rfl⟩) ?_
    refine wpAny_take (i := 3) (v := .pointer (some ⟨b, 0, none⟩)) rfl (by kernel_rfl) (by kernel_rfl) (by kernel_rfl) (fun _ _ _ h => h) (Or.inl ⟨rfl, fun w => by kernel_rfl⟩) ?_
    refine wpAny_take (i := 5) (v := .pointer (some ⟨b, 0, none⟩)) rfl (by kernel_rfl) (by kernel_rfl) (by kernel_rfl) (fun _ _ _ h => h) (Or.inl ⟨rfl, fun w => by kernel_rfl⟩) ?_
    refine wpAny_take (i := 6) (v := .pointer (some ⟨b, 0, none⟩)) rfl (by kernel_rfl) (by kernel_rfl) (by kernel_rfl) (fun _ _ _ h => h) (Or.inl ⟨rfl, fun w => by kernel_rfl⟩) ?_
    refine wpAny_take (i := 7) (v := .pointer (some ⟨b, 8, none⟩)) rfl (by kernel_rfl) (by kernel_rfl) (by kernel_rfl) (fun _ _ _ h => h) (Or.inl ⟨rfl, fun w => by kernel_rfl⟩) ?_
    refine wpAny_two (i := 4) (j := 8) (by kernel_rfl) (wpOp_value (.agg (ints .u32 st).toArray) rfl rfl (exec_load_mid 68 (.tmp 34) rfl b 0 (by kernel_rfl) _ _ hr8.out Tryd.underlying68 rfl hi8.out) ?_) (wpOp_value (.agg (ints .u8 buf').toArray) rfl rfl (exec_load_mid 49 (.tmp 38) rfl b 8 (by kernel_rfl) _ _ hr64.out Tryd.underlying49 rfl hi64.out) ?_)
    · refine wpAny_one (i := 8) (by kernel_rfl) (wpOp_value (.agg (ints .u8 buf').toArray) rfl rfl (exec_load_mid 49 (.tmp 38) rfl b 8 (by kernel_rfl) _ _ hr64.out Tryd.underlying49 rfl hi64.out) ?_)
      refine wpAny_one (i := 9) (by kernel_rfl) (wpOp_call 63 #[.agg (ints .u32 st).toArray, .agg (ints .u8 buf').toArray] (.agg (ints .u32 (Sha.compress st buf')).toArray) (Below w3.heap.size w3) rfl rfl (by kernel_rfl) (compress_walk st buf' HST.out HBUF.out w3 HK3.out) ?_)
      intro w4 hb4
      refine wpAny_take (i := 10) (v := .pointer (some ⟨b, 0, none⟩)) rfl (by kernel_rfl) (by kernel_rfl) (by kernel_rfl) (fun _ _ _ h => h) (Or.inl ⟨rfl, fun w => by kernel_rfl⟩) ?_
      refine wpAny_take (i := 11) (v := .pointer (some ⟨b, 0, none⟩)) rfl (by kernel_rfl) (by kernel_rfl) (by kernel_rfl) (fun _ _ _ h => h) (Or.inl ⟨rfl, fun w => by kernel_rfl⟩) ?_
      have hb5 := HB3.out.below hb4 HB3.out.lt
      have ht5 : w4.there b 0 (ints .u32 (Sha.compress st buf')).length := by rw [ints_length, HCL.out]; exact hb5.there 0 8 (by rw [hcells_length HST.out HBUF.out]; omega)
      refine wpAny_one (i := 12) (by kernel_rfl) (wpOp_skip rfl rfl (exec_store_mid 68 (.tmp 42) (.tmp 40) rfl b 0 (ints .u32 (Sha.compress st buf')) (by kernel_rfl) (by kernel_rfl) ht5 hi8'.out (ints_oneCell _ _)) ?_)
      refine wpAny_done (by kernel_rfl) ?_ _
      have hfin : Blk (w4.setCells b 0 (ints .u32 (Sha.compress st buf'))) b 71 (hcells st' buf' (n + c)) := by
        have := Blk.setCells (ints .u32 (Sha.compress st buf')) hb5 0 (by rw [ints_length, HCL.out, hcells_length HST.out HBUF.out]; omega)
        rw [hcells_state HST.out HCL.out] at this
        rw [hst'.out, if_pos HF.out]
        exact this
      have hupf : Upd b w (w4.setCells b 0 (ints .u32 (Sha.compress st buf'))) := (HUP3.out.trans (Upd.of_below hb4 (Nat.le_refl _))).setCells _ 0
      generalize w4.setCells b 0 (ints .u32 (Sha.compress st buf')) = w5 at *
      go_wp2
      go_ret
      exact ⟨rfl, hfin, hupf⟩
    · refine wpAny_one (i := 4) (by kernel_rfl) (wpOp_value (.agg (ints .u32 st).toArray) rfl rfl (exec_load_mid 68 (.tmp 34) rfl b 0 (by kernel_rfl) _ _ hr8.out Tryd.underlying68 rfl hi8.out) ?_)
      refine wpAny_one (i := 9) (by kernel_rfl) (wpOp_call 63 #[.agg (ints .u32 st).toArray, .agg (ints .u8 buf').toArray] (.agg (ints .u32 (Sha.compress st buf')).toArray) (Below w3.heap.size w3) rfl rfl (by kernel_rfl) (compress_walk st buf' HST.out HBUF.out w3 HK3.out) ?_)
      intro w4 hb4
      refine wpAny_take (i := 10) (v := .pointer (some ⟨b, 0, none⟩)) rfl (by kernel_rfl) (by kernel_rfl) (by kernel_rfl) (fun _ _ _ h => h) (Or.inl ⟨rfl, fun w => by kernel_rfl⟩) ?_
      refine wpAny_take (i := 11) (v := .pointer (some ⟨b, 0, none⟩)) rfl (by kernel_rfl) (by kernel_rfl) (by kernel_rfl) (fun _ _ _ h => h) (Or.inl ⟨rfl, fun w => by kernel_rfl⟩) ?_
      have hb5 := HB3.out.below hb4 HB3.out.lt
      have ht5 : w4.there b 0 (ints .u32 (Sha.compress st buf')).length := by rw [ints_length, HCL.out]; exact hb5.there 0 8 (by rw [hcells_length HST.out HBUF.out]; omega)
      refine wpAny_one (i := 12) (by kernel_rfl) (wpOp_skip rfl rfl (exec_store_mid 68 (.tmp 42) (.tmp 40) rfl b 0 (ints .u32 (Sha.compress st buf')) (by kernel_rfl) (by kernel_rfl) ht5 hi8'.out (ints_oneCell _ _)) ?_)
      refine wpAny_done (by kernel_rfl) ?_ _
      have hfin : Blk (w4.setCells b 0 (ints .u32 (Sha.compress st buf'))) b 71 (hcells st' buf' (n + c)) := by
        have := Blk.setCells (ints .u32 (Sha.compress st buf')) hb5 0 (by rw [ints_length, HCL.out, hcells_length HST.out HBUF.out]; omega)
        rw [hcells_state HST.out HCL.out] at this
        rw [hst'.out, if_pos HF.out]
        exact this
      have hupf : Upd b w (w4.setCells b 0 (ints .u32 (Sha.compress st buf'))) := (HUP3.out.trans (Upd.of_below hb4 (Nat.le_refl _))).setCells _ 0
      generalize w4.setCells b 0 (ints .u32 (Sha.compress st buf')) = w5 at *
      go_wp2
      go_ret
      exact ⟨rfl, hfin, hupf⟩
  · have t1 : ((r : Int) + (c : Int) == 64) = false := by rw [beq_eq_false_iff_ne]; omega
    have HF := Lib.hid hfull
    clear hfull
    go_wp2
    go_ret
    refine ⟨rfl, ?_, HUP.out⟩
    rw [hst'.out, if_neg HF.out]
    exact HB2.out
end Go.Proofs.YtoeilaedpibboaaDoor
/- A hash in memory, and what Write does to it: the bytes of all parts are taken in; nothing else that was there changes. -/
namespace Go.Proofs.YtoeilaedpibboaaDoor
open Go.RowKit
set_option maxRecDepth 100000

/-- Block b holds a hash that has taken in just the bytes of msg. -/
def HashIs (w : World) (b : Nat) (msg : List Int) : Prop := ∃ buf, buf.length = 64 ∧ buf.take (msg.length % 64) = msg.drop (64 * (msg.length / 64)) ∧ Blk w b 71 (hcells (Sha.stateOf msg) buf msg.length)
theorem HashIs.lt {w : World} {b : Nat} {msg : List Int} (h : HashIs w b msg) : b < w.heap.size := by
  obtain ⟨_, _, _, h⟩ := h; exact h.lt
theorem HashIs.below {B : Nat} {w w' : World} {b : Nat} {msg : List Int} (h : HashIs w b msg) (hb : Below B w w') (hB : b < B) : HashIs w' b msg := by
  obtain ⟨buf, h1, h2, h3⟩ := h; exact ⟨buf, h1, h2, h3.below hb hB⟩
theorem HashIs.upd {b' : Nat} {w w' : World} {b : Nat} {msg : List Int} (h : HashIs w b msg) (hu : Upd b' w w') (hne : b ≠ b') : HashIs w' b msg := by
  obtain ⟨buf, h1, h2, h3⟩ := h; exact ⟨buf, h1, h2, hu.blk h3 hne⟩
theorem HashIs.alloc {w : World} {b : Nat} {msg : List Int} (h : HashIs w b msg) (o : Obj) : HashIs (w.alloc o) b msg := by
  obtain ⟨buf, h1, h2, h3⟩ := h; exact ⟨buf, h1, h2, h3.alloc o⟩

/-- The value v is a slice of just the bytes zs, none of them in block b. -/
def BytesAt (w : World) (b : Nat) (v : Value) (zs : List Int) : Prop :=
  ∃ a cap, v = .slice a zs.length cap ∧ zs.length ≤ cap ∧ (0 < zs.length → ∃ pb po, a = some ⟨pb, po, none⟩ ∧ pb ≠ b ∧ pb < w.heap.size ∧ w.rangeAt pb po (ints .u8 zs))
theorem rangeAt_upd {b : Nat} {w w' : World} (hu : Upd b w w') {pb po : Nat} {cs : List Value} (h : w.rangeAt pb po cs) (hlt : pb < w.heap.size) (hne : pb ≠ b) : w'.rangeAt pb po cs := fun j v hv => by
  rw [hu.cell (p := ⟨pb, po + j, none⟩) hlt hne]; exact h j v hv
theorem BytesAt.upd {w w' : World} {b : Nat} {v : Value} {zs : List Int} (h : BytesAt w b v zs) (hu : Upd b w w') : BytesAt w' b v zs := by
  obtain ⟨a, cap, h1, h2, h3⟩ := h
  refine ⟨a, cap, h1, h2, fun hp => ?_⟩
  obtain ⟨pb, po, h4, h5, h6, h7⟩ := h3 hp
  exact ⟨pb, po, h4, h5, Nat.lt_of_lt_of_le h6 hu.size, rangeAt_upd hu h7 h6 h5⟩
/-- The value v is a slice of slices of just the bytes zss, no cell of it in block b. -/
def PartsAt (w : World) (b : Nat) (v : Value) (zss : List (List Int)) : Prop :=
  ∃ (a : Option Addr) (cap : Nat) (ps : List Value), v = .slice a zss.length cap ∧ ps.length = zss.length ∧ zss.length ≤ 4611686018427387904 ∧ (0 < zss.length → ∃ qb qo, a = some ⟨qb, qo, none⟩ ∧ qb ≠ b ∧ qb < w.heap.size ∧ w.rangeAt qb qo ps) ∧
    ∀ (k : Nat) (v : Value) (zs : List Int), ps[k]? = some v → zss[k]? = some zs → BytesAt w b v zs

/-- take, by the bytes that a hash has taken in. -/
theorem take_hash (b : Nat) (msg : List Int) (pb po cap : Nat) (zs : List Int) (hpos : 0 < zs.length) (hN : msg.length + zs.length ≤ 1125899906842624)
    (w : World) (hb : HashIs w b msg) (hp : w.rangeAt pb po (ints .u8 zs)) (hK : KW w) (hKb : 1 ≠ b) :
    Calls Tryd.prog 44 #[.pointer (some ⟨b, 0, none⟩), .slice (some ⟨pb, po, none⟩) zs.length cap] w fun e w' => e = .returned (.int .i64 (takenN msg.length zs.length : Int)) ∧ HashIs w' b (msg ++ zs.take (takenN msg.length zs.length)) ∧ Upd b w w' := by
  obtain ⟨buf, h1, h2, h3⟩ := hb
  refine (take_walk b (Sha.stateOf msg) buf msg.length (Sha.stateOf_length _) h1 pb po zs.length cap zs rfl hpos hN w h3 hp hK hKb).mono ?_
  rintro e w' ⟨he, hbl, hu⟩
  obtain ⟨s1, s2, s3, s4⟩ := taken_spec msg zs buf h1 h2
  have et : zs.take (takenN msg.length zs.length) = zs.take (64 - msg.length % 64) := by
    rw [takenN]
    by_cases h : 64 - msg.length % 64 ≤ zs.length
    · rw [Nat.min_eq_left h]
    · rw [Nat.min_eq_right (by omega), List.take_length, List.take_of_length_le (by omega)]
  refine ⟨he, ?_, hu⟩
  rw [et]
  refine ⟨_, s3, s2, ?_⟩
  rw [s4, ← s1]
  exact hbl

/-- Where the rest of a slice begins. -/
def tailAddr (pb po cap c : Nat) : Option Addr := if cap = c then some ⟨pb, po, none⟩ else some ⟨pb, po + c, none⟩
theorem run_slice_tail (pb po len cap c : Nat) (h1 : c ≤ len) (w : World) : (Instr.slice 36 (.slice (some ⟨pb, po, none⟩) len cap) (some (.int .i64 (c : Int))) none none).run Tryd.prog w = .ok (.slice (tailAddr pb po cap c) (len - c) (cap - c)) w := by
  have hz : (sizeOf (Tryd.prog.elem 36)).run Tryd.prog w = .ok 1 w := by kernel_rfl
  have ht : Tryd.prog.underlying 36 = some (.slice (Tryd.prog.elem 36)) := by kernel_rfl
  rw [run_slice_l w 36 _ _ _ ht .i64 (c : Int) (by omega) (by omega), hz]
  simp only [Result.andThen_ok, sliced, tailAddr, Int.toNat_natCast]
  by_cases h : cap = c
  · rw [if_pos h, if_pos h]
  · rw [if_neg h, if_neg h]; simp [Addr.add_mid]
def lenOf : Value → Nat | .slice _ n _ => n | _ => 0
theorem bytes_tail {w : World} {b pb po cap c : Nat} {rest : List Int} (h2 : rest.length ≤ cap) (h4 : pb ≠ b) (h5 : pb < w.heap.size) (h6 : w.rangeAt pb po (ints .u8 rest)) (hc : c ≤ rest.length) : BytesAt w b (.slice (tailAddr pb po cap c) (rest.length - c) (cap - c)) (rest.drop c) := by
  refine ⟨tailAddr pb po cap c, cap - c, by rw [List.length_drop], by rw [List.length_drop]; omega, fun hp => ?_⟩
  rw [List.length_drop] at hp
  refine ⟨pb, po + c, by rw [tailAddr, if_neg (by omega)], h4, h5, fun j v hv => ?_⟩
  rw [show po + c + j = po + (c + j) by omega]
  refine h6 (c + j) v ?_
  simpa [ints, List.getElem?_drop] using hv
set_option maxHeartbeats 1000000 in
theorem write_walk (b : Nat) (msg : List Int) (zss : List (List Int)) (v : Value) (w : World) (hb : HashIs w b msg) (hv : PartsAt w b v zss) (hN : msg.length + zss.flatten.length ≤ 1125899906842624) (hK : KW w) (hKb : 1 ≠ b) :
    Calls Tryd.prog 36 #[.pointer (some ⟨b, 0, none⟩), v] w fun e w' => e = .returned (.tuple #[]) ∧ HashIs w' b (msg ++ zss.flatten) ∧ Upd b w w' := by
  obtain ⟨a, cap, ps, rfl, hps, hm, hq, hall⟩ := hv
  obtain ⟨m, em⟩ : ∃ m, m = zss.length := ⟨_, rfl⟩
  rw [← em] at hm hps hq ⊢
  have EM := Lib.hid em
  have HPS := Lib.hid hps
  have HQ := Lib.hid hq
  have HALL := Lib.hid hall
  have HB := Lib.hid hb
  have HK := Lib.hid hK
  have HN := Lib.hid hN
  clear em hps hq hall hb hK hN
  go_enter Tryd.func36, Tryd.ntmps36
  go_wp2
  go_loopw [8, 5] (fun i _ wr => ∃ k : Nat, k ≤ m ∧ i = .int .i64 k ∧ HashIs wr b (msg ++ (zss.take k).flatten) ∧ Upd b w wr) (fun i _ _ => m - (intOf i).toNat)
  case atStart => exact ⟨0, by omega, rfl, by simpa using HB.out, Upd.refl _ _⟩
  case round =>
    obtain ⟨k, hk, rfl, hh, hu⟩ := hrel
    by_cases hlt : k < m
    · obtain ⟨qb, qo, rfl, hq1, hq2, hq3⟩ := HQ.out (by omega)
      obtain ⟨v, hvk⟩ : ∃ v, ps[k]? = some v := ⟨_, List.getElem?_eq_getElem (by rw [HPS.out]; exact hlt)⟩
      obtain ⟨zs, hzk⟩ : ∃ zs, zss[k]? = some zs := ⟨_, List.getElem?_eq_getElem (by rw [← EM.out]; exact hlt)⟩
      have hby := (HALL.out k v zs hvk hzk).upd hu
      have cq := (rangeAt_upd hu hq3 hq2 hq1) k v hvk
      have q0 : (k : Int) < (m : Int) := by omega
      have hfl : (zss.take (k + 1)).flatten = (zss.take k).flatten ++ zs := by
        rw [List.take_add_one, hzk]; simp
      have hle : (zss.take (k + 1)).flatten.length ≤ zss.flatten.length := by
        conv => rhs; rw [← List.take_append_drop (k + 1) zss, List.flatten_append, List.length_append]
        omega
      have HFL := Lib.hid hfl
      have HLE : Hid ((msg ++ (zss.take k).flatten).length + zs.length ≤ 1125899906842624) := by
        have := HN.out
        rw [hfl, List.length_append] at hle
        unfold Hid; rw [List.length_append]; omega
      have HH := Lib.hid hh
      have HU := Lib.hid hu
      have HBY := Lib.hid hby
      clear hby hh hu hvk hzk hq3 hfl hle
      obtain ⟨msg1, HM1⟩ : ∃ x, Hid (x = msg ++ (zss.take k).flatten) := ⟨_, rfl⟩
      rw [← HM1.out] at HLE HH
      go_wp2
      go_loopw [5] (fun p wr => ∃ done rest : List Int, Hid (zs = done ++ rest) ∧ HashIs wr b (msg1 ++ done) ∧ Upd b w wr ∧ BytesAt wr b p rest) (fun p _ => lenOf p)
      case atStart => exact ⟨[], zs, rfl, by simpa using HH.out, HU.out, HBY.out⟩
      case round =>
        obtain ⟨done, rest, hzs, hh, hu, hby⟩ := hrel
        obtain ⟨a', cap', rfl, hcap, hr⟩ := hby
        clear HH HU HBY
        by_cases hpos : 0 < rest.length
        · obtain ⟨pb, po, rfl, h4, h5, h6⟩ := hr hpos
          have hsl := fun c (hc : c ≤ rest.length) => run_slice_tail pb po rest.length cap' c hc
          have HSL := Lib.hid hsl
          have HH := Lib.hid hh
          have HU := Lib.hid hu
          have H6 := Lib.hid h6
          have hlenb : Hid ((msg1 ++ done).length + rest.length ≤ 1125899906842624) := by
            have h1 := HLE.out
            have h2 := hzs.out
            rw [h2, List.length_append] at h1
            unfold Hid; rw [List.length_append]; omega
          have KW1 := Lib.hid (HK.out.upd hu hKb)
          have hpos' : (0 : Int) < (rest.length : Int) := by omega
          clear hr hh hu h6 hsl
          go_wp2_with fail
          refine (take_hash b (msg1 ++ done) pb po cap' rest hpos hlenb.out _ HH.out H6.out KW1.out hKb).mono ?_
          rintro e w1 ⟨rfl, hh1, hu1⟩
          have hc1 : takenN (msg1 ++ done).length rest.length ≤ rest.length := by rw [takenN]; omega
          have hc0 : 0 < takenN (msg1 ++ done).length rest.length := by rw [takenN]; omega
          have HH1 := Lib.hid hh1
          have HU1 := Lib.hid hu1
          generalize takenN (msg1 ++ done).length rest.length = c at *
          have hs1 := HSL.out c hc1
          clear hh1 hu1
          go_wp2
          go_roundw
          case rel =>
            refine ⟨done ++ rest.take c, rest.drop c, ?_, ?_, HU.out.trans HU1.out, ?_⟩
            · unfold Hid; rw [hzs.out, List.append_assoc, List.take_append_drop]
            · rw [← List.append_assoc]; exact HH1.out
            · exact bytes_tail hcap h4 (Nat.lt_of_lt_of_le h5 HU1.out.size) (rangeAt_upd HU1.out H6.out h5 h4) hc1
          case measure => simp [lenOf]; omega
        · have hpos' : ¬ ((0 : Int) < (rest.length : Int)) := by omega
          have HH : Hid (HashIs wr b (msg ++ (zss.take (k + 1)).flatten)) := by
            have e : rest = [] := List.eq_nil_of_length_eq_zero (by omega)
            have e2 : done = zs := by rw [hzs.out, e, List.append_nil]
            unfold Hid
            rw [HFL.out, ← List.append_assoc, ← HM1.out, ← e2]
            exact hh
          have HU := Lib.hid hu
          clear hr hh hu
          go_wp2
          go_roundw
          case rel => exact ⟨k + 1, by omega, by go_num, HH.out, HU.out⟩
          case measure => simp [intOf]; omega
    · have HH : Hid (HashIs wr b (msg ++ zss.flatten)) := by
        have e : k = zss.length := by have := EM.out; omega
        subst e
        rw [List.take_length] at hh
        exact hh
      have HU := Lib.hid hu
      have q0 : ¬ ((k : Int) < (m : Int)) := by omega
      clear hh hu
      go_wp2
      go_end0
      exact ⟨rfl, HH.out, HU.out⟩
end Go.Proofs.YtoeilaedpibboaaDoor
/- New makes a hash of no bytes, Fork another hash of the same bytes, Len tells how many bytes there were; what was there stays as it was. -/
namespace Go.Proofs.YtoeilaedpibboaaDoor
open Go.RowKit
set_option maxRecDepth 100000

theorem infoHash : (Tryd.prog.info? 71).map (·.size) = some 73 := by kernel_rfl
theorem zeroHash : (Tryd.prog.info? 71).map (fun i => (i.zero, i.size)) = some (some (.agg (hcells (List.replicate 8 0) (List.replicate 64 0) 0).toArray), 73) := by kernel_rfl
theorem run_build_hash (w : World) : (Instr.build 71 #[(0, .agg (ints .u32 Sha.iv).toArray)]).run Tryd.prog w = .ok (.agg (hcells Sha.iv (List.replicate 64 0) 0).toArray) w := by kernel_rfl

theorem first_walk (w : World) : Calls Tryd.prog 43 #[] w fun e w' => e = .returned (.agg (ints .u32 Sha.iv).toArray) ∧ Below w.heap.size w w' := by
  go_enter Tryd.func43, Tryd.ntmps43
  go_wp2_with (refine wpList_store_whole rfl 68 _ _ rfl w.heap.size (ints .u32 Sha.iv) rfl rfl 68 (ints .u32 (List.replicate 8 0)) (Blk.new2 _ _ _ _ _ rfl (by kernel_rfl)) rfl infoState (ints_oneCell _ _) ?_)
  intro w1 hb hup _
  refine wpList_nil ?_
  go_wp2
  have hbl := hup.below ((Below.refl w.heap.size w).alloc (Nat.le_refl _) _) (Nat.le_refl _) (by simp)
  refine bodyPost_ret (v := .agg (ints .u32 Sha.iv).toArray) ?_ rfl ⟨rfl, hbl⟩
  refine results_cell_row (g := w.heap.size) (t := 68) (cs := (ints .u32 Sha.iv).toArray) (fr := (0, 0)) Tryd.results43 _ _ _ ?_ ?_ Tryd.underlying68 rfl infoState
  · rfl
  · exact hb

/-- A new hash in new memory. -/
def NewHash (msg : List Int) (w : World) (e : Ending) (w' : World) : Prop := ∃ b, w.heap.size ≤ b ∧ e = .returned (.pointer (some ⟨b, 0, none⟩)) ∧ HashIs w' b msg ∧ Below w.heap.size w w'
theorem hash_nil {w : World} {b : Nat} (h : Blk w b 71 (hcells Sha.iv (List.replicate 64 0) 0)) : HashIs w b [] := ⟨List.replicate 64 0, by simp, by simp, h⟩

theorem new_walk (w : World) : Calls Tryd.prog 35 #[] w (NewHash [] w) := by
  go_enter Tryd.func35, Tryd.ntmps35
  go_wp2_with fail
  refine (first_walk _).mono ?_
  rintro e w1 ⟨rfl, hbel⟩
  have HB := Lib.hid hbel
  clear hbel
  go_wp2_with (with_reducible refine wpList_value (op := ⟨some 2, _, _, _, _, _⟩) ?a1 (.agg (hcells Sha.iv (List.replicate 64 0) 0).toArray) (w' := w1) ?a2 ?_)
  case a1 => rfl
  case a2 => kernel_rfl
  go_wp2
  go_ret
  exact ⟨w1.heap.size, HB.out.size, rfl, hash_nil (Blk.new _ _ _), HB.out.alloc HB.out.size _⟩
theorem fork_walk (b : Nat) (msg : List Int) (w : World) (hb : HashIs w b msg) : Calls Tryd.prog 45 #[.pointer (some ⟨b, 0, none⟩)] w (NewHash msg w) := by
  obtain ⟨buf, h1, h2, h3⟩ := hb
  have hz := (zero_of_info zeroHash).1
  have hlen : (hcells (Sha.stateOf msg) buf msg.length).length = 73 := hcells_length (Sha.stateOf_length _) h1
  obtain ⟨cs, hcs⟩ : ∃ cs, Hid (cs = hcells (Sha.stateOf msg) buf msg.length) := ⟨_, rfl⟩
  rw [← hcs.out] at h3 hlen
  have hone : Hid (cs.toArray.all (·.oneCell') = true) := by
    unfold Hid
    rw [hcs.out]
    exact all_oneCell_toArray fun v hv => by
      simp only [hcells, List.mem_append, List.mem_singleton] at hv
      rcases hv with (hv | hv) | rfl
      · exact ints_one _ _ v hv
      · exact ints_one _ _ v hv
      · rfl
  have hi : Hid ((Tryd.prog.info? 71).map (·.size) = some cs.length) := by unfold Hid; rw [hlen]; exact infoHash
  have hi' : Hid ((Tryd.prog.info? 71).map (·.size) = some cs.toArray.size) := by unfold Hid; rw [List.size_toArray, hlen]; exact infoHash
  have H3 := Lib.hid h3
  have HL : Hid (cs.length = (hcells (List.replicate 8 0) (List.replicate 64 0) 0).length) := by unfold Hid; rw [hlen]; rfl
  have H1 := Lib.hid h1
  have H2 := Lib.hid h2
  clear h1 h2 h3 hlen
  go_enter Tryd.func45, Tryd.ntmps45
  go_wp2_with (first
    | (refine wpList_load_row rfl 71 _ rfl b rfl 71 cs.toArray (0, 0) _ H3.out Tryd.underlying71 rfl hi'.out ?_)
    | (refine wpList_store_whole rfl 71 _ _ rfl w.heap.size cs rfl rfl 71 (hcells (List.replicate 8 0) (List.replicate 64 0) 0) (Blk.new2 _ _ _ _ _ rfl rfl) HL.out hi.out hone.out ?_))
  intro w1 hb hup _
  have HB := Lib.hid hb
  have HBL := Lib.hid (hup.below ((Below.refl w.heap.size w).alloc (Nat.le_refl _) _) (Nat.le_refl _) (by simp))
  clear hb hup
  go_wp2
  go_ret
  refine ⟨w.heap.size, Nat.le_refl _, rfl, ⟨buf, H1.out, H2.out, ?_⟩, HBL.out⟩
  rw [← hcs.out]
  exact HB.out
end Go.Proofs.YtoeilaedpibboaaDoor
