/- package tag's digitValue and FromHex of digits, and Short. -/
import Derived.Test.YtoeilaedpibboaaDoorGenB
import Derived.Test.YtoeilaedpibboaaDoorTagHex
namespace Go.Proofs.YtoeilaedpibboaaDoor
open Go.RowKit
set_option maxRecDepth 100000

theorem ret_tup {a b : Int} {t : Bool} (h : a = b) : Ending.returned (.tuple #[.int .u8 a, .bool t]) = .returned (.tuple #[.int .u8 b, .bool t]) := by rw [h]
theorem digit_hex (x : Int) (h0 : 0 ≤ x) (h1 : x ≤ 15) (w : World) : Calls Tryd.prog 24 #[.int .u8 (hexD x)] w fun e w' => e = .returned (.tuple #[.int .u8 x, .bool true]) ∧ w = w' := by
  by_cases h : x < 10
  · have e : hexD x = 48 + x := if_pos h
    rw [e]
    clear e
    go_enter Tryd.func24, Tryd.ntmps24
    go_wp2
    go_ret2
    exact ⟨ret_tup (by omega), rfl⟩
  · have e : hexD x = 87 + x := if_neg h
    rw [e]
    clear e
    go_enter Tryd.func24, Tryd.ntmps24
    go_wp2
    go_ret2
    exact ⟨ret_tup (by omega), rfl⟩
theorem join16 (b : Int) (h : 0 ≤ b ∧ b ≤ 255) : bits BinOp.or IntKind.u8 (b / 16 * 16) (b % 16) = b := by
  have h1 : ∀ m : Fin 256, bits BinOp.or IntKind.u8 (((m.val : Nat) : Int) / 16 * 16) (((m.val : Nat) : Int) % 16) = ((m.val : Nat) : Int) := by decide
  obtain ⟨m, rfl⟩ := Int.eq_ofNat_of_zero_le h.1
  exact h1 ⟨m, by omega⟩
theorem hexD_range (x : Int) (h0 : 0 ≤ x) (h1 : x ≤ 15) : 0 ≤ hexD x ∧ hexD x ≤ 255 := by unfold hexD; split <;> omega
theorem hexL_get (ds : List Int) (k : Nat) (hk : k < ds.length) : (hexL ds)[2 * k]? = some (hexD (ds.getD k 0 / 16)) ∧ (hexL ds)[2 * k + 1]? = some (hexD (ds.getD k 0 % 16)) := by
  induction ds generalizing k with
  | nil => simp at hk
  | cons d ds ih =>
    cases k with
    | zero => simp [hexL]
    | succ k =>
      have := ih k (by simpa using hk)
      rw [show 2 * (k + 1) = 2 * k + 2 by omega, show 2 * k + 2 + 1 = (2 * k + 1) + 2 by omega]
      simpa [hexL] using this
theorem run_str_at (xs : List Int) (j : Nat) (x : Int) (hj : xs[j]? = some x) (hx : 0 ≤ x ∧ x ≤ 255) (w : World) : (Instr.index 9 (.string (strOfNums xs)) (.int .i64 (j : Int))).run Tryd.prog w = .ok (.int .u8 x) w := by
  have hl : j < xs.length := (List.getElem?_eq_some_iff.1 hj).1
  rw [run_index_string w 9 _ _ _ Tryd.underlying9, dif_pos (by rw [strOfNums_size]; omega)]
  congr 2
  have e : (strOfNums xs)[((j : Int)).toNat]'(by rw [strOfNums_size]; omega) = UInt8.ofNat x.toNat := by
    have h2 : (strOfNums xs).data[j]? = some (UInt8.ofNat x.toNat) := by
      show ((xs.map fun n => UInt8.ofNat n.toNat).toArray)[j]? = _
      rw [List.getElem?_toArray, List.getElem?_map, hj]; rfl
    have h3 : j < (strOfNums xs).data.size := by
      have h4 : (strOfNums xs).data.size = xs.length := strOfNums_size xs
      omega
    rw [Array.getElem?_eq_getElem h3] at h2
    exact Option.some.inj h2
  rw [e]
  simp
  omega
def fhZ (ds : List Int) (k : Nat) : List Int := ds.take k ++ List.replicate (32 - k) 0
set_option maxHeartbeats 1000000 in
theorem fromhex_hex (ds : List Int) (hd : ds.length = 32) (hb : isBytes ds) (w : World) :
    Calls Tryd.prog 6 #[.string (strOfNums (hexL ds))] w fun e w' => e = .returned (.tuple #[.agg (ints .u8 ds).toArray, .bool true]) ∧ Below w.heap.size w w' := by
  have HD := Lib.hid hd
  have HBY := Lib.hid hb
  have HSZ : Hid ((strOfNums (hexL ds)).size = 64) := by unfold Hid; rw [strOfNums_size, hexL_length, hd]
  have HI : Hid ((Tryd.prog.info? 24).map (·.size) = some (ints .u8 ds).length) := by unfold Hid; rw [ints_length, hd]; exact infoDigest
  have HI' : Hid ((Tryd.prog.info? 24).map (·.size) = some (ints .u8 ds).toArray.size) := by unfold Hid; rw [List.size_toArray, ints_length, hd]; exact infoDigest
  have HL : Hid ((ints .u8 ds).length = (ints .u8 (List.replicate 32 0)).length) := by unfold Hid; rw [ints_length, hd, ints_length, List.length_replicate]
  have HAT := Lib.hid (fun j x hj hx w => run_str_at (hexL ds) j x hj hx w)
  clear hd hb
  obtain ⟨s, hs⟩ : ∃ s, Hid (strOfNums (hexL ds) = s) := ⟨_, rfl⟩
  rw [hs.out] at HSZ HAT ⊢
  have hlen := HSZ.out
  go_enter Tryd.func6, Tryd.ntmps6
  go_wp2
  clear hlen
  go_loopw [14, 5, 6, 7, 8, 9] (fun i _ _ _ _ _ wr => ∃ k : Nat, k ≤ 32 ∧ i = .int .i64 k ∧ Blk wr (w.heap.size + 1) 24 (ints .u8 (fhZ ds k)) ∧ Blk wr w.heap.size 24 (ints .u8 (List.replicate 32 0)) ∧ Below w.heap.size w wr) (fun i _ _ _ _ _ _ => 32 - (intOf i).toNat)
  case atStart => exact ⟨0, by omega, rfl, Blk.new2 _ _ _ _ _ (by simp) (by kernel_rfl), (Blk.new2 w _ _ _ _ rfl (by kernel_rfl)).alloc _, ((Below.refl _ _).alloc (Nat.le_refl _) _).alloc (by simp) _⟩
  case round =>
    obtain ⟨k, hk, rfl, hbl, hR, hbel⟩ := hrel
    by_cases hlt : k < 32
    · have q1 : (k : Int) < 32 := by omega
      have hg := hexL_get ds k (by rw [HD.out]; exact hlt)
      have hby := HBY.out (ds.getD k 0) (by rw [List.getD_eq_getElem?_getD, List.getElem?_eq_getElem (by rw [HD.out]; exact hlt)]; exact List.getElem_mem _)
      have HNX : Hid ((fhZ ds k).set k (ds.getD k 0) = fhZ ds (k + 1)) := by
        have h1 := Sha.set_zeros (ds.take k) (32 - (k + 1)) (ds.getD k 0)
        have h2 : (ds.take k).length = k := by rw [List.length_take, HD.out]; omega
        rw [h2, show 32 - (k + 1) + 1 = 32 - k by omega] at h1
        unfold Hid
        rw [fhZ, h1, fhZ, List.take_add_one]
        have : ds[k]? = some (ds.getD k 0) := by simp [List.getD_eq_getElem?_getD, show k < ds.length by rw [HD.out]; exact hlt]
        rw [this]; rfl
      have hfl : (fhZ ds k).length = 32 := by rw [fhZ, List.length_append, List.length_take, HD.out, List.length_replicate]; omega
      generalize ds.getD k 0 = b at *
      have i1 := fun w => HAT.out (2 * k) _ hg.1 (hexD_range _ (by omega) (by omega)) w
      have i2 := fun w => HAT.out (2 * k + 1) _ hg.2 (hexD_range _ (by omega) (by omega)) w
      have ec1 : ((2 * k : Nat) : Int) = 2 * (k : Int) := by omega
      have ec2 : ((2 * k + 1 : Nat) : Int) = 2 * (k : Int) + 1 := by omega
      rw [ec1] at i1
      rw [ec2] at i2
      clear ec1 ec2
      have HJ := Lib.hid (join16 b hby)
      obtain ⟨hb0, hb1⟩ := hby
      have c0 := hbl.cell (ints_getD (k := .u8) (j := k) (by omega))
      have f0 := hbl.free k
      have HBL := Lib.hid hbl
      have HRR := Lib.hid hR
      have HBE := Lib.hid hbel
      clear hbl hbel hR hfl hg
      have d1 : b / 16 ≤ 15 := by omega
      have d0 : 0 ≤ b / 16 := by omega
      have d2 : b % 16 ≤ 15 := by omega
      have d3 : 0 ≤ b % 16 := by omega
      go_wp2_with fail
      refine (digit_hex (b / 16) d0 d1 _).mono ?_
      rintro e w' ⟨rfl, rfl⟩
      go_wp2_with fail
      refine (digit_hex (b % 16) d3 d2 _).mono ?_
      rintro e w' ⟨rfl, rfl⟩
      go_wp2
      refine ⟨⟨k + 1, by omega, by go_num, ?_, HRR.out.other (by show w.heap.size ≠ w.heap.size + 1; omega) _, HBE.out.setCell (by show w.heap.size ≤ w.heap.size + 1; omega) _⟩, by simp [intOf]; omega⟩
      have h1 := HBL.out.set k (.int .u8 b)
      rw [ints_set, HNX.out] at h1
      rw [HJ.out]
      exact h1
    · have q1 : ¬ (k : Int) < 32 := by omega
      have HBL : Hid (Blk wr (w.heap.size + 1) 24 (ints .u8 ds)) := by
        have e : k = 32 := by omega
        subst e
        have e2 : fhZ ds 32 = ds := by rw [fhZ, List.take_of_length_le (by rw [HD.out]; omega)]; simp
        rw [e2] at hbl; exact hbl
      have HRR := Lib.hid hR
      have HBE := Lib.hid hbel
      clear hbl hR hbel
      go_wp2_with (first
        | (refine wpList_load_row rfl 24 _ rfl (w.heap.size + 1) rfl 24 (ints .u8 ds).toArray (0, 0) _ HBL.out Tryd.underlying24 rfl HI'.out ?_)
        | (refine wpList_store_whole rfl 24 _ _ rfl w.heap.size (ints .u8 ds) rfl rfl 24 (ints .u8 (List.replicate 32 0)) HRR.out HL.out HI.out (ints_oneCell _ _) ?_))
      intro w5 hb5 hup5 _
      have hbl := Lib.hid (hup5.below HBE.out (Nat.le_refl _) HBE.out.size)
      have HB5 := Lib.hid hb5
      clear hup5 hb5 HBL HRR HBE
      go_wp2
      refine bodyPost_ret (v := .tuple #[.agg (ints .u8 ds).toArray, .bool true]) ?_ rfl ⟨rfl, hbl.out⟩
      refine results_cell_tmp (g := w.heap.size) (t := 24) (cs := (ints .u8 ds).toArray) (fr := (0, 0)) Tryd.results6 _ _ _ (v := .bool true) ?_ ?_ ?_ Tryd.underlying24 rfl HI'.out
      · rfl
      · rfl
      · exact HB5.out
theorem short_walk (ds : List Int) (hd : ds.length = 32) (hb : isBytes ds) (w : World) :
    Calls Tryd.prog 10 #[.agg (ints .u8 ds).toArray] w fun e w' => e = .returned (.string ((strOfNums (hexL ds)).extract 0 8)) ∧ Below w.heap.size w w' := by
  have HD := Lib.hid hd
  have HBY := Lib.hid hb
  have HI' : Hid ((Tryd.prog.info? 24).map (·.size) = some (ints .u8 ds).toArray.size) := by unfold Hid; rw [List.size_toArray, ints_length, hd]; exact infoDigest
  have HB0 : Hid (Blk (w.alloc (.cells (ints .u8 ds).toArray 24)) w.heap.size 24 (ints .u8 ds)) := Blk.new _ _ _
  have HB : Hid (Below w.heap.size w (w.alloc (.cells (ints .u8 ds).toArray 24))) := (Below.refl _ _).alloc (Nat.le_refl _) _
  clear hd hb
  go_enter Tryd.func10, Tryd.ntmps10
  go_wp2_with (refine wpList_load_row rfl 24 _ rfl w.heap.size rfl 24 (ints .u8 ds).toArray (0, 0) _ HB0.out Tryd.underlying24 rfl HI'.out ?_)
  refine (hex_walk ds HD.out HBY.out _).mono ?_
  rintro e w1 ⟨rfl, hb1⟩
  have HB1 := Lib.hid (HB.out.trans (hb1.mono HB.out.size))
  have hsz : Hid ((strOfNums (hexL ds)).size = 64) := by unfold Hid; rw [strOfNums_size, hexL_length, HD.out]
  have hsl : (Instr.slice 9 (.string (strOfNums (hexL ds))) none (some (.int .i64 8)) none).run Tryd.prog w1 = .ok (.string ((strOfNums (hexL ds)).extract 0 8)) w1 := by
    rw [run_slice_string_h w1 _ _ Tryd.underlying9 .i64 8 (by omega) (by rw [hsz.out]; omega)]
    rfl
  clear hb1 HB HB0
  obtain ⟨s, hs⟩ : ∃ s, Hid (strOfNums (hexL ds) = s) := ⟨_, rfl⟩
  rw [hs.out] at hsl ⊢
  clear hsz
  go_wp2
  go_ret
  exact ⟨by rw [hs.out]; rfl, HB1.out⟩
end Go.Proofs.YtoeilaedpibboaaDoor
