/- package tag's Hex, Short, digitValue and FromHex. -/
import Derived.Test.YtoeilaedpibboaaDoorTagCmp
import Derived.Test.YtoeilaedpibboaaDoorShaBlk
import Derived.Laws.BytesArg
namespace Go.Proofs.YtoeilaedpibboaaDoor
open Go.RowKit
set_option maxRecDepth 100000

/-- A digit's letter. -/
def hexD (x : Int) : Int := if x < 10 then 48 + x else 87 + x
def hexL : List Int → List Int
  | [] => []
  | d :: ds => hexD (d / 16) :: hexD (d % 16) :: hexL ds
theorem hexL_length (ds : List Int) : (hexL ds).length = 2 * ds.length := by
  induction ds with
  | nil => rfl
  | cons d ds ih => simp [hexL, ih]; omega
theorem hexL_append (a b : List Int) : hexL (a ++ b) = hexL a ++ hexL b := by
  induction a with
  | nil => rfl
  | cons d a ih => simp [hexL, ih]
theorem and15 (b : Int) (h : 0 ≤ b ∧ b ≤ 255) : bits BinOp.and IntKind.u8 b 15 = b % 16 := by
  have h1 : ∀ m : Fin 256, bits BinOp.and IntKind.u8 ((m.val : Nat) : Int) 15 = ((m.val : Nat) : Int) % 16 := by decide
  obtain ⟨m, rfl⟩ := Int.eq_ofNat_of_zero_le h.1
  exact h1 ⟨m, by omega⟩
theorem run_digit (x : Int) (h0 : 0 ≤ x) (h1 : x ≤ 15) (w : World) : (Instr.index 9 (.string ⟨#[48, 49, 50, 51, 52, 53, 54, 55, 56, 57, 97, 98, 99, 100, 101, 102]⟩) (.int .u8 x)).run Tryd.prog w = .ok (.int .u8 (hexD x)) w := by
  rcases (by omega : x = 0 ∨ x = 1 ∨ x = 2 ∨ x = 3 ∨ x = 4 ∨ x = 5 ∨ x = 6 ∨ x = 7 ∨ x = 8 ∨ x = 9 ∨ x = 10 ∨ x = 11 ∨ x = 12 ∨ x = 13 ∨ x = 14 ∨ x = 15) with rfl | rfl | rfl | rfl | rfl | rfl | rfl | rfl | rfl | rfl | rfl | rfl | rfl | rfl | rfl | rfl
  all_goals kernel_rfl
theorem run_index_digest (ds : List Int) (hd : ds.length = 32) (k : Nat) (hk : k < 32) (w : World) : (Instr.index 24 (.agg (ints .u8 ds).toArray) (.int .i64 (k : Int))).run Tryd.prog w = .ok (.int .u8 (ds.getD k 0)) w := by
  have hz : (sizeOf 5).run Tryd.prog w = .ok 1 w := by kernel_rfl
  unfold Instr.index
  simp only [Sem.run_bind, asIntOf, Sem.run_pure, Result.andThen_ok, run_underlying Tryd.underlying24]
  rw [if_pos (by omega)]
  simp only [Sem.run_bind, hz, Result.andThen_ok, Int.toNat_natCast, Nat.mul_one]
  exact run_part_ints w Tryd.underlying5 ds k (by omega)
def hexZ (ds : List Int) (k : Nat) : List Int := hexL (ds.take k) ++ List.replicate (64 - 2 * k) 0
theorem hexZ_length (ds : List Int) (k : Nat) (hd : ds.length = 32) (hk : k ≤ 32) : (hexZ ds k).length = 64 := by
  rw [hexZ, List.length_append, hexL_length, List.length_take, List.length_replicate]; omega
theorem hexZ_next (ds : List Int) (k : Nat) (hd : ds.length = 32) (hk : k < 32) : ((hexZ ds k).set (2 * k) (hexD (ds.getD k 0 / 16))).set (2 * k + 1) (hexD (ds.getD k 0 % 16)) = hexZ ds (k + 1) := by
  have hl : (hexL (ds.take k)).length = 2 * k := by rw [hexL_length, List.length_take]; omega
  obtain ⟨m, hm⟩ : ∃ m, 64 - 2 * k = m + 1 + 1 := ⟨62 - 2 * k, by omega⟩
  rw [hexZ, hm]
  conv => lhs; arg 1; rw [← hl]; rw [Sha.set_zeros]
  have hl2 : (hexL (ds.take k) ++ [hexD (ds.getD k 0 / 16)]).length = 2 * k + 1 := by rw [List.length_append, hl]; rfl
  rw [← hl2, Sha.set_zeros, hexZ, List.take_add_one, hexL_append, show 64 - 2 * (k + 1) = m by omega]
  have : ds[k]? = some (ds.getD k 0) := by simp [List.getD_eq_getElem?_getD, show k < ds.length by omega]
  rw [this]
  simp [hexL]
set_option maxHeartbeats 1000000 in
theorem hex_walk (ds : List Int) (hd : ds.length = 32) (hb : isBytes ds) (w : World) :
    Calls Tryd.prog 8 #[.agg (ints .u8 ds).toArray] w fun e w' => e = .returned (.string (strOfNums (hexL ds))) ∧ Below w.heap.size w w' := by
  have HD := Lib.hid hd
  have HBY := Lib.hid hb
  have HI' : Hid ((Tryd.prog.info? 24).map (·.size) = some (ints .u8 ds).toArray.size) := by unfold Hid; rw [List.size_toArray, ints_length, hd]; exact infoDigest
  have HIX := Lib.hid (fun k hk w => run_index_digest ds hd k hk w)
  have HB0 : Hid (Blk (w.alloc (.cells (ints .u8 ds).toArray 24)) w.heap.size 24 (ints .u8 ds)) := Blk.new _ _ _
  clear hd hb
  go_enter Tryd.func8, Tryd.ntmps8
  go_wp2_with (refine wpList_load_row rfl 24 _ rfl w.heap.size rfl 24 (ints .u8 ds).toArray (0, 0) _ (HB0.out.alloc _) Tryd.underlying24 rfl HI'.out ?_)
  go_wp2
  go_loopw [7, 4, 5] (fun i _ _ wr => ∃ k : Nat, k ≤ 32 ∧ i = .int .i64 k ∧ Blk wr (w.heap.size + 1) 49 (ints .u8 (hexZ ds k)) ∧ Below w.heap.size w wr) (fun i _ _ _ => 32 - (intOf i).toNat)
  case atStart => exact ⟨0, by omega, rfl, Blk.new2 _ _ _ _ _ (by simp) (by kernel_rfl), ((Below.refl _ _).alloc (Nat.le_refl _) _).alloc (by simp) _⟩
  case round =>
    obtain ⟨k, hk, rfl, hbl, hbel⟩ := hrel
    by_cases hlt : k < 32
    · have q1 : (k : Int) < 32 := by omega
      have hix := HIX.out k hlt
      have hzl := hexZ_length ds k HD.out hk
      have hby := HBY.out (ds.getD k 0) (by rw [List.getD_eq_getElem?_getD, List.getElem?_eq_getElem (by rw [HD.out]; exact hlt)]; exact List.getElem_mem _)
      have HNX := Lib.hid (hexZ_next ds k HD.out hlt)
      rw [List.getD_eq_getElem?_getD] at *
      generalize ds[k]?.getD 0 = b at *
      have hd1 := run_digit (b / 16) (by omega) (by omega)
      have hd2 := run_digit (b % 16) (by omega) (by omega)
      have h15 := and15 b hby
      have c0 := hbl.cell (ints_getD (k := .u8) (j := 2 * k) (by omega))
      have c1 := hbl.cell (ints_getD (k := .u8) (j := 2 * k + 1) (by omega))
      have f0 := hbl.free (2 * k)
      have f1 := hbl.free (2 * k + 1)
      have e1 : (2 * (k : Int)).toNat = 2 * k := by omega
      have e2 : (2 * (k : Int) + 1).toNat = 2 * k + 1 := by omega
      have e3 : 2 * (k : Int) < 64 := by omega
      have e4 : 2 * (k : Int) + 1 < 64 := by omega
      obtain ⟨hb0, hb1⟩ := hby
      have HBL := Lib.hid hbl
      have HBE := Lib.hid hbel
      clear hbl hbel hzl
      go_wp2
      go_roundw
      case rel =>
        refine ⟨k + 1, by omega, by go_num, ?_, (HBE.out.setCell (by show _ ≤ w.heap.size + 1; omega) _).setCell (by show _ ≤ w.heap.size + 1; omega) _⟩
        have h1 := (HBL.out.set (2 * k) (.int .u8 (hexD (b / 16)))).set (2 * k + 1) (.int .u8 (hexD (b % 16)))
        rw [ints_set, ints_set, HNX.out] at h1
        exact h1
      case measure => simp [intOf]; omega
    · have q1 : ¬ (k : Int) < 32 := by omega
      have e : k = 32 := by omega
      subst e
      have e2 : hexZ ds 32 = hexL ds := by rw [hexZ, List.take_of_length_le (by rw [HD.out]; omega)]; simp
      rw [e2] at hbl
      have hcv := run_convert_bytes_arg wr 36 5 Tryd.underlying36 Tryd.underlying5 (w.heap.size + 1) 0 64 64 (hexL ds) (by rw [hexL_length, HD.out]) (fun i hi => by rw [Nat.zero_add]; exact hbl.cell (ints_getD (by rw [hexL_length, HD.out]; omega))) 9 Tryd.underlying9
      have HBE := Lib.hid hbel
      clear hbl hbel e2
      go_wp2
      go_ret
      exact ⟨rfl, HBE.out⟩
end Go.Proofs.YtoeilaedpibboaaDoor
