/- Package area: packHead, unpackHead. -/
import Derived.Test.YtngpmilojfbpmaaDoorAreaD
namespace Go.Proofs.YtngpmilojfbpmaaDoor
open Go Go.RowKit
set_option maxRecDepth 100000

theorem beB4 (n : Nat) : beB 4 n = [((n / 16777216 % 256 : Nat) : Int), ((n / 65536 % 256 : Nat) : Int), ((n / 256 % 256 : Nat) : Int), ((n % 256 : Nat) : Int)] := by
  rw [beB_head, beB_head, beB_head, beB_head]
  simp [beB]
/-- What stands there when i bytes are put. -/
def headK (n : Nat) : Nat → List Int
  | 0 => [0, 0, 0, 0]
  | 1 => [((n / 16777216 % 256 : Nat) : Int), 0, 0, 0]
  | 2 => [((n / 16777216 % 256 : Nat) : Int), ((n / 65536 % 256 : Nat) : Int), 0, 0]
  | 3 => [((n / 16777216 % 256 : Nat) : Int), ((n / 65536 % 256 : Nat) : Int), ((n / 256 % 256 : Nat) : Int), 0]
  | _ => [((n / 16777216 % 256 : Nat) : Int), ((n / 65536 % 256 : Nat) : Int), ((n / 256 % 256 : Nat) : Int), ((n % 256 : Nat) : Int)]
theorem headK_length (n i : Nat) : (headK n i).length = 4 := by
  match i with
  | 0 => rfl
  | 1 => rfl
  | 2 => rfl
  | 3 => rfl
  | _ + 4 => rfl
/-- The byte that is put next. -/
theorem headK_next (n i : Nat) (h : i < 4) : (ints .u8 (headK n i)).set i (.int .u8 ((n / 2 ^ (8 * (3 - i)) % 256 : Nat) : Int)) = ints .u8 (headK n (i + 1)) := by
  match i, h with
  | 0, _ => rfl
  | 1, _ => rfl
  | 2, _ => rfl
  | 3, _ => simp [headK, ints]
theorem wrap8 (m : Nat) : IntKind.u8.wrap (m : Int) = ((m % 256 : Nat) : Int) := by
  simp [IntKind.wrap, IntKind.bits, IntKind.signed]
theorem exec_shr {P : Program} {a : Act} {w : World} {op : Oper} (ty ty2 : TypeId) (x y : Operand) (ho : op.op = .binOp .shr ty x y ty2) (p q : Nat) (hx : a.eval x = .int .i64 (p : Int)) (hy : a.eval y = .int .i64 (q : Int)) (hq : q ≤ 64) : (execOp a.eval op).run P w = .ok (.value (.int .i64 ((p / 2 ^ q : Nat) : Int))) w := by
  unfold execOp
  simp only [ho, hx, hy, eqGuard_shr, binOp_shr]
  rw [shift_shr_i64 _ _ _ (by omega) (by omega), Int.toNat_natCast]
  have e : (p : Int) / 2 ^ q = ((p / 2 ^ q : Nat) : Int) := by norm_cast
  rw [e]
  rfl
theorem exec_quo2 {P : Program} {a : Act} {w : World} {op : Oper} (ty ty2 : TypeId) (x y : Operand) (ho : op.op = .binOp .quo ty x y ty2) (p q : Int) (hx : a.eval x = .int .i64 p) (hy : a.eval y = .int .i64 q) (hq : q ≠ 0) : (execOp a.eval op).run P w = .ok (.value (.int .i64 (IntKind.i64.wrap (p.tdiv q)))) w := by
  unfold execOp
  simp only [ho, hx, hy, eqGuard_quo, binOp_quo, Op.intDiv]
  simp [hq]
theorem exec_half {P : Program} {a : Act} {w : World} {op : Oper} (ty ty2 : TypeId) (x y : Operand) (ho : op.op = .binOp .quo ty x y ty2) (p : Nat) (hx : a.eval x = .int .i64 (p : Int)) (hy : a.eval y = .int .i64 2) (hp : p ≤ 1000000000) : (execOp a.eval op).run P w = .ok (.value (.int .i64 ((p / 2 : Nat) : Int))) w := by
  have e : IntKind.i64.wrap ((p : Int).tdiv 2) = ((p / 2 : Nat) : Int) := by
    rw [Int.tdiv_eq_ediv_of_nonneg (by omega), IntWalk.i64_in _ (by omega)]
    omega
  rw [← e]
  exact exec_quo2 ty ty2 x y ho _ _ hx hy (by decide)
theorem run_at_b (g o n c m : Nat) (hm : m < n) (w : World) : (Instr.indexAt 22 (.slice (some ⟨g, o, none⟩) n c) (.int .i64 (m : Int))).run Tryd.prog w = .ok (.pointer (some ⟨g, o + m, none⟩)) w := by
  rw [run_indexAt_slice w 22 _ _ _ _ _ bytesElem]
  have hz : (sizeOf (Tryd.prog.elem 22)).run Tryd.prog w = .ok 1 w := by kernel_rfl
  rw [if_pos (by omega), hz, Result.andThen_ok, Addr.add_mid, Int.toNat_natCast, Nat.mul_one]
set_option maxHeartbeats 4000000 in
theorem packhead_ok (gen used : Nat) (w : World) (hg1 : 1 ≤ gen) (hg2 : gen ≤ 4294967295) (hK : KW w) :
    Calls Tryd.prog 86 #[.int .i64 (gen : Int), .int .i64 (used : Int)] w (PackPost (packF gen 0 (beB 4 used)) 1 w) := by
  have HK := Lib.hid hK
  clear hK
  obtain ⟨B, hB⟩ : ∃ B, Hid (w.heap.size = B) := ⟨_, rfl⟩
  go_enter Tryd.func86, Tryd.ntmps86
  go_upto_region 1 with (fail)
  refine lin_begin (opsOf Tryd.f86 1) (by kernel_rfl) ?_
  refine lin_makeb 0 4 4 B .i64 .i64 (some 8) (by kernel_rfl) (by kernel_rfl) (by kernel_rfl) (by omega) (by omega) hB ?_
  intro w1 b1 be1 hs1
  refine lin_now 1 (.slice (some ⟨B, 0, none⟩) 4 4) (some 6) (by kernel_rfl) (by kernel_rfl) (by kernel_rfl) ?_
  refine lin_done 2 (by kernel_rfl) ?_
  have X1 := Lib.hid b1
  have BE1 := Lib.hid be1
  clear b1 be1 hs1
  generalize hact : Act.put _ (some 6) _ = act
  simp only [Act.put, List.setIfInBounds_toArray, List.set_cons_succ, List.set_cons_zero] at hact
  subst hact
  go_wp2
  go_loopw [11, 7] (fun iv _ wr => ∃ (i : Nat), i ≤ 4 ∧ iv = .int .i64 (i : Int) ∧ Blk wr B 5 (ints .u8 (headK used i)) ∧ Below B w wr) (fun iv _ _ => 4 - (intOf iv).toNat)
  case atStart => exact ⟨0, Nat.zero_le _, rfl, X1.out, BE1.out⟩
  case round =>
    obtain ⟨i, hi, rfl, hbl, hbe⟩ := hrel
    have X2 := Lib.hid hbl
    have BE2 := Lib.hid hbe
    clear hbl hbe X1 BE1
    by_cases hlt : i < 4
    · have r1 : (i : Int) < 4 := by omega
      go_upto_region 4 with (fail)
      refine lin_begin (opsOf Tryd.f86 4) (by kernel_rfl) ?_
      refine lin_now 0 (.int .i64 (i : Int)) (some 13) (by kernel_rfl) (by kernel_rfl) (by kernel_rfl) ?_
      refine lin_now 1 (.int .i64 (i : Int)) (some 7) (by kernel_rfl) (by kernel_rfl) (by kernel_rfl) ?_
      refine lin_done 2 (by kernel_rfl) ?_
      generalize hact : Act.put _ (some 7) _ = act
      simp only [Act.put, List.setIfInBounds_toArray, List.set_cons_succ, List.set_cons_zero] at hact
      subst hact
      go_upto_region 5 with (fail)
      refine lin_begin (opsOf Tryd.f86 5) (by kernel_rfl) ?_
      refine lin_now 0 (.slice (some ⟨B, 0, none⟩) 4 4) (some 14) (by kernel_rfl) (by kernel_rfl) (by kernel_rfl) ?_
      refine lin_now 1 (.int .i64 (i : Int)) (some 15) (by kernel_rfl) (by kernel_rfl) (by kernel_rfl) ?_
      refine lin_now 2 (.int .i64 (used : Int)) (some 16) (by kernel_rfl) (by kernel_rfl) (by kernel_rfl) ?_
      refine lin_now 3 (.int .i64 (i : Int)) (some 17) (by kernel_rfl) (by kernel_rfl) (by kernel_rfl) ?_
      refine lin_now 4 (.int .i64 (IntKind.i64.wrap (3 - (i : Int)))) (some 18) (by kernel_rfl) (by kernel_rfl) (by kernel_rfl) ?_
      rw [show IntKind.i64.wrap (3 - (i : Int)) = ((3 - i : Nat) : Int) from (IntWalk.i64_in _ (by omega)).trans (by omega)]
      refine lin_now 5 (.int .i64 (IntKind.i64.wrap (8 * ((3 - i : Nat) : Int)))) (some 19) (by kernel_rfl) (by kernel_rfl) (by kernel_rfl) ?_
      rw [show IntKind.i64.wrap (8 * ((3 - i : Nat) : Int)) = ((8 * (3 - i) : Nat) : Int) from (IntWalk.i64_in _ (by omega)).trans (by omega)]
      refine lin_now 6 (.int .i64 ((used / 2 ^ (8 * (3 - i)) : Nat) : Int)) (some 20) (by kernel_rfl) (by kernel_rfl) (exec_shr 3 3 (.tmp 16) (.tmp 19) (by kernel_rfl) used (8 * (3 - i)) (by kernel_rfl) (by kernel_rfl) (by omega)) ?_
      refine lin_now 7 (.int .u8 (IntKind.u8.wrap ((used / 2 ^ (8 * (3 - i)) : Nat) : Int))) (some 21) (by kernel_rfl) (by kernel_rfl) (by kernel_rfl) ?_
      rw [wrap8]
      refine lin_now 8 (.pointer (some ⟨B, 0 + i, none⟩)) (some 22) (by kernel_rfl) (by kernel_rfl) (exec_indexAt 22 (.tmp 14) (.tmp 15) (by kernel_rfl) _ _ _ (by kernel_rfl) (by kernel_rfl) (run_at_b B 0 4 4 i hlt _)) ?_
      refine lin_cell 9 5 (.tmp 22) (.tmp 21) B (0 + i) 5 _ (.int .u8 ((used / 2 ^ (8 * (3 - i)) % 256 : Nat) : Int)) (by kernel_rfl) (by kernel_rfl) (by kernel_rfl) (by kernel_rfl) (by kernel_rfl) X2.out (by rw [ints_length, headK_length]; omega) (by kernel_rfl) rfl rfl ?_
      intro w4 b4 u4 hs4
      refine lin_done 10 (by kernel_rfl) ?_
      rw [Nat.zero_add, headK_next used i hlt] at b4
      have X4 := Lib.hid b4
      have BE4 : Hid (Below B w w4) := u4.below BE2.out (Nat.le_refl _) (Nat.le_of_lt X2.out.lt)
      clear b4 u4 hs4 X2 BE2
      generalize hact : Act.put _ none undef = act
      simp only [Act.put, List.setIfInBounds_toArray, List.set_cons_succ, List.set_cons_zero] at hact
      subst hact
      go_wp2
      exact ⟨⟨i + 1, by omega, by go_num, X4.out, BE4.out⟩, by simp [intOf]; omega⟩
    · have r1 : ¬ (i : Int) < 4 := by omega
      obtain rfl : i = 4 := by omega
      have X3 : Hid (BytesIn wr (.slice (some ⟨B, 0, none⟩) 4 4) (beB 4 used)) := bytes_blk (by rw [beB4]; exact X2.out) (beB_length _ _)
      clear X2
      have K3 : Hid (KW wr) := HK.out.below BE2.out (by rw [← hB.out]; exact HK.out.lt)
      have OK : Hid (okPack (gen : Int) ((0 : Nat) : Int) (beB 4 used).length) := by unfold Hid; rw [beB_length]; exact ⟨by omega, by omega, by omega, by omega, by decide⟩
      go_wp2_with fail
      refine (pack_ok gen 0 _ (beB 4 used) _ X3.out trivial OK.out K3.out).mono ?_
      rintro e w5 ⟨G, rfl, hG, hblk, hb5⟩
      have n1 : needN (beB 4 used).length = 1 := by rw [beB_length]; rfl
      rw [n1]
      have G5 := Lib.hid hblk
      have GG : Hid (B ≤ G) := by unfold Hid; have := BE2.out.size; have := hB.out; omega
      have BE5 : Hid (Below B w w5) := BE2.out.trans (hb5.mono (by have := BE2.out.size; have := hB.out; omega))
      clear hG hblk hb5 n1
      go_wp2
      go_ret2
      exact ⟨G, rfl, by have := hB.out; have := GG.out; omega, G5.out, by rw [hB.out]; exact BE5.out⟩
set_option maxHeartbeats 4000000 in
theorem packhead_no (gen used : Nat) (w : World) (hg : 4294967295 < gen) :
    Calls Tryd.prog 86 #[.int .i64 (gen : Int), .int .i64 (used : Int)] w fun e w' => e = .returned (.tuple #[.slice none 0 0, .bool false]) ∧ Below w.heap.size w w' := by
  obtain ⟨B, hB⟩ : ∃ B, Hid (w.heap.size = B) := ⟨_, rfl⟩
  go_enter Tryd.func86, Tryd.ntmps86
  go_upto_region 1 with (fail)
  refine lin_begin (opsOf Tryd.f86 1) (by kernel_rfl) ?_
  refine lin_makeb 0 4 4 B .i64 .i64 (some 8) (by kernel_rfl) (by kernel_rfl) (by kernel_rfl) (by omega) (by omega) hB ?_
  intro w1 b1 be1 hs1
  refine lin_now 1 (.slice (some ⟨B, 0, none⟩) 4 4) (some 6) (by kernel_rfl) (by kernel_rfl) (by kernel_rfl) ?_
  refine lin_done 2 (by kernel_rfl) ?_
  have X1 := Lib.hid b1
  have BE1 := Lib.hid be1
  clear b1 be1 hs1
  generalize hact : Act.put _ (some 6) _ = act
  simp only [Act.put, List.setIfInBounds_toArray, List.set_cons_succ, List.set_cons_zero] at hact
  subst hact
  go_wp2
  go_loopw [11, 7] (fun iv _ wr => ∃ (i : Nat), i ≤ 4 ∧ iv = .int .i64 (i : Int) ∧ Blk wr B 5 (ints .u8 (headK used i)) ∧ Below B w wr) (fun iv _ _ => 4 - (intOf iv).toNat)
  case atStart => exact ⟨0, Nat.zero_le _, rfl, X1.out, BE1.out⟩
  case round =>
    obtain ⟨i, hi, rfl, hbl, hbe⟩ := hrel
    have X2 := Lib.hid hbl
    have BE2 := Lib.hid hbe
    clear hbl hbe X1 BE1
    by_cases hlt : i < 4
    · have r1 : (i : Int) < 4 := by omega
      go_upto_region 4 with (fail)
      refine lin_begin (opsOf Tryd.f86 4) (by kernel_rfl) ?_
      refine lin_now 0 (.int .i64 (i : Int)) (some 13) (by kernel_rfl) (by kernel_rfl) (by kernel_rfl) ?_
      refine lin_now 1 (.int .i64 (i : Int)) (some 7) (by kernel_rfl) (by kernel_rfl) (by kernel_rfl) ?_
      refine lin_done 2 (by kernel_rfl) ?_
      generalize hact : Act.put _ (some 7) _ = act
      simp only [Act.put, List.setIfInBounds_toArray, List.set_cons_succ, List.set_cons_zero] at hact
      subst hact
      go_upto_region 5 with (fail)
      refine lin_begin (opsOf Tryd.f86 5) (by kernel_rfl) ?_
      refine lin_now 0 (.slice (some ⟨B, 0, none⟩) 4 4) (some 14) (by kernel_rfl) (by kernel_rfl) (by kernel_rfl) ?_
      refine lin_now 1 (.int .i64 (i : Int)) (some 15) (by kernel_rfl) (by kernel_rfl) (by kernel_rfl) ?_
      refine lin_now 2 (.int .i64 (used : Int)) (some 16) (by kernel_rfl) (by kernel_rfl) (by kernel_rfl) ?_
      refine lin_now 3 (.int .i64 (i : Int)) (some 17) (by kernel_rfl) (by kernel_rfl) (by kernel_rfl) ?_
      refine lin_now 4 (.int .i64 (IntKind.i64.wrap (3 - (i : Int)))) (some 18) (by kernel_rfl) (by kernel_rfl) (by kernel_rfl) ?_
      rw [show IntKind.i64.wrap (3 - (i : Int)) = ((3 - i : Nat) : Int) from (IntWalk.i64_in _ (by omega)).trans (by omega)]
      refine lin_now 5 (.int .i64 (IntKind.i64.wrap (8 * ((3 - i : Nat) : Int)))) (some 19) (by kernel_rfl) (by kernel_rfl) (by kernel_rfl) ?_
      rw [show IntKind.i64.wrap (8 * ((3 - i : Nat) : Int)) = ((8 * (3 - i) : Nat) : Int) from (IntWalk.i64_in _ (by omega)).trans (by omega)]
      refine lin_now 6 (.int .i64 ((used / 2 ^ (8 * (3 - i)) : Nat) : Int)) (some 20) (by kernel_rfl) (by kernel_rfl) (exec_shr 3 3 (.tmp 16) (.tmp 19) (by kernel_rfl) used (8 * (3 - i)) (by kernel_rfl) (by kernel_rfl) (by omega)) ?_
      refine lin_now 7 (.int .u8 (IntKind.u8.wrap ((used / 2 ^ (8 * (3 - i)) : Nat) : Int))) (some 21) (by kernel_rfl) (by kernel_rfl) (by kernel_rfl) ?_
      rw [wrap8]
      refine lin_now 8 (.pointer (some ⟨B, 0 + i, none⟩)) (some 22) (by kernel_rfl) (by kernel_rfl) (exec_indexAt 22 (.tmp 14) (.tmp 15) (by kernel_rfl) _ _ _ (by kernel_rfl) (by kernel_rfl) (run_at_b B 0 4 4 i hlt _)) ?_
      refine lin_cell 9 5 (.tmp 22) (.tmp 21) B (0 + i) 5 _ (.int .u8 ((used / 2 ^ (8 * (3 - i)) % 256 : Nat) : Int)) (by kernel_rfl) (by kernel_rfl) (by kernel_rfl) (by kernel_rfl) (by kernel_rfl) X2.out (by rw [ints_length, headK_length]; omega) (by kernel_rfl) rfl rfl ?_
      intro w4 b4 u4 hs4
      refine lin_done 10 (by kernel_rfl) ?_
      rw [Nat.zero_add, headK_next used i hlt] at b4
      have X4 := Lib.hid b4
      have BE4 : Hid (Below B w w4) := u4.below BE2.out (Nat.le_refl _) (Nat.le_of_lt X2.out.lt)
      clear b4 u4 hs4 X2 BE2
      generalize hact : Act.put _ none undef = act
      simp only [Act.put, List.setIfInBounds_toArray, List.set_cons_succ, List.set_cons_zero] at hact
      subst hact
      go_wp2
      exact ⟨⟨i + 1, by omega, by go_num, X4.out, BE4.out⟩, by simp [intOf]; omega⟩
    · have r1 : ¬ (i : Int) < 4 := by omega
      obtain rfl : i = 4 := by omega
      have X3 : Hid (BytesIn wr (.slice (some ⟨B, 0, none⟩) 4 4) (beB 4 used)) := bytes_blk (by rw [beB4]; exact X2.out) (beB_length _ _)
      clear X2
      have NOK : Hid (¬ okPack (gen : Int) 0 4) := fun h => by have := h.2.2.1; omega
      go_wp2_with fail
      refine (pack_no (gen : Int) 0 _ 4 4 _ NOK.out).mono ?_
      rintro e w5 ⟨rfl, rfl⟩
      go_wp2
      go_ret2
      exact ⟨rfl, by rw [hB.out]; exact BE2.out⟩
/-- A head. -/
def headOk (b : List Int) : Prop := wholeP b ∧ unpOk (genP b) 0 b 1 ∧ (recP b).length = 4
theorem gen_range {b : List Int} (hb : isBytes b) (hl : b.length = 64) : 0 ≤ genP b ∧ genP b < 4294967296 := by
  have h := numB_range (bytes_take (bytes_take hb 8) 4)
  unfold genP
  rw [show ((b.take 8).take 4).length = 4 by simp [hl]] at h
  exact h
set_option maxHeartbeats 4000000 in
theorem unpackhead_nomark (b : List Int) (hl : b.length = 64) (hb : isBytes b) (hw : ¬ wholeP b) (w : World) (hK : KW w) :
    Calls Tryd.prog 97 #[.agg (ints .u8 b).toArray] w fun e w' => e = .returned (.tuple #[.int .i64 0, .int .i64 0, .bool false]) ∧ Below w.heap.size w w' := by
  have HW := Lib.hid hw
  have HUN : Hid (¬ unpOk 0 0 b 1) := fun h => by have := h.2.2.2.1.2.1; omega
  clear hw
  have HBB := Lib.hid hb
  have HL := Lib.hid hl
  have HK := Lib.hid hK
  have IB : Hid ((Tryd.prog.info? 91).map (·.size) = some (ints .u8 b).length) := infoBlk b hl
  obtain ⟨B, hB⟩ : ∃ B, Hid (w.heap.size = B) := ⟨_, rfl⟩
  have KB : Hid (4 < B) := by unfold Hid; rw [← hB.out]; exact hK.lt
  clear hb hl hK
  go_enter Tryd.func97, Tryd.ntmps97
  go_upto_region 0 with (fail)
  refine lin_begin (opsOf Tryd.f97 0) (by kernel_rfl) ?_
  refine lin_box 0 91 (.tmp 0) (ints .u8 b) (B) (some 1) (by kernel_rfl) (by kernel_rfl) (by kernel_rfl) (by kernel_rfl) hB ?_
  intro w1 b1 be1 hs1
  refine lin_now 1 (.int .i64 0) (some 2) (by kernel_rfl) (by kernel_rfl) (by kernel_rfl) ?_
  refine lin_now 2 (.int .i64 0) (some 3) (by kernel_rfl) (by kernel_rfl) (by kernel_rfl) ?_
  refine lin_now 3 (.bool false) (some 4) (by kernel_rfl) (by kernel_rfl) (by kernel_rfl) ?_
  refine lin_done 4 (by kernel_rfl) ?_
  have X1 := Lib.hid b1
  have BE1 := Lib.hid be1
  clear b1 be1
  generalize hact : Act.put _ (some 4) _ = act
  simp only [Act.put, List.setIfInBounds_toArray, List.set_cons_succ, List.set_cons_zero] at hact
  subst hact
  go_upto_region 1 with (fail)
  refine lin_begin (opsOf Tryd.f97 1) (by kernel_rfl) ?_
  refine lin_load 0 91 (.tmp 1) (B) _ (ints .u8 b) (some 10) (by kernel_rfl) (by kernel_rfl) (by kernel_rfl) (by kernel_rfl) X1.out _ Tryd.underlying91 rfl IB.out ?_
  refine lin_call 1 111 #[.agg (ints .u8 b).toArray] (some 11) _ (by kernel_rfl) (by kernel_rfl) (by kernel_rfl) (mark_no b HL.out HBB.out HW.out _) ?_
  rintro e w2 ⟨rfl, hb2⟩
  refine ⟨_, rfl, ?_⟩
  refine lin_now 2 (.tuple #[.int .i64 0, .int .i64 0, .bool false]) (some 9) (by kernel_rfl) (by kernel_rfl) (by kernel_rfl) ?_
  refine lin_now 3 (.int .i64 0) (some 12) (by kernel_rfl) (by kernel_rfl) (by kernel_rfl) ?_
  refine lin_now 4 (.int .i64 0) (some 13) (by kernel_rfl) (by kernel_rfl) (by kernel_rfl) ?_
  refine lin_now 5 (.bool false) (some 14) (by kernel_rfl) (by kernel_rfl) (by kernel_rfl) ?_
  refine lin_now 6 (.int .i64 (0)) (some 2) (by kernel_rfl) (by kernel_rfl) (by kernel_rfl) ?_
  refine lin_done 7 (by kernel_rfl) ?_
  have X2 : Hid (Blk w2 B 91 (ints .u8 b)) := X1.out.below hb2 X1.out.lt
  have BE2 : Hid (Below B w w2) := BE1.out.trans (hb2.mono (by rw [hs1.out]; omega))
  obtain ⟨Q, hQ⟩ : ∃ Q, Hid (w2.heap.size = Q) := ⟨_, rfl⟩
  have QB : Hid (B ≤ Q) := by unfold Hid; rw [← hQ.out]; exact Nat.le_of_lt X2.out.lt
  clear hb2 X1 BE1 hs1
  generalize hact : Act.put _ (some 2) _ = act
  simp only [Act.put, List.setIfInBounds_toArray, List.set_cons_succ, List.set_cons_zero] at hact
  subst hact
  go_upto_region 2 with (fail)
  refine lin_begin (opsOf Tryd.f97 2) (by kernel_rfl) ?_
  refine lin_load 0 91 (.tmp 1) (B) _ (ints .u8 b) (some 16) (by kernel_rfl) (by kernel_rfl) (by kernel_rfl) (by kernel_rfl) X2.out _ Tryd.underlying91 rfl IB.out ?_
  refine lin_newrow 1 91 (ints .u8 b) Q 1 (some 17) (by kernel_rfl) (by kernel_rfl) hQ (exec_of (Instr.buildSlice 67 1 #[(0, .agg (ints .u8 b).toArray)]) _ (by kernel_rfl) (run_build_blk b HL.out w2)) ?_
  intro w3 b3 be3 hs3
  have BE3 : Below B w w3 := BE2.out.trans (be3.mono QB.out)
  have K3 : KW w3 := HK.out.below BE3 KB.out
  refine lin_now 2 (.int .i64 (0)) (some 18) (by kernel_rfl) (by kernel_rfl) (by kernel_rfl) ?_
  refine lin_call 3 98 #[.slice (some ⟨Q, 0, none⟩) 1 1, .int .i64 (0), .int .i64 0] (some 19) _ (by kernel_rfl) (by kernel_rfl) (by kernel_rfl) (unpack_no (0) 0 _ 1 b _ (blks_blk b3 (by rw [HL.out])) HBB.out (by omega) HUN.out K3) ?_
  rintro e w4 ⟨rfl, hb4⟩
  refine ⟨_, rfl, ?_⟩
  refine lin_now 4 (.tuple #[.slice none 0 0, .int .i64 0, .bool false]) (some 15) (by kernel_rfl) (by kernel_rfl) (by kernel_rfl) ?_
  refine lin_now 5 (.slice none 0 0) (some 20) (by kernel_rfl) (by kernel_rfl) (by kernel_rfl) ?_
  refine lin_now 6 (.int .i64 0) (some 21) (by kernel_rfl) (by kernel_rfl) (by kernel_rfl) ?_
  refine lin_now 7 (.bool false) (some 22) (by kernel_rfl) (by kernel_rfl) (by kernel_rfl) ?_
  refine lin_now 8 (.slice none 0 0) (some 5) (by kernel_rfl) (by kernel_rfl) (by kernel_rfl) ?_
  refine lin_now 9 (.int .i64 0) (some 6) (by kernel_rfl) (by kernel_rfl) (by kernel_rfl) ?_
  refine lin_now 10 (.bool false) (some 4) (by kernel_rfl) (by kernel_rfl) (by kernel_rfl) ?_
  refine lin_done 11 (by kernel_rfl) ?_
  have BE4 : Hid (Below B w w4) := BE3.trans (hb4.mono (by have := BE3.size; have := hB.out; omega))
  clear hb4 b3 be3 hs3 BE3 K3 X2 BE2
  generalize hact : Act.put _ (some 4) _ = act
  simp only [Act.put, List.setIfInBounds_toArray, List.set_cons_succ, List.set_cons_zero] at hact
  subst hact
  go_wp2
  go_ret3
  exact ⟨rfl, by rw [hB.out]; exact BE4.out⟩
set_option maxHeartbeats 4000000 in
theorem unpackhead_nounp (b : List Int) (hl : b.length = 64) (hb : isBytes b) (hw : wholeP b) (hun : ¬ unpOk (genP b) 0 b 1) (w : World) (hK : KW w) :
    Calls Tryd.prog 97 #[.agg (ints .u8 b).toArray] w fun e w' => e = .returned (.tuple #[.int .i64 0, .int .i64 0, .bool false]) ∧ Below w.heap.size w w' := by
  have HW := Lib.hid hw
  have HUN := Lib.hid hun
  clear hun
  clear hw
  have HBB := Lib.hid hb
  have HL := Lib.hid hl
  have HK := Lib.hid hK
  have IB : Hid ((Tryd.prog.info? 91).map (·.size) = some (ints .u8 b).length) := infoBlk b hl
  obtain ⟨B, hB⟩ : ∃ B, Hid (w.heap.size = B) := ⟨_, rfl⟩
  have KB : Hid (4 < B) := by unfold Hid; rw [← hB.out]; exact hK.lt
  clear hb hl hK
  go_enter Tryd.func97, Tryd.ntmps97
  go_upto_region 0 with (fail)
  refine lin_begin (opsOf Tryd.f97 0) (by kernel_rfl) ?_
  refine lin_box 0 91 (.tmp 0) (ints .u8 b) (B) (some 1) (by kernel_rfl) (by kernel_rfl) (by kernel_rfl) (by kernel_rfl) hB ?_
  intro w1 b1 be1 hs1
  refine lin_now 1 (.int .i64 0) (some 2) (by kernel_rfl) (by kernel_rfl) (by kernel_rfl) ?_
  refine lin_now 2 (.int .i64 0) (some 3) (by kernel_rfl) (by kernel_rfl) (by kernel_rfl) ?_
  refine lin_now 3 (.bool false) (some 4) (by kernel_rfl) (by kernel_rfl) (by kernel_rfl) ?_
  refine lin_done 4 (by kernel_rfl) ?_
  have X1 := Lib.hid b1
  have BE1 := Lib.hid be1
  clear b1 be1
  generalize hact : Act.put _ (some 4) _ = act
  simp only [Act.put, List.setIfInBounds_toArray, List.set_cons_succ, List.set_cons_zero] at hact
  subst hact
  go_upto_region 1 with (fail)
  refine lin_begin (opsOf Tryd.f97 1) (by kernel_rfl) ?_
  refine lin_load 0 91 (.tmp 1) (B) _ (ints .u8 b) (some 10) (by kernel_rfl) (by kernel_rfl) (by kernel_rfl) (by kernel_rfl) X1.out _ Tryd.underlying91 rfl IB.out ?_
  refine lin_call 1 111 #[.agg (ints .u8 b).toArray] (some 11) _ (by kernel_rfl) (by kernel_rfl) (by kernel_rfl) (mark_yes b HL.out HBB.out HW.out _) ?_
  rintro e w2 ⟨rfl, hb2⟩
  refine ⟨_, rfl, ?_⟩
  refine lin_now 2 (.tuple #[.int .i64 (genP b), .int .i64 (numP b), .bool true]) (some 9) (by kernel_rfl) (by kernel_rfl) (by kernel_rfl) ?_
  refine lin_now 3 (.int .i64 (genP b)) (some 12) (by kernel_rfl) (by kernel_rfl) (by kernel_rfl) ?_
  refine lin_now 4 (.int .i64 (numP b)) (some 13) (by kernel_rfl) (by kernel_rfl) (by kernel_rfl) ?_
  refine lin_now 5 (.bool true) (some 14) (by kernel_rfl) (by kernel_rfl) (by kernel_rfl) ?_
  refine lin_now 6 (.int .i64 (genP b)) (some 2) (by kernel_rfl) (by kernel_rfl) (by kernel_rfl) ?_
  refine lin_done 7 (by kernel_rfl) ?_
  have X2 : Hid (Blk w2 B 91 (ints .u8 b)) := X1.out.below hb2 X1.out.lt
  have BE2 : Hid (Below B w w2) := BE1.out.trans (hb2.mono (by rw [hs1.out]; omega))
  obtain ⟨Q, hQ⟩ : ∃ Q, Hid (w2.heap.size = Q) := ⟨_, rfl⟩
  have QB : Hid (B ≤ Q) := by unfold Hid; rw [← hQ.out]; exact Nat.le_of_lt X2.out.lt
  clear hb2 X1 BE1 hs1
  generalize hact : Act.put _ (some 2) _ = act
  simp only [Act.put, List.setIfInBounds_toArray, List.set_cons_succ, List.set_cons_zero] at hact
  subst hact
  go_upto_region 2 with (fail)
  refine lin_begin (opsOf Tryd.f97 2) (by kernel_rfl) ?_
  refine lin_load 0 91 (.tmp 1) (B) _ (ints .u8 b) (some 16) (by kernel_rfl) (by kernel_rfl) (by kernel_rfl) (by kernel_rfl) X2.out _ Tryd.underlying91 rfl IB.out ?_
  refine lin_newrow 1 91 (ints .u8 b) Q 1 (some 17) (by kernel_rfl) (by kernel_rfl) hQ (exec_of (Instr.buildSlice 67 1 #[(0, .agg (ints .u8 b).toArray)]) _ (by kernel_rfl) (run_build_blk b HL.out w2)) ?_
  intro w3 b3 be3 hs3
  have BE3 : Below B w w3 := BE2.out.trans (be3.mono QB.out)
  have K3 : KW w3 := HK.out.below BE3 KB.out
  refine lin_now 2 (.int .i64 (genP b)) (some 18) (by kernel_rfl) (by kernel_rfl) (by kernel_rfl) ?_
  refine lin_call 3 98 #[.slice (some ⟨Q, 0, none⟩) 1 1, .int .i64 (genP b), .int .i64 0] (some 19) _ (by kernel_rfl) (by kernel_rfl) (by kernel_rfl) (unpack_no (genP b) 0 _ 1 b _ (blks_blk b3 (by rw [HL.out])) HBB.out (by omega) HUN.out K3) ?_
  rintro e w4 ⟨rfl, hb4⟩
  refine ⟨_, rfl, ?_⟩
  refine lin_now 4 (.tuple #[.slice none 0 0, .int .i64 0, .bool false]) (some 15) (by kernel_rfl) (by kernel_rfl) (by kernel_rfl) ?_
  refine lin_now 5 (.slice none 0 0) (some 20) (by kernel_rfl) (by kernel_rfl) (by kernel_rfl) ?_
  refine lin_now 6 (.int .i64 0) (some 21) (by kernel_rfl) (by kernel_rfl) (by kernel_rfl) ?_
  refine lin_now 7 (.bool false) (some 22) (by kernel_rfl) (by kernel_rfl) (by kernel_rfl) ?_
  refine lin_now 8 (.slice none 0 0) (some 5) (by kernel_rfl) (by kernel_rfl) (by kernel_rfl) ?_
  refine lin_now 9 (.int .i64 0) (some 6) (by kernel_rfl) (by kernel_rfl) (by kernel_rfl) ?_
  refine lin_now 10 (.bool false) (some 4) (by kernel_rfl) (by kernel_rfl) (by kernel_rfl) ?_
  refine lin_done 11 (by kernel_rfl) ?_
  have BE4 : Hid (Below B w w4) := BE3.trans (hb4.mono (by have := BE3.size; have := hB.out; omega))
  clear hb4 b3 be3 hs3 BE3 K3 X2 BE2
  generalize hact : Act.put _ (some 4) _ = act
  simp only [Act.put, List.setIfInBounds_toArray, List.set_cons_succ, List.set_cons_zero] at hact
  subst hact
  go_wp2
  go_ret3
  exact ⟨rfl, by rw [hB.out]; exact BE4.out⟩
set_option maxHeartbeats 4000000 in
theorem unpackhead_nolen (b : List Int) (hl : b.length = 64) (hb : isBytes b) (hw : wholeP b) (hun : unpOk (genP b) 0 b 1) (hr : (recP b).length ≠ 4) (w : World) (hK : KW w) :
    Calls Tryd.prog 97 #[.agg (ints .u8 b).toArray] w fun e w' => e = .returned (.tuple #[.int .i64 0, .int .i64 0, .bool false]) ∧ Below w.heap.size w w' := by
  have HW := Lib.hid hw
  have HUN := Lib.hid hun
  have HR := Lib.hid hr
  clear hw hun hr
  have HBB := Lib.hid hb
  have HL := Lib.hid hl
  have HK := Lib.hid hK
  have IB : Hid ((Tryd.prog.info? 91).map (·.size) = some (ints .u8 b).length) := infoBlk b hl
  obtain ⟨B, hB⟩ : ∃ B, Hid (w.heap.size = B) := ⟨_, rfl⟩
  have KB : Hid (4 < B) := by unfold Hid; rw [← hB.out]; exact hK.lt
  clear hb hl hK
  go_enter Tryd.func97, Tryd.ntmps97
  go_upto_region 0 with (fail)
  refine lin_begin (opsOf Tryd.f97 0) (by kernel_rfl) ?_
  refine lin_box 0 91 (.tmp 0) (ints .u8 b) (B) (some 1) (by kernel_rfl) (by kernel_rfl) (by kernel_rfl) (by kernel_rfl) hB ?_
  intro w1 b1 be1 hs1
  refine lin_now 1 (.int .i64 0) (some 2) (by kernel_rfl) (by kernel_rfl) (by kernel_rfl) ?_
  refine lin_now 2 (.int .i64 0) (some 3) (by kernel_rfl) (by kernel_rfl) (by kernel_rfl) ?_
  refine lin_now 3 (.bool false) (some 4) (by kernel_rfl) (by kernel_rfl) (by kernel_rfl) ?_
  refine lin_done 4 (by kernel_rfl) ?_
  have X1 := Lib.hid b1
  have BE1 := Lib.hid be1
  clear b1 be1
  generalize hact : Act.put _ (some 4) _ = act
  simp only [Act.put, List.setIfInBounds_toArray, List.set_cons_succ, List.set_cons_zero] at hact
  subst hact
  go_upto_region 1 with (fail)
  refine lin_begin (opsOf Tryd.f97 1) (by kernel_rfl) ?_
  refine lin_load 0 91 (.tmp 1) (B) _ (ints .u8 b) (some 10) (by kernel_rfl) (by kernel_rfl) (by kernel_rfl) (by kernel_rfl) X1.out _ Tryd.underlying91 rfl IB.out ?_
  refine lin_call 1 111 #[.agg (ints .u8 b).toArray] (some 11) _ (by kernel_rfl) (by kernel_rfl) (by kernel_rfl) (mark_yes b HL.out HBB.out HW.out _) ?_
  rintro e w2 ⟨rfl, hb2⟩
  refine ⟨_, rfl, ?_⟩
  refine lin_now 2 (.tuple #[.int .i64 (genP b), .int .i64 (numP b), .bool true]) (some 9) (by kernel_rfl) (by kernel_rfl) (by kernel_rfl) ?_
  refine lin_now 3 (.int .i64 (genP b)) (some 12) (by kernel_rfl) (by kernel_rfl) (by kernel_rfl) ?_
  refine lin_now 4 (.int .i64 (numP b)) (some 13) (by kernel_rfl) (by kernel_rfl) (by kernel_rfl) ?_
  refine lin_now 5 (.bool true) (some 14) (by kernel_rfl) (by kernel_rfl) (by kernel_rfl) ?_
  refine lin_now 6 (.int .i64 (genP b)) (some 2) (by kernel_rfl) (by kernel_rfl) (by kernel_rfl) ?_
  refine lin_done 7 (by kernel_rfl) ?_
  have X2 : Hid (Blk w2 B 91 (ints .u8 b)) := X1.out.below hb2 X1.out.lt
  have BE2 : Hid (Below B w w2) := BE1.out.trans (hb2.mono (by rw [hs1.out]; omega))
  obtain ⟨Q, hQ⟩ : ∃ Q, Hid (w2.heap.size = Q) := ⟨_, rfl⟩
  have QB : Hid (B ≤ Q) := by unfold Hid; rw [← hQ.out]; exact Nat.le_of_lt X2.out.lt
  clear hb2 X1 BE1 hs1
  generalize hact : Act.put _ (some 2) _ = act
  simp only [Act.put, List.setIfInBounds_toArray, List.set_cons_succ, List.set_cons_zero] at hact
  subst hact
  go_upto_region 2 with (fail)
  refine lin_begin (opsOf Tryd.f97 2) (by kernel_rfl) ?_
  refine lin_load 0 91 (.tmp 1) (B) _ (ints .u8 b) (some 16) (by kernel_rfl) (by kernel_rfl) (by kernel_rfl) (by kernel_rfl) X2.out _ Tryd.underlying91 rfl IB.out ?_
  refine lin_newrow 1 91 (ints .u8 b) Q 1 (some 17) (by kernel_rfl) (by kernel_rfl) hQ (exec_of (Instr.buildSlice 67 1 #[(0, .agg (ints .u8 b).toArray)]) _ (by kernel_rfl) (run_build_blk b HL.out w2)) ?_
  intro w3 b3 be3 hs3
  have BE3 : Below B w w3 := BE2.out.trans (be3.mono QB.out)
  have K3 : KW w3 := HK.out.below BE3 KB.out
  refine lin_now 2 (.int .i64 (genP b)) (some 18) (by kernel_rfl) (by kernel_rfl) (by kernel_rfl) ?_
  refine lin_call 3 98 #[.slice (some ⟨Q, 0, none⟩) 1 1, .int .i64 (genP b), .int .i64 0] (some 19) _ (by kernel_rfl) (by kernel_rfl) (by kernel_rfl) (unpack_ok (genP b) 0 _ 1 b _ (blks_blk b3 (by rw [HL.out])) HBB.out (by omega) HUN.out K3) ?_
  rintro e w4 ⟨v4, rfl, hv4, hn4, hb4⟩
  refine ⟨_, rfl, ?_⟩
  have hnd : needN (sizeP b) = 1 := by have h1 := HUN.out.2.2.1; have h2 := needN_pos (sizeP b); omega
  rw [hnd]
  refine lin_now 4 (.tuple #[v4, .int .i64 ((1 : Nat) : Int), .bool true]) (some 15) (by kernel_rfl) (by kernel_rfl) (by kernel_rfl) ?_
  refine lin_now 5 (v4) (some 20) (by kernel_rfl) (by kernel_rfl) (by kernel_rfl) ?_
  refine lin_now 6 (.int .i64 ((1 : Nat) : Int)) (some 21) (by kernel_rfl) (by kernel_rfl) (by kernel_rfl) ?_
  refine lin_now 7 (.bool true) (some 22) (by kernel_rfl) (by kernel_rfl) (by kernel_rfl) ?_
  refine lin_now 8 (v4) (some 5) (by kernel_rfl) (by kernel_rfl) (by kernel_rfl) ?_
  refine lin_now 9 (.int .i64 ((1 : Nat) : Int)) (some 6) (by kernel_rfl) (by kernel_rfl) (by kernel_rfl) ?_
  refine lin_now 10 (.bool true) (some 4) (by kernel_rfl) (by kernel_rfl) (by kernel_rfl) ?_
  refine lin_done 11 (by kernel_rfl) ?_
  have V4 := Lib.hid hv4
  have BE4 : Hid (Below B w w4) := BE3.trans (hb4.mono (by have := BE3.size; have := hB.out; omega))
  clear hv4 hn4 hb4 hnd b3 be3 hs3 BE3 K3 X2 BE2
  generalize hact : Act.put _ (some 4) _ = act
  simp only [Act.put, List.setIfInBounds_toArray, List.set_cons_succ, List.set_cons_zero] at hact
  subst hact
  obtain ⟨va, vc, rfl, -⟩ := id V4.out
  obtain ⟨m, hm⟩ : ∃ m, Hid ((recP b).length = m) := ⟨_, rfl⟩
  rw [hm.out] at HR ⊢
  have q4 : ((m : Int) != 4) = true := by have := HR.out; simp; omega
  clear V4 HR
  go_wp2
  go_ret3
  exact ⟨rfl, by rw [hB.out]; exact BE4.out⟩
theorem dataK_bytes {l : List Int} (h : isBytes l) : ∀ k, isBytes (dataK l k)
  | 0 => fun x hx => by simp [dataK] at hx
  | k + 1 => fun x hx => by
    rw [dataK] at hx
    rcases List.mem_append.1 hx with h1 | h1
    · exact dataK_bytes h k x h1
    · exact h x (by
        have h2 := List.mem_of_mem_take h1
        have h3 := List.mem_of_mem_drop h2
        unfold getB at h3
        exact List.mem_of_mem_drop (List.mem_of_mem_take h3))
set_option maxHeartbeats 4000000 in
theorem unpackhead_ok (b : List Int) (hl : b.length = 64) (hb : isBytes b) (hok : headOk b) (w : World) (hK : KW w) :
    Calls Tryd.prog 97 #[.agg (ints .u8 b).toArray] w fun e w' => e = .returned (.tuple #[.int .i64 (genP b), .int .i64 (numB (recP b)), .bool true]) ∧ Below w.heap.size w w' := by
  obtain ⟨hw, hun, hr⟩ := hok
  have HW := Lib.hid hw
  have HUN := Lib.hid hun
  have HR := Lib.hid hr
  have HZB : Hid (isBytes (recP b)) := by
    unfold Hid recP
    exact bytes_take (bytes_drop (dataK_bytes hb _) _) _
  obtain ⟨zs, hzs⟩ : ∃ zs, Hid (recP b = zs) := ⟨_, rfl⟩
  rw [hzs.out] at HR HZB ⊢
  clear hw hun hr
  have HBB := Lib.hid hb
  have HL := Lib.hid hl
  have HK := Lib.hid hK
  have IB : Hid ((Tryd.prog.info? 91).map (·.size) = some (ints .u8 b).length) := infoBlk b hl
  obtain ⟨B, hB⟩ : ∃ B, Hid (w.heap.size = B) := ⟨_, rfl⟩
  have KB : Hid (4 < B) := by unfold Hid; rw [← hB.out]; exact hK.lt
  clear hb hl hK
  go_enter Tryd.func97, Tryd.ntmps97
  go_upto_region 0 with (fail)
  refine lin_begin (opsOf Tryd.f97 0) (by kernel_rfl) ?_
  refine lin_box 0 91 (.tmp 0) (ints .u8 b) (B) (some 1) (by kernel_rfl) (by kernel_rfl) (by kernel_rfl) (by kernel_rfl) hB ?_
  intro w1 b1 be1 hs1
  refine lin_now 1 (.int .i64 0) (some 2) (by kernel_rfl) (by kernel_rfl) (by kernel_rfl) ?_
  refine lin_now 2 (.int .i64 0) (some 3) (by kernel_rfl) (by kernel_rfl) (by kernel_rfl) ?_
  refine lin_now 3 (.bool false) (some 4) (by kernel_rfl) (by kernel_rfl) (by kernel_rfl) ?_
  refine lin_done 4 (by kernel_rfl) ?_
  have X1 := Lib.hid b1
  have BE1 := Lib.hid be1
  clear b1 be1
  generalize hact : Act.put _ (some 4) _ = act
  simp only [Act.put, List.setIfInBounds_toArray, List.set_cons_succ, List.set_cons_zero] at hact
  subst hact
  go_upto_region 1 with (fail)
  refine lin_begin (opsOf Tryd.f97 1) (by kernel_rfl) ?_
  refine lin_load 0 91 (.tmp 1) (B) _ (ints .u8 b) (some 10) (by kernel_rfl) (by kernel_rfl) (by kernel_rfl) (by kernel_rfl) X1.out _ Tryd.underlying91 rfl IB.out ?_
  refine lin_call 1 111 #[.agg (ints .u8 b).toArray] (some 11) _ (by kernel_rfl) (by kernel_rfl) (by kernel_rfl) (mark_yes b HL.out HBB.out HW.out _) ?_
  rintro e w2 ⟨rfl, hb2⟩
  refine ⟨_, rfl, ?_⟩
  refine lin_now 2 (.tuple #[.int .i64 (genP b), .int .i64 (numP b), .bool true]) (some 9) (by kernel_rfl) (by kernel_rfl) (by kernel_rfl) ?_
  refine lin_now 3 (.int .i64 (genP b)) (some 12) (by kernel_rfl) (by kernel_rfl) (by kernel_rfl) ?_
  refine lin_now 4 (.int .i64 (numP b)) (some 13) (by kernel_rfl) (by kernel_rfl) (by kernel_rfl) ?_
  refine lin_now 5 (.bool true) (some 14) (by kernel_rfl) (by kernel_rfl) (by kernel_rfl) ?_
  refine lin_now 6 (.int .i64 (genP b)) (some 2) (by kernel_rfl) (by kernel_rfl) (by kernel_rfl) ?_
  refine lin_done 7 (by kernel_rfl) ?_
  have X2 : Hid (Blk w2 B 91 (ints .u8 b)) := X1.out.below hb2 X1.out.lt
  have BE2 : Hid (Below B w w2) := BE1.out.trans (hb2.mono (by rw [hs1.out]; omega))
  obtain ⟨Q, hQ⟩ : ∃ Q, Hid (w2.heap.size = Q) := ⟨_, rfl⟩
  have QB : Hid (B ≤ Q) := by unfold Hid; rw [← hQ.out]; exact Nat.le_of_lt X2.out.lt
  clear hb2 X1 BE1 hs1
  generalize hact : Act.put _ (some 2) _ = act
  simp only [Act.put, List.setIfInBounds_toArray, List.set_cons_succ, List.set_cons_zero] at hact
  subst hact
  go_upto_region 2 with (fail)
  refine lin_begin (opsOf Tryd.f97 2) (by kernel_rfl) ?_
  refine lin_load 0 91 (.tmp 1) (B) _ (ints .u8 b) (some 16) (by kernel_rfl) (by kernel_rfl) (by kernel_rfl) (by kernel_rfl) X2.out _ Tryd.underlying91 rfl IB.out ?_
  refine lin_newrow 1 91 (ints .u8 b) Q 1 (some 17) (by kernel_rfl) (by kernel_rfl) hQ (exec_of (Instr.buildSlice 67 1 #[(0, .agg (ints .u8 b).toArray)]) _ (by kernel_rfl) (run_build_blk b HL.out w2)) ?_
  intro w3 b3 be3 hs3
  have BE3 : Below B w w3 := BE2.out.trans (be3.mono QB.out)
  have K3 : KW w3 := HK.out.below BE3 KB.out
  refine lin_now 2 (.int .i64 (genP b)) (some 18) (by kernel_rfl) (by kernel_rfl) (by kernel_rfl) ?_
  refine lin_call 3 98 #[.slice (some ⟨Q, 0, none⟩) 1 1, .int .i64 (genP b), .int .i64 0] (some 19) _ (by kernel_rfl) (by kernel_rfl) (by kernel_rfl) (unpack_ok (genP b) 0 _ 1 b _ (blks_blk b3 (by rw [HL.out])) HBB.out (by omega) HUN.out K3) ?_
  rintro e w4 ⟨v4, rfl, hv4, hn4, hb4⟩
  refine ⟨_, rfl, ?_⟩
  have hnd : needN (sizeP b) = 1 := by have h1 := HUN.out.2.2.1; have h2 := needN_pos (sizeP b); omega
  rw [hnd]
  refine lin_now 4 (.tuple #[v4, .int .i64 ((1 : Nat) : Int), .bool true]) (some 15) (by kernel_rfl) (by kernel_rfl) (by kernel_rfl) ?_
  refine lin_now 5 (v4) (some 20) (by kernel_rfl) (by kernel_rfl) (by kernel_rfl) ?_
  refine lin_now 6 (.int .i64 ((1 : Nat) : Int)) (some 21) (by kernel_rfl) (by kernel_rfl) (by kernel_rfl) ?_
  refine lin_now 7 (.bool true) (some 22) (by kernel_rfl) (by kernel_rfl) (by kernel_rfl) ?_
  refine lin_now 8 (v4) (some 5) (by kernel_rfl) (by kernel_rfl) (by kernel_rfl) ?_
  refine lin_now 9 (.int .i64 ((1 : Nat) : Int)) (some 6) (by kernel_rfl) (by kernel_rfl) (by kernel_rfl) ?_
  refine lin_now 10 (.bool true) (some 4) (by kernel_rfl) (by kernel_rfl) (by kernel_rfl) ?_
  refine lin_done 11 (by kernel_rfl) ?_
  have V4 := Lib.hid hv4
  have BE4 : Hid (Below B w w4) := BE3.trans (hb4.mono (by have := BE3.size; have := hB.out; omega))
  clear hv4 hn4 hb4 hnd b3 be3 hs3 BE3 K3 X2 BE2
  generalize hact : Act.put _ (some 4) _ = act
  simp only [Act.put, List.setIfInBounds_toArray, List.set_cons_succ, List.set_cons_zero] at hact
  subst hact
  rw [hzs.out] at V4
  obtain ⟨va, vc, rfl, hvc, hp⟩ := id V4.out
  obtain ⟨pb, po, rfl, hpl, hpr⟩ := hp (by rw [HR.out]; omega)
  have PR := Lib.hid hpr
  rw [HR.out] at hvc ⊢
  clear hpr hpl hp V4
  go_wp2
  go_loopw [3, 32, 8] (fun n i _ wr => ∃ (j : Nat) (z : Int), j ≤ 4 ∧ i = .int .i64 (j : Int) ∧ n = .int .i64 z ∧ Hid (z = numB (zs.take j)) ∧ w4 = wr) (fun _ i _ _ => 4 - (intOf i).toNat)
  case atStart => exact ⟨0, 0, Nat.zero_le _, rfl, rfl, rfl, rfl⟩
  case round =>
    obtain ⟨j, z, hj, rfl, rfl, hz, rfl⟩ := hrel
    have hz0 := numB_range (bytes_take HZB.out j)
    have hpow : (256 : Int) ^ (zs.take j).length ≤ 256 ^ 4 := by
      have := HR.out
      exact_mod_cast Nat.pow_le_pow_right (show 0 < 256 by decide) (show (zs.take j).length ≤ 4 by rw [List.length_take]; omega)
    rw [← hz.out] at hz0
    by_cases hlt : j < 4
    · have q1 : (j : Int) < 4 := by omega
      have z0 : 0 ≤ z := hz0.1
      have z1 : z < 4294967296 := by omega
      have hx : zs[j]? = some (zs.getD j 0) := by
        rw [List.getD_eq_getElem?_getD, List.getElem?_eq_getElem (by rw [HR.out]; exact hlt)]; rfl
      have c0 := PR.out j _ (ints_get hx)
      have bx := HZB.out (zs.getD j 0) (List.mem_of_getElem? hx)
      have HN : Hid (z * 256 + zs.getD j 0 = numB (zs.take (j + 1))) := by
        unfold Hid
        rw [List.take_add_one, hx, Option.toList_some, numB_snoc, hz.out]
      generalize zs.getD j 0 = x at *
      have b0 := bx.1
      have b1 := bx.2
      clear hx bx hpow hz0
      go_wp2
      refine ⟨⟨j + 1, z * 256 + x, by omega, by go_num, ?_, HN, by trivial⟩, by simp [intOf]; omega⟩
      rw [shl8_or z x z0 z1 ⟨b0, b1⟩]
    · have q1 : ¬ (j : Int) < 4 := by omega
      obtain rfl : j = 4 := by omega
      have e : z = numB zs := by rw [hz.out, List.take_of_length_le (by rw [HR.out]; omega)]
      clear hpow hz0 hz
      subst e
      go_wp2
      go_ret3
      exact ⟨rfl, by rw [hB.out]; exact BE4.out⟩
theorem unpackhead_no (b : List Int) (hl : b.length = 64) (hb : isBytes b) (hno : ¬ headOk b) (w : World) (hK : KW w) :
    Calls Tryd.prog 97 #[.agg (ints .u8 b).toArray] w fun e w' => e = .returned (.tuple #[.int .i64 0, .int .i64 0, .bool false]) ∧ Below w.heap.size w w' := by
  by_cases h1 : wholeP b
  · by_cases h2 : unpOk (genP b) 0 b 1
    · exact unpackhead_nolen b hl hb h1 h2 (fun h => hno ⟨h1, h2, h⟩) w hK
    · exact unpackhead_nounp b hl hb h1 h2 w hK
  · exact unpackhead_nomark b hl hb h1 w hK
end Go.Proofs.YtngpmilojfbpmaaDoor
