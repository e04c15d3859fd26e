/- package tag's cutNumber, cutPart, the library's bytes.Clone; Unframe. -/
import Derived.Test.YtoeilaedpibboaaDoorTagFrm
import Derived.Test.YtoeilaedpibboaaDoorTagCmp
import Derived.Deep.QuietTactic
import Derived.BigQuiet
namespace Go.Proofs.YtoeilaedpibboaaDoor
open Go.RowKit
set_option maxRecDepth 100000

/-- Four bytes as a number, in the walk's own form. -/
def back4 (a b c d : Int) : Int := bits BinOp.or IntKind.i64 (bits BinOp.or IntKind.i64 (bits BinOp.or IntKind.i64 a (b * 256)) (c * 65536)) (d * 16777216)
def back4L (zs : List Int) : Int := back4 (zs.getD 0 0) (zs.getD 1 0) (zs.getD 2 0) (zs.getD 3 0)
theorem get_byte {zs : List Int} (hb : isBytes zs) (j : Nat) : 0 ≤ zs.getD j 0 ∧ zs.getD j 0 ≤ 255 := by
  by_cases h : j < zs.length
  · exact hb _ (by rw [List.getD_eq_getElem?_getD, List.getElem?_eq_getElem h]; exact List.getElem_mem _)
  · rw [List.getD_eq_getElem?_getD, List.getElem?_eq_none (by omega)]; simp
theorem drew_two (w : World) (a b : Nat) : (w.drewN a).drewN b = w.drewN (a + b) := by simp [World.drewN]; omega
theorem tail_at {w : World} {pb po len cap c : Nat} {zs : List Int} (hr : w.rangeAt pb po (ints .u8 zs)) (hl : zs.length = len) (hc : c ≤ len) (hlc : len ≤ cap) : ∃ p2, tailAddr pb po cap c = some ⟨pb, p2, none⟩ ∧ w.rangeAt pb p2 (ints .u8 (zs.drop c)) := by
  by_cases h : cap = c
  · refine ⟨po, by rw [tailAddr, if_pos h], ?_⟩
    rw [List.drop_eq_nil_of_le (by omega)]
    intro j v hv; simp [ints] at hv
  · refine ⟨po + c, by rw [tailAddr, if_neg h], fun j v hv => ?_⟩
    rw [show po + c + j = po + (c + j) by omega]
    refine hr (c + j) v ?_
    simpa [ints, List.getElem?_drop] using hv
theorem head_at {w : World} {pb po n : Nat} {zs : List Int} (hr : w.rangeAt pb po (ints .u8 zs)) : w.rangeAt pb po (ints .u8 (zs.take n)) := fun j v hv => by
  refine hr j v ?_
  simp only [ints, List.map_take, List.getElem?_take] at hv ⊢
  split at hv
  · exact hv
  · cases hv
set_option maxHeartbeats 1000000 in
theorem cutnum_yes (pb po len cap : Nat) (zs : List Int) (hl : zs.length = len) (hb : isBytes zs) (h4 : 4 ≤ len) (hlc : len ≤ cap) (hbig : len ≤ 1000000) (w : World) (hr : w.rangeAt pb po (ints .u8 zs)) :
    Calls Tryd.prog 32 #[.slice (some ⟨pb, po, none⟩) len cap] w fun e w' => (∃ p2, e = .returned (.tuple #[.int .i64 (back4L zs), .slice (some ⟨pb, p2, none⟩) (len - 4) (cap - 4), .bool true]) ∧ w.rangeAt pb p2 (ints .u8 (zs.drop 4))) ∧ ∃ n, w' = w.drewN n := by
  obtain ⟨p2, hp2, hr2⟩ := tail_at (c := 4) hr hl (by omega) hlc
  have c0 : w.cell? ⟨pb, po, none⟩ = some (.int .u8 (zs.getD 0 0)) := hr 0 _ (ints_getD (by omega))
  have c1 : w.cell? ⟨pb, po + 1, none⟩ = some (.int .u8 (zs.getD 1 0)) := hr 1 _ (ints_getD (by omega))
  have c2 : w.cell? ⟨pb, po + 2, none⟩ = some (.int .u8 (zs.getD 2 0)) := hr 2 _ (ints_getD (by omega))
  have c3 : w.cell? ⟨pb, po + 3, none⟩ = some (.int .u8 (zs.getD 3 0)) := hr 3 _ (ints_getD (by omega))
  obtain ⟨l0, u0⟩ := get_byte hb 0
  obtain ⟨l1, u1⟩ := get_byte hb 1
  obtain ⟨l2, u2⟩ := get_byte hb 2
  obtain ⟨l3, u3⟩ := get_byte hb 3
  have hB : Hid (back4L zs = back4 (zs.getD 0 0) (zs.getD 1 0) (zs.getD 2 0) (zs.getD 3 0)) := rfl
  have hsl : ∀ w, (Instr.slice 36 (.slice (some ⟨pb, po, none⟩) len cap) (some (.int .i64 4)) none none).run Tryd.prog w = .ok (.slice (some ⟨pb, p2, none⟩) (len - 4) (cap - 4)) w := fun w => by rw [← hp2]; exact run_slice_tail pb po len cap 4 h4 w
  have HR2 := Lib.hid hr2
  clear hp2 hr2
  generalize zs.getD 0 0 = z0 at *
  generalize zs.getD 1 0 = z1 at *
  generalize zs.getD 2 0 = z2 at *
  generalize zs.getD 3 0 = z3 at *
  have q1 : ¬ (len : Int) < 4 := by omega
  have p0 : (0 : Int) < (len : Int) := by omega
  have p1 : (1 : Int) < (len : Int) := by omega
  have p2' : (2 : Int) < (len : Int) := by omega
  have p3 : (3 : Int) < (len : Int) := by omega
  have n0 : 0 < len := by omega
  have n1 : 1 < len := by omega
  have n2 : 2 < len := by omega
  have n3 : 3 < len := by omega
  clear hr hl hb hlc
  go_enter Tryd.func32, Tryd.ntmps32
  go_wp2
  go_quiet (fail)
  go_wp2
  go_quiet (fail)
  go_wp2
  refine bodyPost_ret (results_tmp3 rfl _ _ _) rfl ?_
  exact ⟨⟨p2, by rw [hB.out]; rfl, HR2.out⟩, _, drew_two _ _ _⟩
theorem cutnum_no (a : Option Addr) (len cap : Nat) (h4 : len < 4) (w : World) :
    Calls Tryd.prog 32 #[.slice a len cap] w fun e w' => e = .returned (.tuple #[.int .i64 0, .slice none 0 0, .bool false]) ∧ w = w' := by
  have q1 : (len : Int) < 4 := by omega
  go_enter Tryd.func32, Tryd.ntmps32
  go_wp2
  go_ret3
  exact ⟨rfl, rfl⟩
/-- The part at the start of some bytes, and what stands behind it. -/
theorem cutpart_yes (pb po len cap n : Nat) (zs : List Int) (hl : zs.length = len) (hb : isBytes zs) (h4 : 4 ≤ len) (hlc : len ≤ cap) (hbig : len ≤ 1000000) (hn : back4L zs = (n : Int)) (hnl : n ≤ len - 4) (w : World) (hr : w.rangeAt pb po (ints .u8 zs)) :
    Calls Tryd.prog 33 #[.slice (some ⟨pb, po, none⟩) len cap] w fun e w' => (∃ p1 p2 c1 c2, e = .returned (.tuple #[.slice (some ⟨pb, p1, none⟩) n c1, .slice (some ⟨pb, p2, none⟩) (len - 4 - n) c2, .bool true]) ∧ n ≤ c1 ∧ len - 4 - n ≤ c2 ∧
      w.rangeAt pb p1 (ints .u8 ((zs.drop 4).take n)) ∧ w.rangeAt pb p2 (ints .u8 ((zs.drop 4).drop n))) ∧ ∃ n, w' = w.drewN n := by
  have HR := Lib.hid hr
  have HN := Lib.hid hn
  have HL := Lib.hid hl
  have HB := Lib.hid hb
  clear hr hn hl hb
  go_enter Tryd.func33, Tryd.ntmps33
  go_wp2_with fail
  refine (cutnum_yes pb po len cap zs HL.out HB.out h4 hlc hbig _ HR.out).mono ?_
  rintro e w1 ⟨⟨p1, rfl, hr1⟩, nd, rfl⟩
  rw [HN.out]
  have hl1 : (zs.drop 4).length = len - 4 := by rw [List.length_drop, HL.out]
  have hcr : len - 4 ≤ cap - 4 := by omega
  obtain ⟨p2, hp2, hr2⟩ := tail_at (c := n) hr1 hl1 hnl hcr
  have HH1 := Lib.hid (head_at (n := n) hr1)
  have HR2 := Lib.hid hr2
  generalize hlr : len - 4 = lr at *
  generalize cap - 4 = cr at *
  have hsl : ∀ w, (Instr.slice 36 (.slice (some ⟨pb, p1, none⟩) lr cr) (some (.int .i64 (n : Int))) none none).run Tryd.prog w = .ok (.slice (some ⟨pb, p2, none⟩) (lr - n) (cr - n)) w := fun w => by rw [← hp2]; exact run_slice_tail pb p1 lr cr n hnl w
  have q1 : ¬ (lr : Int) < (n : Int) := by omega
  have q2 : decide ((lr : Int) < (n : Int)) = false := by simp; omega
  have q4 : (n : Int) ≤ (cr : Int) := by omega
  have HLR : Hid (len - 4 - n = lr - n) := by unfold Hid; omega
  clear hlr hr1 hr2 hp2 hl1
  go_wp2
  go_quiet (fail)
  go_wp2
  go_ret3
  have e1 := HLR.out
  have e2 : len - (4 + n) = lr - n := by omega
  refine ⟨⟨p1, p2, cr, cr - n, ?_, by omega, by omega, HH1.out, HR2.out⟩, _, drew_two _ _ _⟩
  first | (rw [e1]; rfl) | (rw [e2]; rfl)
theorem cutpart_short (a : Option Addr) (len cap : Nat) (h4 : len < 4) (w : World) :
    Calls Tryd.prog 33 #[.slice a len cap] w fun e w' => e = .returned (.tuple #[.slice none 0 0, .slice none 0 0, .bool false]) ∧ w = w' := by
  go_enter Tryd.func33, Tryd.ntmps33
  go_wp2_with fail
  refine (cutnum_no a len cap h4 _).mono ?_
  rintro e w1 ⟨rfl, rfl⟩
  go_wp2
  go_ret3
  exact ⟨rfl, rfl⟩
theorem cutpart_much (pb po len cap : Nat) (zs : List Int) (hl : zs.length = len) (hb : isBytes zs) (h4 : 4 ≤ len) (hlc : len ≤ cap) (hbig : len ≤ 1000000) (n : Nat) (hn : back4L zs = (n : Int)) (hnl : len - 4 < n) (w : World) (hr : w.rangeAt pb po (ints .u8 zs)) :
    Calls Tryd.prog 33 #[.slice (some ⟨pb, po, none⟩) len cap] w fun e w' => e = .returned (.tuple #[.slice none 0 0, .slice none 0 0, .bool false]) ∧ ∃ n, w' = w.drewN n := by
  have HR := Lib.hid hr
  have HN := Lib.hid hn
  have HL := Lib.hid hl
  have HB := Lib.hid hb
  clear hr hn hl hb
  go_enter Tryd.func33, Tryd.ntmps33
  go_wp2_with fail
  refine (cutnum_yes pb po len cap zs HL.out HB.out h4 hlc hbig _ HR.out).mono ?_
  rintro e w1 ⟨⟨p1, rfl, hr1⟩, nd, rfl⟩
  rw [HN.out]
  generalize hlr : len - 4 = lr at *
  generalize cap - 4 = cr at *
  have q1 : (lr : Int) < (n : Int) := by omega
  have q2 : decide ((lr : Int) < (n : Int)) = true := by simp; omega
  clear hlr hr1
  go_wp2
  go_ret3
  exact ⟨rfl, _, rfl⟩

theorem bclone_walk (pb po n cap : Nat) (zs : List Int) (hl : zs.length = n) (hc : n ≤ cap) (hn : n ≤ 70368744177664) (w : World) (hp : pb < w.heap.size) (hr : w.rangeAt pb po (ints .u8 zs)) :
    Calls Tryd.prog 34 #[.slice (some ⟨pb, po, none⟩) n cap] w (CopyPost zs w) := by
  have HU : Hid (BytesIn (w.alloc (.cells #[] 5)) (.slice (some ⟨pb, po, none⟩) n cap) zs) := by
    have h1 : BytesIn w (.slice (some ⟨pb, po, none⟩) n cap) zs := ⟨some ⟨pb, po, none⟩, cap, by rw [hl], by omega, fun _ => ⟨pb, po, rfl, hp, hr⟩⟩
    exact h1.below ((Below.refl w.heap.size w).alloc (Nat.le_refl _) _) (Nat.le_refl _)
  have HN : Hid (NilOk (.slice (some ⟨pb, po, none⟩) n cap)) := trivial
  have HL := Lib.hid hl
  have hnil : ∀ w, (binOp BinOp.eql 36 (.slice (some ⟨pb, po, none⟩) n cap) (.slice none 0 0)).run Tryd.prog w = .ok (.bool false) w := fun w => by kernel_rfl
  clear hr hl
  go_enter Tryd.func34, Tryd.ntmps34
  go_wp2_with (with_reducible refine wpList_append_bytes (o := ⟨some 7, _, _, _, _, _⟩) ?a1 (.tmp 5) (.tmp 6) ?a2 w.heap.size (.slice (some ⟨w.heap.size, 0, none⟩) 0 0) [] ?a3 ?a4 (.slice (some ⟨pb, po, none⟩) n cap) zs ?a5 HU.out HN.out ?a6 ?a7 ?_)
  case a1 => rfl
  case a2 => rfl
  all_goals try (case a3 => rfl)
  case a4 => exact owns_empty w _ (Nat.le_refl _)
  all_goals try (case a5 => rfl)
  case a6 => simp; rw [HL.out]; omega
  case a7 => simp
  intro v' w' h1 h2
  have H1 := Lib.hid h1
  have H2 := Lib.hid (((Below.refl w.heap.size w).alloc (Nat.le_refl _) (.cells #[] 5)).grown h2 (by simp) (fun k hk => by simp [Value.ownBlock] at hk; omega))
  clear h1 h2
  go_wp2
  go_ret
  refine ⟨v', rfl, ?_, H2.out⟩
  simpa using H1.out
end Go.Proofs.YtoeilaedpibboaaDoor
