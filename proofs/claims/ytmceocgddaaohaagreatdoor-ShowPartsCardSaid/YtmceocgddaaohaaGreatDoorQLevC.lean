import Derived.Test.YtmceocgddaaohaaGreatDoorRows
import Derived.Test.YtmceocgddaaohaaGreatDoorQGenT
import Derived.ProofKit
import Derived.OpenShut
import Derived.ChangeOld
import Derived.SizedLaws
import Derived.Deep.Matrix
import Derived.Deep.Slices
import Derived.Deep.DeepHandedRow
import Derived.IntWalk
namespace Go.Proofs.YtmceocgddaaohaaGreatDoor
open Go.ChangeShapes Go.WideShapes Go.ChangeAt Go.RowKit Go.Deep
set_option maxRecDepth 100000
theorem own : ownKnob Tryz.prog.godebug = none := by kernel_rfl
theorem laidOut : laidOutB Tryz.prog = true := by kernel_rfl
theorem weights_in {H : Type} {P : Program} {e : TypeId} : ∀ {l : List (DataW H)} {d : DataW H}, d ∈ l → ∀ n ∈ d.weights P e, n ∈ DataW.weightsAll P e l
 | _ :: _, d, h, n, hn => by
  rw [DataW.weightsAll, List.mem_append]
  rcases List.mem_cons.1 h with rfl | h
  ·exact Or.inl hn
  ·exact Or.inr (weights_in h n hn)
theorem addr_plain {w : World} {a : Addr} {v : Value} (h : w.cell? (a.add 0) = some v) : a = ⟨a.block, a.off, none⟩ := by
 have : a.spot = none := World.cell?_spot (by simpa [Addr.add] using h)
 cases a; simp_all
theorem ints_of_array {H : Type} {enc : TypeId × Value → H} {P : Program} {w : World} {base : Nat} {spare : Nat → Bool} {held : Bool} {fuel : Nat} {t e : TypeId} {n : Nat} {k : IntKind} {cs : List Value} {x : DataW H × List MemPlace}
    (ht : P.underlying t = some (.array n e)) (he : P.underlying e = some (.int k)) (ce : P.cellsOf e = 1) (ct : P.cellsOf t = n) (h : DataW.trod enc P w base spare held fuel t cs = some x) : ∃ zs : List Int, cs = ints k zs ∧ zs.length = n := by
  obtain ⟨xs, m, rfl, -, hl, hxl, hi⟩ := DataW.trod_array ht h
  rw [ct] at hl
  refine ⟨cs.map valOf, ?_, by rw [List.length_map, hl]⟩
  apply List.ext_getElem?
  intro i
  by_cases hin : i < n
  · have h1 := hi i hin
    rw [ce, Nat.mul_one, List.getElem?_eq_getElem (by omega)] at h1
    obtain ⟨z, hz, _⟩ := DataW.trod_int he h1
    have h2 : cs[i]? = some (.int k z) := by
      have : ((cs.drop i).take 1)[0]? = some (.int k z) := by rw [hz]; rfl
      simpa [List.getElem?_take, List.getElem?_drop] using this
    rw [h2]
    simp [ints, h2, valOf]
  · rw [List.getElem?_eq_none (by omega), List.getElem?_eq_none (by rw [ints_length, List.length_map]; omega)]
theorem ints_of_array' {H : Type} {enc : TypeId × Value → H} {P : Program} {w : World} {base : Nat} {spare : Nat → Bool} {held : Bool} {fuel : Nat} {t e : TypeId} {n : Nat} {k : IntKind} {cs : List Value} {x : DataW H × List MemPlace}
    (ht : P.underlying t = some (.array n e)) (he : P.underlying e = some (.int k)) (ce : P.cellsOf e = 1) (ct : P.cellsOf t = n) (h : DataW.trod enc P w base spare held fuel t cs = some x) : ∃ zs : List Int, cs = ints k zs ∧ zs.length = n ∧ ∀ z ∈ zs, (Lit.int k z).wf = true := by
  obtain ⟨zs, rfl, hz⟩ := ints_of_array ht he ce ct h
  refine ⟨zs, rfl, hz, fun z hzm => ?_⟩
  obtain ⟨i, hi, rfl⟩ := List.mem_iff_getElem.1 hzm
  obtain ⟨xs, m, rfl, -, hl, hxl, hix⟩ := DataW.trod_array ht h
  have h1 := hix i (by omega)
  rw [ce, Nat.mul_one, List.getElem?_eq_getElem (by omega)] at h1
  obtain ⟨z, hz1, _, hw⟩ := DataW.trod_int he h1
  have h2 : ((ints k zs).drop i).take 1 = [.int k zs[i]] := by
    apply List.ext_getElem?
    intro j
    cases j with
    | zero => simp [List.getElem?_drop, ints, hi]
    | succ j => simp [List.getElem?_take]
  rw [h2] at hz1
  have : zs[i] = z := by simpa using hz1
  rw [this]
  exact hw
end Go.Proofs.YtmceocgddaaohaaGreatDoor
namespace Go.Proofs.YtmceocgddaaohaaGreatDoor
open Go Go.RowKit
set_option maxRecDepth 100000
structure Lv where
 b : Int
 p : List Int
deriving DecidableEq
def Lv.zs (l : Lv) : List Int := l.b :: l.p
def rightL (l : Lv) : Bool := (decide (0 ≤ l.b) && decide (l.b ≤ 100)) && l.p.all fun x => decide (-1 ≤ x) && decide (x ≤ l.b)
theorem right_b {l : Lv} (h : rightL l = true) : 0 ≤ l.b ∧ l.b ≤ 100 := by
 simp only [rightL, Bool.and_eq_true, decide_eq_true_eq] at h
 exact h.1
theorem right_p {l : Lv} (h : rightL l = true) {x : Int} (hx : x ∈ l.p) : -1 ≤ x ∧ x ≤ l.b := by
 simp only [rightL, Bool.and_eq_true, List.all_eq_true, decide_eq_true_eq] at h
 exact h.2 x hx
theorem right_at {l : Lv} (h : rightL l = true) {i : Nat} (hi : i < l.p.length) : -1 ≤ l.p.getD i 0 ∧ l.p.getD i 0 ≤ l.b := by
 rw [List.getD_eq_getElem?_getD, List.getElem?_eq_getElem hi]
 exact right_p h (List.getElem_mem hi)
theorem right_mk {l : Lv} (h0 : 0 ≤ l.b) (h1 : l.b ≤ 100) (h : ∀ x ∈ l.p, -1 ≤ x ∧ x ≤ l.b) : rightL l = true := by
 simp only [rightL, Bool.and_eq_true, List.all_eq_true, decide_eq_true_eq]
 exact ⟨⟨h0, h1⟩, h⟩
def clampL (v : Int) : Int := min (max v 0) 1048576
def valUp (l : Lv) (vals : List Int) : Nat → Int
 | 0 => l.b
 | k + 1 => if l.p.getD k 0 = -1 then valUp l vals k else max (valUp l vals k) (clampL (vals.getD k 0) + l.p.getD k 0)
theorem mem_at {us : List Int} {x : Int} (h : x ∈ us) : ∃ i, i < us.length ∧ us.getD i 0 = x := by
 obtain ⟨i, hi, e⟩ := List.getElem_of_mem h
 exact ⟨i, hi, by simp [List.getD_eq_getElem?_getD, hi, e]⟩
theorem right_all {l : Lv} (hl : l.p.length = 4) (h0 : 0 ≤ l.b) (h1 : l.b ≤ 100) (h : ∀ i, i < 4 → -1 ≤ l.p.getD i 0 ∧ l.p.getD i 0 ≤ l.b) : rightL l = true := by
 refine right_mk h0 h1 fun x hx => ?_
 obtain ⟨i, hi, rfl⟩ := mem_at hx
 exact h i (by omega)
def zeroL : Lv := ⟨0, [0, 0, 0, 0]⟩
def widthUp (l : Lv) : Nat → Nat
 | 0 => 0
 | k + 1 => if l.p.getD k 0 = -1 then widthUp l k else k + 1
def widthL (l : Lv) : Nat := widthUp l 4
end Go.Proofs.YtmceocgddaaohaaGreatDoor
namespace Go.Proofs.YtmceocgddaaohaaGreatDoor
open Go Go.RowKit
set_option maxRecDepth 100000
theorem bool_eq {a b : Bool} (h : a = b) : Ending.returned (.bool a) = .returned (.bool b) := by rw [h]
theorem Lv.zlen {l : Lv} (h : l.p.length = 4) : (ints .i64 l.zs).length = 5 := by rw [ints_length]; simp [Lv.zs, h]
theorem lvSize {l : Lv} (h : l.p.length = 4) : (Tryz.prog.info? 80).map (·.size) = some (ints .i64 l.zs).length := by rw [Lv.zlen h]; kernel_rfl
theorem p4Size {p : List Int} (h : p.length = 4) : (Tryz.prog.info? 78).map (·.size) = some (ints .i64 p).length := by rw [ints_length, h]; kernel_rfl
theorem Blk.plus {w : World} {b : Nat} {t : TypeId} {l : Lv} (h : Blk w b t (ints .i64 l.zs)) : w.rangeAt b 1 (ints .i64 l.p) := fun j v hv => by
 refine h.cell (j := 1 + j) ?_
 rw [Nat.add_comm]
 exact hv
theorem Blk.base {w : World} {b : Nat} {t : TypeId} {l : Lv} (h : Blk w b t (ints .i64 l.zs)) : w.cell? ⟨b, 0, none⟩ = some (.int .i64 l.b) := h.cell rfl
theorem exec_index {P : Program} {a : Act} {w : World} {op : Oper} (t e : TypeId) (x ix : Operand) (ho : op.op = .index t x ix) (n : Nat) (k : IntKind) (ht : P.underlying t = some (.array n e)) (he : P.underlying e = some (.int k)) (hs : (P.info? e).map (·.size) = some 1)
    (l : List Int) (hl : l.length = n) (hx : a.eval x = .agg (ints k l).toArray) (i : Nat) (hi : a.eval ix = .int .i64 (i : Int)) (h : i < n) : (execOp a.eval op).run P w = .ok (.value (.int k (l.getD i 0))) w := by
  obtain ⟨inf, hi1, hi2⟩ := Option.map_eq_some_iff.1 hs
  have hp := run_part_ints w he l i (by omega)
  have hr : (Instr.index t (.agg (ints k l).toArray) (.int .i64 (i : Int))).run P w = .ok (.int k (l.getD i 0)) w := by
    unfold Instr.index
    simp only [Sem.run_bind, run_underlying ht, asIntOf, Sem.run_pure, Result.andThen_ok]
    have hn : (0 : Int) ≤ (i : Int) ∧ (i : Int) < (n : Int) := by omega
    simp only [hn, and_self, if_true, Sem.run_bind, Int.toNat_natCast]
    simpa [sizeOf, typeInfo, hi1, hi2] using hp
  unfold execOp
  simp only [ho, hx, hi, Sem.run_bind, hr, Result.andThen_ok]
  rfl
set_option maxHeartbeats 1000000 in
theorem inb_walk (n : Int) (w : World) : Calls Tryz.prog 102 #[.int .i64 n] w fun e w' => e = .returned (.bool (decide (0 ≤ n) && decide (n ≤ 100))) ∧ w = w' := by
 by_cases h0 : 0 ≤ n
 ·by_cases h1 : n ≤ 100
  ·go_enter Tryz.func102, Tryz.ntmps102
   go_wp2
   go_ret
   exact ⟨by simp [h0, h1], rfl⟩
  ·go_enter Tryz.func102, Tryz.ntmps102
   go_wp2
   go_ret
   exact ⟨by simp; omega, rfl⟩
 ·go_enter Tryz.func102, Tryz.ntmps102
  go_wp2
  go_ret
  exact ⟨by simp; omega, rfl⟩
set_option maxHeartbeats 1000000 in
theorem right_walk (l : Lv) (hl : l.p.length = 4) (w : World) : Calls Tryz.prog 76 #[.agg (ints .i64 l.zs).toArray] w fun e w' => e = .returned (.bool (rightL l)) ∧ Below w.heap.size w w' := by
 obtain ⟨q, hq⟩ : ∃ q, Hid (w.heap.size = q) := ⟨_, rfl⟩
 have HL := Lib.hid hl
 clear hl
 go_enter Tryz.func76, Tryz.ntmps76
 go_upto_region 0 with (fail)
 refine lbeg (opsOf Tryz.f76 0) ?_
 refine lbox 0 80 (.tmp 0) (ints .i64 l.zs) q (some 1) hq ?_
 intro w1 b1 be1 hs1
 refine lnow 1 (.bool false) (some 2) ?_
 refine ldn 2 ?_
 have B1 := Lib.hid b1
 have BE : Hid (Below w.heap.size w w1) := by rw [Hid, hq.out]; exact be1
 clear b1 be1 hs1
 generalize hact : Act.put _ (some 2) _ = act
 simp only [Act.put, sA, sC, sZ] at hact
 subst hact
 go_upto_region 1 with (fail)
 refine lbeg (opsOf Tryz.f76 1) ?_
 refine lnow 0 (.pointer (some ⟨q, 0, none⟩)) (some 5) ?_
 refine lcl 1 (.int .i64 l.b) (some 6) 3 5 q 0 B1.out.base Tryz.underlying3 ?_
 refine lcal 2 102 #[.int .i64 l.b] (some 7) _ (inb_walk _ _) ?_
 rintro e w' ⟨rfl, rfl⟩
 obtain ⟨ib, hib⟩ : ∃ x, Hid ((decide (0 ≤ l.b) && decide (l.b ≤ 100)) = x) := ⟨_, rfl⟩
 rw [hib.out]
 refine ⟨_, rfl, ?_⟩
 refine lnow 3 (.bool (!ib)) (some 8) ?_
 refine ldn 4 ?_
 generalize hact : Act.put _ (some 8) _ = act
 simp only [Act.put, sA, sC, sZ] at hact
 subst hact
 cases ib with
 | false =>
  have NO : Hid (rightL l = false) := by rw [Hid, rightL, hib.out, Bool.false_and]
  go_wp2
  go_ret
  exact ⟨bool_eq NO.out.symm, BE.out⟩
 | true =>
  have IB : Hid (0 ≤ l.b ∧ l.b ≤ 100) := by unfold Hid; have := hib.out; simpa using this
  clear hib
  go_upto_region 3 with (fail)
  refine lbeg (opsOf Tryz.f76 3) ?_
  refine lnow 0 (.pointer (some ⟨q, 1, none⟩)) (some 9) ?_
  refine lrl 1 (ints .i64 l.p) (some 10) 78 9 q 1 B1.out.plus Tryz.underlying78 (p4Size HL.out) ?_
  refine lnow 2 (.int .i64 0) (some 11) ?_
  refine ldn 3 ?_
  generalize hact : Act.put _ (some 11) _ = act
  simp only [Act.put, sA, sC, sZ] at hact
  subst hact
  go_wp2
  go_loop [11] (fun iv => ∃ k : Nat, k ≤ 4 ∧ iv = .int .i64 (k : Int) ∧ Hid (∀ i, i < k → -1 ≤ l.p.getD i 0 ∧ l.p.getD i 0 ≤ l.b)) (fun iv => 4 - (intOf iv).toNat)
  case atStart => exact ⟨0, Nat.zero_le _, rfl, fun i hi => by omega⟩
  case round =>
   obtain ⟨k, hk, rfl, hR⟩ := hrel
   by_cases hlt : k < 4
   ·have r1 : (k : Int) < 4 := by omega
    go_upto_region 5 with (fail)
    refine lbeg (opsOf Tryz.f76 5) ?_
    refine lnowP 0 (.int .i64 (l.p.getD k 0)) (some 13) (exec_index 78 3 (.tmp 10) (.tmp 11) (by kernel_rfl) 4 .i64 Tryz.underlying78 Tryz.underlying3 (by kernel_rfl) l.p HL.out (by kernel_rfl) k (by kernel_rfl) hlt) ?_
    refine lnow 1 (.int .i64 (l.p.getD k 0)) (some 4) ?_
    refine ldn 2 ?_
    generalize hact : Act.put _ (some 4) _ = act
    simp only [Act.put, sA, sC, sZ] at hact
    subst hact
    obtain ⟨x, hx⟩ : ∃ x, Hid (l.p.getD k 0 = x) := ⟨_, rfl⟩
    rw [hx.out]
    have c0 := B1.out.base
    obtain ⟨bb, hbb⟩ : ∃ x, Hid (l.b = x) := ⟨_, rfl⟩
    rw [hbb.out] at c0
    have NO : Hid (¬ (-1 ≤ x ∧ x ≤ bb) → rightL l = false) := fun h => by
     rw [Bool.eq_false_iff]
     intro hr
     have := right_at hr (i := k) (by rw [HL.out]; exact hlt)
     rw [hx.out, hbb.out] at this
     exact h this
    by_cases h2 : x < -1
    ·go_wp2
     go_ret
     exact ⟨bool_eq (NO.out (by omega)).symm, BE.out⟩
    ·by_cases h3 : bb < x
     ·go_wp2
      go_ret
      exact ⟨bool_eq (NO.out (by omega)).symm, BE.out⟩
     ·have hR2 : Hid (∀ i, i < k + 1 → -1 ≤ l.p.getD i 0 ∧ l.p.getD i 0 ≤ l.b) := fun i hi => by
       by_cases e : i = k
       ·subst e
        rw [hx.out, hbb.out]
        omega
       ·exact hR.out i (by omega)
      go_wp2
      go_round
      case rel => exact ⟨k + 1, by omega, by go_num, hR2⟩
      case measure => simp [intOf]; omega
   ·have r1 : ¬ (k : Int) < 4 := by omega
    have YES : Hid (rightL l = true) := right_all HL.out IB.out.1 IB.out.2 (fun i hi => hR.out i (by omega))
    go_wp2
    go_ret
    exact ⟨bool_eq YES.out.symm, BE.out⟩
set_option maxHeartbeats 1000000 in
theorem width_walk (l : Lv) (hl : l.p.length = 4) (w : World) : Calls Tryz.prog 77 #[.agg (ints .i64 l.zs).toArray] w fun e w' => e = .returned (.int .i64 (widthL l : Int)) ∧ Below w.heap.size w w' := by
 obtain ⟨q, hq⟩ : ∃ q, Hid (w.heap.size = q) := ⟨_, rfl⟩
 have HL := Lib.hid hl
 clear hl
 go_enter Tryz.func77, Tryz.ntmps77
 go_upto_region 0 with (fail)
 refine lbeg (opsOf Tryz.f77 0) ?_
 refine lbox 0 80 (.tmp 0) (ints .i64 l.zs) q (some 1) hq ?_
 intro w1 b1 be1 hs1
 refine lnow 1 (.int .i64 0) (some 2) ?_
 refine ldn 2 ?_
 have B1 := Lib.hid b1
 have BE : Hid (Below w.heap.size w w1) := by rw [Hid, hq.out]; exact be1
 clear b1 be1 hs1
 generalize hact : Act.put _ (some 2) _ = act
 simp only [Act.put, sA, sC, sZ] at hact
 subst hact
 go_upto_region 2 with (fail)
 refine lbeg (opsOf Tryz.f77 2) ?_
 refine lnow 0 (.pointer (some ⟨q, 1, none⟩)) (some 6) ?_
 refine lrl 1 (ints .i64 l.p) (some 7) 78 6 q 1 B1.out.plus Tryz.underlying78 (p4Size HL.out) ?_
 refine lnow 2 (.int .i64 0) (some 8) ?_
 refine ldn 3 ?_
 generalize hact : Act.put _ (some 8) _ = act
 simp only [Act.put, sA, sC, sZ] at hact
 subst hact
 go_wp2
 go_loop [3, 8] (fun wv iv => ∃ k : Nat, k ≤ 4 ∧ iv = .int .i64 (k : Int) ∧ wv = .int .i64 (widthUp l k : Int)) (fun _ iv => 4 - (intOf iv).toNat)
 case atStart => exact ⟨0, Nat.zero_le _, rfl, rfl⟩
 case round =>
  obtain ⟨k, hk, rfl, rfl⟩ := hrel
  by_cases hlt : k < 4
  ·have r1 : (k : Int) < 4 := by omega
   go_upto_region 4 with (fail)
   refine lbeg (opsOf Tryz.f77 4) ?_
   refine lnow 0 (.int .i64 (k : Int)) (some 10) ?_
   refine lnowP 1 (.int .i64 (l.p.getD k 0)) (some 11) (exec_index 78 3 (.tmp 7) (.tmp 8) (by kernel_rfl) 4 .i64 Tryz.underlying78 Tryz.underlying3 (by kernel_rfl) l.p HL.out (by kernel_rfl) k (by kernel_rfl) hlt) ?_
   refine lnow 2 (.int .i64 (k : Int)) (some 4) ?_
   refine lnow 3 (.int .i64 (l.p.getD k 0)) (some 5) ?_
   refine ldn 4 ?_
   generalize hact : Act.put _ (some 5) _ = act
   simp only [Act.put, sA, sC, sZ] at hact
   subst hact
   obtain ⟨x, hx⟩ : ∃ x, Hid (l.p.getD k 0 = x) := ⟨_, rfl⟩
   rw [hx.out]
   obtain ⟨u, hu⟩ : ∃ x, Hid (widthUp l k = x) := ⟨_, rfl⟩
   rw [hu.out]
   by_cases h2 : x = -1
   ·have e2 : Hid (widthUp l (k + 1) = u) := by rw [Hid, widthUp, hx.out, if_pos h2, hu.out]
    subst h2
    go_wp2
    go_round
    case rel => exact ⟨k + 1, by omega, by go_num, by rw [e2.out]⟩
    case measure => simp [intOf]; omega
   ·have e2 : Hid (widthUp l (k + 1) = k + 1) := by rw [Hid, widthUp, hx.out, if_neg h2]
    go_wp2
    go_round
    case rel => exact ⟨k + 1, by omega, by go_num, by rw [e2.out]; go_num⟩
    case measure => simp [intOf]; omega
  ·have r1 : ¬ (k : Int) < 4 := by omega
   obtain rfl : k = 4 := by omega
   go_wp2
   go_ret
   exact ⟨rfl, BE.out⟩
def z4 : List Int := [0, 0, 0, 0]
def z5 : List Int := [0, 0, 0, 0, 0]
theorem zeroLv : (Tryz.prog.info? 80).map (·.zero) = some (some (.agg (ints .i64 z5).toArray)) := by kernel_rfl
theorem sizeInt : (Tryz.prog.info? 3).map (·.size) = some 1 := by kernel_rfl
def LvsIn (w : World) (v : Value) (ls : List Lv) : Prop :=
 ∃ a cap, v = .slice a ls.length cap ∧ ls.length ≤ cap ∧ ls.length ≤ 140737488355328 ∧ (∀ l ∈ ls, l.p.length = 4) ∧ (0 < ls.length → ∃ pb po, a = some ⟨pb, po, none⟩ ∧ pb < w.heap.size ∧ ∀ (i : Nat) (l : Lv), ls[i]? = some l → w.rangeAt pb (po + 5 * i) (ints .i64 l.zs))
theorem LvsIn.below {B : Nat} {w w' : World} {v : Value} {ls : List Lv} (h : LvsIn w v ls) (hb : Below B w w') (hB : w.heap.size ≤ B) : LvsIn w' v ls := by
 obtain ⟨a, cap, h1, h2, h0, hl, h3⟩ := h
 refine ⟨a, cap, h1, h2, h0, hl, fun hp => ?_⟩
 obtain ⟨pb, po, h4, h5, h6⟩ := h3 hp
 exact ⟨pb, po, h4, Nat.lt_of_lt_of_le h5 hb.size, fun i l hi j u hu => by rw [hb.cell (p := ⟨pb, _, none⟩) (Nat.lt_of_lt_of_le h5 hB)]; exact h6 i l hi j u hu⟩
theorem elemLvs : Tryz.prog.underlying 22 = some (.slice (Tryz.prog.elem 22)) := by kernel_rfl
theorem run_at_lv (B off n cap m : Nat) (hm : m < n) (w : World) : (Instr.indexAt 22 (.slice (some ⟨B, off, none⟩) n cap) (.int .i64 (m : Int))).run Tryz.prog w = .ok (.pointer (some ⟨B, off + 5 * m, none⟩)) w := by
 rw [run_indexAt_slice w 22 _ _ _ _ _ elemLvs]
 have hz : (sizeOf (Tryz.prog.elem 22)).run Tryz.prog w = .ok 5 w := by kernel_rfl
 rw [if_pos (by omega), hz, Result.andThen_ok, Addr.add_mid, Int.toNat_natCast, Nat.mul_comm]
theorem exec_max {P : Program} {a : Act} {w : World} {op : Oper} (ts : Array TypeId) (t : TypeId) (x y : Int) (h : execOp a.eval op = (Builtin.max_ ts t #[.int .i64 x, .int .i64 y] >>= fun x => pure (.value x))) : (execOp a.eval op).run P w = .ok (.value (.int .i64 (max x y))) w := by
 refine exec_of _ _ h ?_
 rw [run_max_int2]
 congr 2
 split <;> omega
end Go.Proofs.YtmceocgddaaohaaGreatDoor
namespace Go.Proofs.YtmceocgddaaohaaGreatDoor
open Go Go.RowKit
set_option maxRecDepth 100000
noncomputable def lvF0 : Field := (Tryz.prog.fieldsOf 80)[0]!
noncomputable def lvF1 : Field := (Tryz.prog.fieldsOf 80)[1]!
theorem lvFs : (Tryz.prog.fieldsOf 80).toList = [lvF0, lvF1] := by kernel_rfl
theorem lvF0n : lvF0.name = "Base" := by kernel_rfl
theorem lvF1n : lvF1.name = "Plus" := by kernel_rfl
theorem lvF0t : lvF0.type = 3 := by kernel_rfl
theorem lvF1t : lvF1.type = 78 := by kernel_rfl
theorem lvF0o : lvF0.offset = 0 := by kernel_rfl
theorem lvF1o : lvF1.offset = 1 := by kernel_rfl
theorem run_part_p {b : Int} {p : List Int} (h : p.length = 4) (w : World) : (part 78 (ints .i64 (b :: p)).toArray 1).run Tryz.prog w = .ok (.agg (ints .i64 p).toArray) w := by
 have hag : (isAgg 78).run Tryz.prog w = .ok true w := by kernel_rfl
 have hz : (sizeOf 78).run Tryz.prog w = .ok 4 w := by kernel_rfl
 unfold part
 simp only [Sem.run_bind, hag, Result.andThen_ok, if_true, hz, Sem.run_pure]
 have e : (ints .i64 (b :: p)).toArray.extract 1 (1 + 4) = (ints .i64 p).toArray :=
  match p, h with
  | [_, _, _, _], _ => rfl
 rw [e]
theorem run_eq_lv {a b : Lv} (ha : a.p.length = 4) (hb : b.p.length = 4) (w : World) : (Op.equalIn 10000 80 (.agg (ints .i64 a.zs).toArray) (.agg (ints .i64 b.zs).toArray)).run Tryz.prog w = .ok (decide (a = b)) w := by
 rw [show (10000 : Nat) = 9999 + 1 from rfl, run_equalIn_struct w 9999 _ _ _ (by kernel_rfl) (by kernel_rfl), lvFs]
 have h1 := run_part_ints w Tryz.underlying3 a.zs 0 (by simp [Lv.zs])
 have h2 := run_part_ints w Tryz.underlying3 b.zs 0 (by simp [Lv.zs])
 have h3 := run_part_p (b := a.b) ha w
 have h4 := run_part_p (b := b.b) hb w
 have h5 := run_equalIn_int w 9998 3 .i64 .i64 a.b b.b Tryz.underlying3
 have h6 : (Op.equalIn 9999 78 (.agg (ints .i64 a.p).toArray) (.agg (ints .i64 b.p).toArray)).run Tryz.prog w = .ok (decide (a.p = b.p)) w := run_equalIn_ints w 9997 Tryz.underlying78 Tryz.underlying3 sizeInt a.p b.p ha hb
 have e1 : a.zs.getD 0 0 = a.b := rfl
 have e2 : b.zs.getD 0 0 = b.b := rfl
 have n0 : lvF0.name ≠ "_" := by rw [lvF0n]; decide
 have n1 : lvF1.name ≠ "_" := by rw [lvF1n]; decide
 rw [e1] at h1
 rw [e2] at h2
 have h5' : (Op.equalIn 9999 3 (.int .i64 a.b) (.int .i64 b.b)).run Tryz.prog w = .ok (a.b == b.b) w := h5
 unfold Op.eqFields
 rw [if_pos n0]
 simp only [Sem.run_bind, lvF0t, lvF0o, h1, h2, Result.andThen_ok, h5']
 cases hq : (a.b == b.b)
 ·rw [if_pos (by rfl)]
  rw [decide_eq_false (fun e => by rw [e] at hq; simp at hq)]
  rfl
 ·have e : a.b = b.b := by simpa using hq
  rw [if_neg (by decide)]
  unfold Op.eqFields
  rw [if_pos n1]
  have h3' : (part 78 (ints .i64 a.zs).toArray 1).run Tryz.prog w = .ok (.agg (ints .i64 a.p).toArray) w := h3
  have h4' : (part 78 (ints .i64 b.zs).toArray 1).run Tryz.prog w = .ok (.agg (ints .i64 b.p).toArray) w := h4
  simp only [Sem.run_bind, lvF1t, lvF1o, h3', h4', Result.andThen_ok, h6]
  by_cases hp : a.p = b.p
  ·rw [decide_eq_true hp, if_neg (by decide)]
   have : a = b := by
    obtain ⟨ab, ap⟩ := a
    obtain ⟨bb, bp⟩ := b
    simp only at e hp
    rw [e, hp]
   rw [decide_eq_true this]
   rfl
  ·rw [decide_eq_false hp, if_pos (by rfl)]
   rw [decide_eq_false (fun e => hp (by rw [e]))]
   rfl
end Go.Proofs.YtmceocgddaaohaaGreatDoor
namespace Go.Proofs.YtmceocgddaaohaaGreatDoor
open Go Go.RowKit
set_option maxRecDepth 100000
section
variable {P : Program} {ops : Array Oper} {Q : Exit → Act → World → Prop} {S : World → Prop} {fuel : Nat} {listed : Array Bool} {a : Act} {w : World}
theorem lin_row (i : Nat) (t : TypeId) (cs : List Value) (q n : Nat) (d : Option Tmp) (hi : (ops[i]?.isSome && Region.wanted (opAt ops i) (yielded ops a.tmps)) = true) (hd : (opAt ops i).dst = d) (hq : Hid (w.heap.size = q))
    (hrun : (execOp a.eval (opAt ops i)).run P w = .ok (.value (.slice (some ⟨w.heap.size, 0, none⟩) n n)) (w.alloc (.cells cs.toArray t)))
    (h : ∀ w', Blk w' q t cs → Below q w w' → Hid (w'.heap.size = q + 1) → wpFrom P ops Q (i + 1) (a.put d (.slice (some ⟨q, 0, none⟩) n n)) w') : wpFrom P ops Q i a w := by
  obtain rfl := hq.out
  exact lin_value i _ d _ hi hd hrun (h _ (Blk.new w t cs) ((Below.refl _ _).alloc (Nat.le_refl _) _) (by unfold Hid; simp))
theorem reg_row (i : Nat) (t : TypeId) (cs : List Value) (q n : Nat) (d : Option Tmp) (hi : (ops[i]?.isSome && (Region.ready .any ops listed == [i]) && Region.wanted (opAt ops i) (yielded ops a.tmps)) = true) (hd : (opAt ops i).dst = d) (hq : Hid (w.heap.size = q))
    (hrun : (execOp a.eval (opAt ops i)).run P w = .ok (.value (.slice (some ⟨w.heap.size, 0, none⟩) n n)) (w.alloc (.cells cs.toArray t)))
    (h : ∀ w', Blk w' q t cs → Below q w w' → Hid (w'.heap.size = q + 1) → S w' ∧ wpAnyH P .any ops Q S fuel (listed.setIfInBounds i true) (a.put d (.slice (some ⟨q, 0, none⟩) n n)) w') : wpAnyH P .any ops Q S (fuel + 1) listed a w := by
  obtain rfl := hq.out
  obtain ⟨h1, h2⟩ := h _ (Blk.new w t cs) ((Below.refl _ _).alloc (Nat.le_refl _) _) (by unfold Hid; simp)
  exact reg_value i _ d _ hi hd hrun h1 h2
end
theorem elemInts : Tryz.prog.underlying 197 = some (.slice (Tryz.prog.elem 197)) := by kernel_rfl
theorem run_at_ints (B off n cap m : Nat) (hm : m < n) (w : World) : (Instr.indexAt 197 (.slice (some ⟨B, off, none⟩) n cap) (.int .i64 (m : Int))).run Tryz.prog w = .ok (.pointer (some ⟨B, off + m, none⟩)) w := by
 rw [run_indexAt_slice w 197 _ _ _ _ _ elemInts]
 have hz : (sizeOf (Tryz.prog.elem 197)).run Tryz.prog w = .ok 1 w := by kernel_rfl
 rw [if_pos (by omega), hz, Result.andThen_ok, Addr.add_mid, Int.toNat_natCast, Nat.mul_one]
theorem plus_cell {w : World} {b : Nat} {t : TypeId} {l : Lv} (h : Blk w b t (ints .i64 l.zs)) (hl : l.p.length = 4) {k : Nat} (hk : k < 4) : w.cell? ⟨b, 1 + k, none⟩ = some (.int .i64 (l.p.getD k 0)) := by
 refine h.plus k _ ?_
 rw [ints_getD (by omega)]
end Go.Proofs.YtmceocgddaaohaaGreatDoor
