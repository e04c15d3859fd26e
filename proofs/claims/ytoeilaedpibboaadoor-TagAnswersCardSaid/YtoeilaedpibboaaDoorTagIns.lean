/- The library's insertion sort over digests, with package tag's order. -/
import Derived.Test.YtoeilaedpibboaaDoorGenB
import Derived.Test.YtoeilaedpibboaaDoorTagCmp
import Derived.Test.YtoeilaedpibboaaDoorShaBlk
import Derived.Test.YtoeilaedpibboaaDoorShaBlocks
namespace Go.Proofs.YtoeilaedpibboaaDoor
open Go.RowKit
set_option maxRecDepth 100000

/-- package tag's Compare, as a value. -/
def cmpV : Value := .func (.func 11) #[] #[]
def okD (ds : List (List Int)) : Prop := ∀ d ∈ ds, d.length = 32 ∧ isBytes d
theorem okD.a {ds : List (List Int)} (h : okD ds) : all32 ds := fun d hd => (h d hd).1
def swp (l : List (List Int)) (j : Nat) : List (List Int) := (l.set (j + 1) (l.getD j [])).set j (l.getD (j + 1) [])
def sink (l : List (List Int)) : Nat → List (List Int)
  | 0 => l
  | j + 1 => if cmpD (l.getD (j + 1) []) (l.getD j []) < 0 then sink (swp l j) j else l
def isortTo (l : List (List Int)) : Nat → List (List Int)
  | 0 => l
  | k + 1 => sink (isortTo l k) (k + 1)
theorem getD_mem {ds : List (List Int)} {j : Nat} (hj : j < ds.length) : ds[j]? = some (ds.getD j []) := by
  simp [List.getD_eq_getElem?_getD, hj]
theorem okD.get {ds : List (List Int)} (h : okD ds) {j : Nat} (hj : j < ds.length) : (ds.getD j []).length = 32 ∧ isBytes (ds.getD j []) :=
  h _ (List.mem_of_getElem? (getD_mem hj))
theorem okD.set {ds : List (List Int)} (h : okD ds) (j : Nat) {x : List Int} (hx : x.length = 32 ∧ isBytes x) : okD (ds.set j x) := fun d hd => by
  rcases List.mem_or_eq_of_mem_set hd with h1 | h1
  · exact h d h1
  · rw [h1]; exact hx
theorem swp_length (l : List (List Int)) (j : Nat) : (swp l j).length = l.length := by simp [swp]
theorem okD.swp {l : List (List Int)} (h : okD l) {j : Nat} (hj : j + 1 < l.length) : okD (swp l j) := (h.set _ (h.get (by omega))).set _ (h.get hj)
theorem sink_length (l : List (List Int)) (j : Nat) : (sink l j).length = l.length := by
  induction j generalizing l with
  | zero => rfl
  | succ j ih => unfold sink; split; rw [ih, swp_length]; rfl
theorem okD.sink {l : List (List Int)} (h : okD l) (j : Nat) (hj : j < l.length) : okD (sink l j) := by
  induction j generalizing l with
  | zero => exact h
  | succ j ih => unfold Proofs.YtoeilaedpibboaaDoor.sink; split; exact ih (h.swp hj) (by rw [swp_length]; omega); exact h
theorem isortTo_length (l : List (List Int)) (k : Nat) : (isortTo l k).length = l.length := by
  induction k with
  | zero => rfl
  | succ k ih => rw [isortTo, sink_length, ih]
theorem okD.isortTo {l : List (List Int)} (h : okD l) (k : Nat) (hk : k = 0 ∨ k < l.length) : okD (isortTo l k) := by
  induction k with
  | zero => exact h
  | succ k ih => exact (ih (by omega)).sink _ (by rw [isortTo_length]; omega)
theorem elemDigests : Tryd.prog.underlying 22 = some (.slice (Tryd.prog.elem 22)) := by kernel_rfl
theorem run_at_digest (D off n cap m : Nat) (hm : m < n) (w : World) : (Instr.indexAt 22 (.slice (some ⟨D, off, none⟩) n cap) (.int .i64 (m : Int))).run Tryd.prog w = .ok (.pointer (some ⟨D, off + 32 * m, none⟩)) w := by
  rw [run_indexAt_slice w 22 _ _ _ _ _ elemDigests]
  have hz : (sizeOf (Tryd.prog.elem 22)).run Tryd.prog w = .ok 32 w := by kernel_rfl
  rw [if_pos (by omega), hz, Result.andThen_ok, Addr.add_mid, Int.toNat_natCast, Nat.mul_comm]
theorem sizeDigest : (Tryd.prog.info? 24).map (·.size) = some 32 := by kernel_rfl

/-- The two operations that may come up give values and leave the world alone: in whichever order. -/
theorem reg_pair {P : Program} {ops : Array Oper} {Q : Exit → Act → World → Prop} {S : World → Prop} {fuel : Nat} {listed : Array Bool} {a : Act} {w : World} (i j : Nat) (vi vj : Value) (di dj : Option Tmp) (hS : S w)
    (hi : (ops[i]?.isSome && ops[j]?.isSome && (Region.ready .any ops listed == [i, j]) && (Region.ready .any ops (listed.setIfInBounds i true) == [j]) && (Region.ready .any ops (listed.setIfInBounds j true) == [i]) && (opAt ops i).guard.isNone && (opAt ops j).guard.isNone) = true) (hij : i ≠ j)
    (hdi : (opAt ops i).dst = di) (hdj : (opAt ops j).dst = dj)
    (h1 : (execOp a.eval (opAt ops i)).run P w = .ok (.value vi) w) (h2 : (execOp (a.put di vi).eval (opAt ops j)).run P w = .ok (.value vj) w)
    (h3 : (execOp a.eval (opAt ops j)).run P w = .ok (.value vj) w) (h4 : (execOp (a.put dj vj).eval (opAt ops i)).run P w = .ok (.value vi) w) (hne : ∀ d, dj = some d → di ≠ some d)
    (h : wpAnyH P .any ops Q S fuel ((listed.setIfInBounds i true).setIfInBounds j true) ((a.put di vi).put dj vj) w) : wpAnyH P .any ops Q S (fuel + 2) listed a w := by
  simp only [Bool.and_eq_true, beq_iff_eq] at hi
  obtain ⟨⟨⟨⟨⟨⟨g1, g2⟩, g3⟩, g4⟩, g5⟩, g6⟩, g7⟩ := hi
  have wi : ∀ y, Region.wanted (opAt ops i) y = true := fun y => by simp [Region.wanted, Option.isNone_iff_eq_none.1 g6]
  have wj : ∀ y, Region.wanted (opAt ops j) y = true := fun y => by simp [Region.wanted, Option.isNone_iff_eq_none.1 g7]
  subst hdi
  subst hdj
  refine wpAnyH_two g3 (wpOp_value vi (get_opAt g1) (wi _) h1 ⟨hS, wpAnyH_one g4 (wpOp_value vj (get_opAt g2) (wj _) h2 ⟨hS, h⟩)⟩) (wpOp_value vj (get_opAt g2) (wj _) h3 ⟨hS, wpAnyH_one g5 (wpOp_value vi (get_opAt g1) (wi _) h4 ⟨hS, ?_⟩)⟩)
  rw [Act.put_comm a vj vi hne, Array.setIfInBounds_comm _ _ (Ne.symm hij)]
  exact h
structure Sg (D : Nat) (l : List (List Int)) (rest : List Value) (w wr : World) : Prop where
  d : Dg wr D 24 l rest
  u : Upd D w wr
theorem Sg.next {D : Nat} {l : List (List Int)} {rest : List Value} {w w1 w2 : World} (h : Sg D l rest w w1) (hb : Below w1.heap.size w1 w2) : Sg D l rest w w2 :=
  ⟨h.d.below hb (Blk.lt h.d), h.u.trans (Upd.of_below hb (Nat.le_refl _))⟩
set_option maxHeartbeats 1000000 in
theorem insort_walk (D n cap : Nat) (ds : List (List Int)) (rest : List Value) (hn : ds.length = n) (hok : okD ds) (hn' : n ≤ 1000) (w : World) (hD : Dg w D 24 ds rest) :
    Calls Tryd.prog 48 #[.slice (some ⟨D, 0, none⟩) n cap, .int .i64 0, .int .i64 (n : Int), cmpV] w fun e w' => e = .returned (.tuple #[]) ∧ Sg D (isortTo ds (n - 1)) rest w w' := by
  have HD := Lib.hid hD
  have HOK := Lib.hid hok
  have HN := Lib.hid hn
  clear hD hok hn
  go_enter Tryd.func48, Tryd.ntmps48
  go_wp2
  go_loopw [8] (fun i wr => ∃ k : Nat, k ≤ n - 1 ∧ i = .int .i64 ((k + 1 : Nat) : Int) ∧ Sg D (isortTo ds k) rest w wr) (fun i _ => n + 1 - (intOf i).toNat)
  case atStart => exact ⟨0, by omega, rfl, HD.out, Upd.refl _ _⟩
  case round =>
    obtain ⟨k, hk, rfl, hS⟩ := hrel
    obtain ⟨k1, hk1⟩ : ∃ k1, Hid (k1 = k + 1) := ⟨_, rfl⟩
    rw [← hk1.out]
    by_cases hlt : k1 < n
    · have q1 : (k1 : Int) < (n : Int) := by omega
      have hok2 : Hid (okD (isortTo ds k)) := HOK.out.isortTo k (by rw [HN.out]; omega)
      have hl2 : Hid ((isortTo ds k).length = n) := by unfold Hid; rw [isortTo_length, HN.out]
      have HS := Lib.hid hS
      have HSK : Hid (sink (isortTo ds k) k1 = isortTo ds k1) := by unfold Hid; rw [hk1.out]; rfl
      clear hS
      generalize isortTo ds k = l0 at *
      go_wp2
      go_loopw [9] (fun j wr => ∃ (m : Nat) (l : List (List Int)), m < n ∧ j = .int .i64 (m : Int) ∧ okD l ∧ l.length = n ∧ sink l m = isortTo ds k1 ∧ Sg D l rest w wr) (fun j _ => (intOf j).toNat)
      case atStart => exact ⟨k1, l0, hlt, rfl, hok2.out, hl2.out, HSK.out, HS.out⟩
      case round =>
        obtain ⟨m, l, hm, rfl, hokl, hll, hsk, hS⟩ := hrel
        clear HS HSK hok2 hl2
        have HOKL := Lib.hid hokl
        have HLL := Lib.hid hll
        have HSK := Lib.hid hsk
        clear hokl hll hsk
        cases m with
        | zero =>
          go_wp2_with fail
          refine region_begin (opsOf Tryd.f48 4) (Sg D l rest w) (by kernel_rfl) (by kernel_rfl) 17 (by kernel_rfl) ?_
          intro Q' hQ hN
          have hS1 : Sg D l rest w wr.drew := hS.next (Below.refl _ _).drew
          clear hS
          generalize wr.drew = w1 at hS1 ⊢
          refine reg_now 0 (.int .i64 0) (some 18) hQ hS1 (by kernel_rfl) (by kernel_rfl) (fun w => by kernel_rfl) ?_
          refine reg_now 1 (.int .i64 0) (some 19) hQ hS1 (by kernel_rfl) (by kernel_rfl) (fun w => by kernel_rfl) ?_
          refine reg_now 2 (.bool false) (some 20) hQ hS1 (by kernel_rfl) (by kernel_rfl) (fun w => by kernel_rfl) ?_
          refine reg_now 3 (.bool false) (some 21) hQ hS1 (by kernel_rfl) (by kernel_rfl) (fun w => by kernel_rfl) ?_
          refine reg_pass 4 (some 22) hQ hS1 (by kernel_rfl) (by kernel_rfl) ?_
          refine reg_pass 5 (some 23) hQ hS1 (by kernel_rfl) (by kernel_rfl) ?_
          refine reg_pass 6 (some 24) hQ hS1 (by kernel_rfl) (by kernel_rfl) ?_
          refine reg_pass 7 (some 25) hQ hS1 (by kernel_rfl) (by kernel_rfl) ?_
          refine reg_pass 8 (some 26) hQ hS1 (by kernel_rfl) (by kernel_rfl) ?_
          refine reg_pass 9 (some 27) hQ hS1 (by kernel_rfl) (by kernel_rfl) ?_
          refine reg_pass 10 (some 28) hQ hS1 (by kernel_rfl) (by kernel_rfl) ?_
          refine reg_pass 11 (some 29) hQ hS1 (by kernel_rfl) (by kernel_rfl) ?_
          refine reg_pass 12 (some 30) hQ hS1 (by kernel_rfl) (by kernel_rfl) ?_
          refine reg_pass 13 (some 31) hQ hS1 (by kernel_rfl) (by kernel_rfl) ?_
          refine reg_pass 14 (some 32) hQ hS1 (by kernel_rfl) (by kernel_rfl) ?_
          refine reg_pass 15 (some 33) hQ hS1 (by kernel_rfl) (by kernel_rfl) ?_
          refine reg_now 16 (.bool false) (some 34) hQ hS1 (by kernel_rfl) (by kernel_rfl) (fun w => by kernel_rfl) ?_
          refine reg_done (by kernel_rfl) (hN _ _ ?_)
          have HS1 := Lib.hid hS1
          clear hS1 hQ hN
          generalize hact : Act.put _ (some 34) (.bool false) = act
          simp only [Act.put, List.setIfInBounds_toArray, List.set_cons_succ, List.set_cons_zero] at hact
          subst hact
          go_wp2
          refine ⟨⟨k1, by omega, by go_num, ?_⟩, by simp [intOf]; omega⟩
          rw [← HSK.out]
          exact HS1.out
        | succ m =>
          obtain ⟨x, hx⟩ : ∃ x, Hid (l.getD (m + 1) [] = x) := ⟨_, rfl⟩
          obtain ⟨y, hy⟩ : ∃ y, Hid (l.getD m [] = y) := ⟨_, rfl⟩
          have gx : Hid (l[m + 1]? = some x) := by unfold Hid; rw [← hx.out]; exact getD_mem (by rw [HLL.out]; omega)
          have gy : Hid (l[m]? = some y) := by unfold Hid; rw [← hy.out]; exact getD_mem (by rw [HLL.out]; omega)
          have okx : Hid (x.length = 32 ∧ isBytes x) := by unfold Hid; rw [← hx.out]; exact HOKL.out.get (by rw [HLL.out]; omega)
          have oky : Hid (y.length = 32 ∧ isBytes y) := by unfold Hid; rw [← hy.out]; exact HOKL.out.get (by rw [HLL.out]; omega)
          have hix : Hid ((Tryd.prog.info? 24).map (·.size) = some (ints .u8 x).length) := by unfold Hid; rw [ints_length, okx.out.1]; exact sizeDigest
          have hiy : Hid ((Tryd.prog.info? 24).map (·.size) = some (ints .u8 y).length) := by unfold Hid; rw [ints_length, oky.out.1]; exact sizeDigest
          have hsk2 : Hid ((if cmpD x y < 0 then sink (swp l m) m else l) = isortTo ds k1) := by
            have := HSK.out
            rw [sink, hx.out, hy.out] at this
            exact this
          have a1 := Lib.hid (run_at_digest D 0 n cap (m + 1) hm)
          have a0 := Lib.hid (run_at_digest D 0 n cap m (by omega))
          rw [Nat.zero_add] at a1 a0
          clear HSK hx hy
          go_wp2_with fail
          refine region_begin (opsOf Tryd.f48 4) (Sg D l rest w) (by kernel_rfl) (by kernel_rfl) 17 (by kernel_rfl) ?_
          intro Q' hQ hN
          have hS1 : Sg D l rest w wr.drew := hS.next (Below.refl _ _).drew
          clear hS
          generalize wr.drew = w1 at hS1 ⊢
          refine reg_now 0 (.int .i64 ((m + 1 : Nat) : Int)) (some 18) hQ hS1 (by kernel_rfl) (by kernel_rfl) (fun w => by kernel_rfl) ?_
          refine reg_now 1 (.int .i64 0) (some 19) hQ hS1 (by kernel_rfl) (by kernel_rfl) (fun w => by kernel_rfl) ?_
          refine reg_now 2 (.bool (decide ((0 : Int) < ((m + 1 : Nat) : Int)))) (some 20) hQ hS1 (by kernel_rfl) (by kernel_rfl) (fun w => by kernel_rfl) ?_
          rw [show decide ((0 : Int) < ((m + 1 : Nat) : Int)) = true from decide_eq_true (by omega)]
          refine reg_now 3 (.bool true) (some 21) hQ hS1 (by kernel_rfl) (by kernel_rfl) (fun w => by kernel_rfl) ?_
          refine reg_now 4 cmpV (some 22) hQ hS1 (by kernel_rfl) (by kernel_rfl) (fun w => by kernel_rfl) ?_
          refine reg_now 5 (.slice (some ⟨D, 0, none⟩) n cap) (some 23) hQ hS1 (by kernel_rfl) (by kernel_rfl) (fun w => by kernel_rfl) ?_
          refine reg_now 6 (.int .i64 ((m + 1 : Nat) : Int)) (some 24) hQ hS1 (by kernel_rfl) (by kernel_rfl) (fun w => by kernel_rfl) ?_
          refine reg_now 7 (.pointer (some ⟨D, 32 * (m + 1), none⟩)) (some 25) hQ hS1 (by kernel_rfl) (by kernel_rfl) (fun w => exec_indexAt 22 (.tmp 23) (.tmp 24) (by kernel_rfl) _ _ _ (by kernel_rfl) (by kernel_rfl) (a1.out w)) ?_
          refine reg_nowIf 8 (.agg (ints .u8 x).toArray) (some 26) hQ hS1 (by kernel_rfl) (by kernel_rfl) (fun w' hw => exec_load_mid 24 (.tmp 25) (by kernel_rfl) D (32 * (m + 1)) (by kernel_rfl) (ints .u8 x) _ (hw.d.range HOKL.out.a gx.out) Tryd.underlying24 rfl hix.out) ?_
          refine reg_now 9 (.slice (some ⟨D, 0, none⟩) n cap) (some 27) hQ hS1 (by kernel_rfl) (by kernel_rfl) (fun w => by kernel_rfl) ?_
          refine reg_now 10 (.int .i64 ((m + 1 : Nat) : Int)) (some 28) hQ hS1 (by kernel_rfl) (by kernel_rfl) (fun w => by kernel_rfl) ?_
          refine reg_now 11 (.int .i64 (IntKind.i64.wrap (((m + 1 : Nat) : Int) - 1))) (some 29) hQ hS1 (by kernel_rfl) (by kernel_rfl) (fun w => by kernel_rfl) ?_
          rw [show IntKind.i64.wrap (((m + 1 : Nat) : Int) - 1) = (m : Int) by rw [IntWalk.i64_in _ (by omega)]; omega]
          refine reg_now 12 (.pointer (some ⟨D, 32 * m, none⟩)) (some 30) hQ hS1 (by kernel_rfl) (by kernel_rfl) (fun w => exec_indexAt 22 (.tmp 27) (.tmp 29) (by kernel_rfl) _ _ _ (by kernel_rfl) (by kernel_rfl) (a0.out w)) ?_
          refine reg_nowIf 13 (.agg (ints .u8 y).toArray) (some 31) hQ hS1 (by kernel_rfl) (by kernel_rfl) (fun w' hw => exec_load_mid 24 (.tmp 30) (by kernel_rfl) D (32 * m) (by kernel_rfl) (ints .u8 y) _ (hw.d.range HOKL.out.a gy.out) Tryd.underlying24 rfl hiy.out) ?_
          refine reg_call 14 11 #[.agg (ints .u8 x).toArray, .agg (ints .u8 y).toArray] (some 32) _ (by kernel_rfl) (by kernel_rfl) (by kernel_rfl) (tcompare_walk x y okx.out.1 oky.out.1 okx.out.2 oky.out.2 w1) ?_
          rintro e w2 ⟨rfl, hb2⟩
          have hS2 := hS1.next hb2
          refine ⟨_, rfl, hS2, ?_⟩
          clear hb2
          refine reg_now 15 (.bool (decide (cmpD x y < 0))) (some 33) hQ hS2 (by kernel_rfl) (by kernel_rfl) (fun w => by kernel_rfl) ?_
          refine reg_now 16 (.bool (decide (cmpD x y < 0))) (some 34) hQ hS2 (by kernel_rfl) (by kernel_rfl) (fun w => by kernel_rfl) ?_
          refine reg_done (by kernel_rfl) (hN _ _ ?_)
          have HS2 := Lib.hid hS2
          clear hS1 hS2 hQ hN
          generalize hact : Act.put _ (some 34) (.bool (decide (cmpD x y < 0))) = act
          simp only [Act.put, List.setIfInBounds_toArray, List.set_cons_succ, List.set_cons_zero] at hact
          subst hact
          by_cases hc : cmpD x y < 0
          · rw [decide_eq_true hc]
            have hsk3 : Hid (sink (swp l m) m = isortTo ds k1) := by have := hsk2.out; rw [if_pos hc] at this; exact this
            clear hsk2 hc
            generalize cmpD x y = cxy at *
            go_wp2_with fail
            refine region_begin (opsOf Tryd.f48 6) (fun _ => True) (by kernel_rfl) (by kernel_rfl) 18 (by kernel_rfl) ?_
            intro Q' hQ hN
            have hS3 := HS2.out.next (Below.refl _ _).drew
            clear HS2
            generalize w2.drew = w3 at hS3 ⊢
            refine reg_now 0 (.slice (some ⟨D, 0, none⟩) n cap) (some 37) hQ trivial (by kernel_rfl) (by kernel_rfl) (fun w => by kernel_rfl) ?_
            refine reg_now 1 (.int .i64 ((m + 1 : Nat) : Int)) (some 38) hQ trivial (by kernel_rfl) (by kernel_rfl) (fun w => by kernel_rfl) ?_
            refine reg_now 2 (.slice (some ⟨D, 0, none⟩) n cap) (some 39) hQ trivial (by kernel_rfl) (by kernel_rfl) (fun w => by kernel_rfl) ?_
            refine reg_now 3 (.int .i64 ((m + 1 : Nat) : Int)) (some 40) hQ trivial (by kernel_rfl) (by kernel_rfl) (fun w => by kernel_rfl) ?_
            refine reg_now 4 (.int .i64 (IntKind.i64.wrap (((m + 1 : Nat) : Int) - 1))) (some 41) hQ trivial (by kernel_rfl) (by kernel_rfl) (fun w => by kernel_rfl) ?_
            rw [show IntKind.i64.wrap (((m + 1 : Nat) : Int) - 1) = (m : Int) by rw [IntWalk.i64_in _ (by omega)]; omega]
            refine reg_now 5 (.slice (some ⟨D, 0, none⟩) n cap) (some 42) hQ trivial (by kernel_rfl) (by kernel_rfl) (fun w => by kernel_rfl) ?_
            refine reg_now 6 (.int .i64 ((m + 1 : Nat) : Int)) (some 43) hQ trivial (by kernel_rfl) (by kernel_rfl) (fun w => by kernel_rfl) ?_
            refine reg_now 7 (.int .i64 (IntKind.i64.wrap (((m + 1 : Nat) : Int) - 1))) (some 44) hQ trivial (by kernel_rfl) (by kernel_rfl) (fun w => by kernel_rfl) ?_
            rw [show IntKind.i64.wrap (((m + 1 : Nat) : Int) - 1) = (m : Int) by rw [IntWalk.i64_in _ (by omega)]; omega]
            refine reg_now 8 (.pointer (some ⟨D, 32 * m, none⟩)) (some 45) hQ trivial (by kernel_rfl) (by kernel_rfl) (fun w => exec_indexAt 22 (.tmp 42) (.tmp 44) (by kernel_rfl) _ _ _ (by kernel_rfl) (by kernel_rfl) (a0.out w)) ?_
            refine reg_now 10 (.slice (some ⟨D, 0, none⟩) n cap) (some 47) hQ trivial (by kernel_rfl) (by kernel_rfl) (fun w => by kernel_rfl) ?_
            refine reg_now 11 (.int .i64 ((m + 1 : Nat) : Int)) (some 48) hQ trivial (by kernel_rfl) (by kernel_rfl) (fun w => by kernel_rfl) ?_
            refine reg_now 12 (.pointer (some ⟨D, 32 * (m + 1), none⟩)) (some 49) hQ trivial (by kernel_rfl) (by kernel_rfl) (fun w => exec_indexAt 22 (.tmp 47) (.tmp 48) (by kernel_rfl) _ _ _ (by kernel_rfl) (by kernel_rfl) (a1.out w)) ?_
            refine reg_pair 9 13 (.agg (ints .u8 y).toArray) (.agg (ints .u8 x).toArray) (some 46) (some 50) trivial (by kernel_rfl) (by decide) (by kernel_rfl) (by kernel_rfl)
              (exec_load_mid 24 (.tmp 45) (by kernel_rfl) D (32 * m) (by kernel_rfl) (ints .u8 y) _ (hS3.d.range HOKL.out.a gy.out) Tryd.underlying24 rfl hiy.out)
              (exec_load_mid 24 (.tmp 49) (by kernel_rfl) D (32 * (m + 1)) (by kernel_rfl) (ints .u8 x) _ (hS3.d.range HOKL.out.a gx.out) Tryd.underlying24 rfl hix.out)
              (exec_load_mid 24 (.tmp 49) (by kernel_rfl) D (32 * (m + 1)) (by kernel_rfl) (ints .u8 x) _ (hS3.d.range HOKL.out.a gx.out) Tryd.underlying24 rfl hix.out)
              (exec_load_mid 24 (.tmp 45) (by kernel_rfl) D (32 * m) (by kernel_rfl) (ints .u8 y) _ (hS3.d.range HOKL.out.a gy.out) Tryd.underlying24 rfl hiy.out) (fun d h1 h2 => by cases h1; cases h2) ?_
            refine reg_now 14 (.pointer (some ⟨D, 32 * (m + 1), none⟩)) (some 51) hQ trivial (by kernel_rfl) (by kernel_rfl) (fun w => exec_indexAt 22 (.tmp 37) (.tmp 38) (by kernel_rfl) _ _ _ (by kernel_rfl) (by kernel_rfl) (a1.out w)) ?_
            have hl1 : m + 1 < l.length := by rw [HLL.out]; exact hm
            have hth := hS3.d.there HOKL.out.a hl1
            have hS4 := hS3.d.store HOKL.out.a hl1 y oky.out.1
            have hU4 := hS3.u.setCells (ints .u8 y) (32 * (m + 1))
            refine reg_store 15 (w3.setCells D (32 * (m + 1)) (ints .u8 y)) (by kernel_rfl) (by kernel_rfl) (exec_store_mid 24 (.tmp 51) (.tmp 46) (by kernel_rfl) D (32 * (m + 1)) (ints .u8 y) (by kernel_rfl) (by kernel_rfl) (by rw [ints_length, oky.out.1]; exact hth) hiy.out (ints_oneCell _ _)) trivial ?_
            generalize w3.setCells D (32 * (m + 1)) (ints .u8 y) = w4 at hS4 hU4 ⊢
            refine reg_now 16 (.pointer (some ⟨D, 32 * m, none⟩)) (some 52) hQ trivial (by kernel_rfl) (by kernel_rfl) (fun w => exec_indexAt 22 (.tmp 39) (.tmp 41) (by kernel_rfl) _ _ _ (by kernel_rfl) (by kernel_rfl) (a0.out w)) ?_
            have hok4 : okD (l.set (m + 1) y) := HOKL.out.set _ oky.out
            have hl4 : m < (l.set (m + 1) y).length := by rw [List.length_set]; omega
            have hth4 := hS4.there hok4.a hl4
            have hS5 := hS4.store hok4.a hl4 x okx.out.1
            have hU5 := hU4.setCells (ints .u8 x) (32 * m)
            refine reg_store 17 (w4.setCells D (32 * m) (ints .u8 x)) (by kernel_rfl) (by kernel_rfl) (exec_store_mid 24 (.tmp 52) (.tmp 50) (by kernel_rfl) D (32 * m) (ints .u8 x) (by kernel_rfl) (by kernel_rfl) (by rw [ints_length, okx.out.1]; exact hth4) hix.out (ints_oneCell _ _)) trivial ?_
            generalize w4.setCells D (32 * m) (ints .u8 x) = w5 at hS5 hU5 ⊢
            refine reg_done (by kernel_rfl) (hN _ _ ?_)
            have HS5 : Hid (Sg D (swp l m) rest w w5) := by
              have e : swp l m = (l.set (m + 1) y).set m x := by
                have h1 := gx.out
                have h2 := gy.out
                simp only [swp, List.getD_eq_getElem?_getD, h1, h2, Option.getD_some]
              unfold Hid; rw [e]; exact ⟨hS5, hU5⟩
            have HOK5 : Hid (okD (swp l m)) := HOKL.out.swp (by rw [HLL.out]; exact hm)
            clear hQ hN hS3 hS4 hS5 hU4 hU5 hth hth4 hl1 hl4 hok4
            generalize hact : Act.put _ none undef = act
            simp only [Act.put, List.setIfInBounds_toArray, List.set_cons_succ, List.set_cons_zero] at hact
            subst hact
            clear HOKL gx gy okx oky hix hiy a1 a0
            generalize ints .u8 x = vx
            generalize ints .u8 y = vy
            go_wp2
            refine ⟨⟨m, swp l m, by omega, by go_num, HOK5.out, by rw [swp_length]; exact HLL.out, hsk3.out, HS5.out⟩, by simp [intOf]⟩
          · rw [decide_eq_false hc]
            have hsk3 : Hid (l = isortTo ds k1) := by have := hsk2.out; rw [if_neg hc] at this; exact this
            clear hsk2 hc
            generalize cmpD x y = cxy at *
            go_wp2
            refine ⟨⟨k1, by omega, by go_num, ?_⟩, by simp [intOf]; omega⟩
            rw [← hsk3.out]
            exact HS2.out
    · have HS : Hid (Sg D (isortTo ds (n - 1)) rest w wr) := by
        have e : k = n - 1 := by have := hk1.out; omega
        rw [e] at hS; exact hS
      have q1 : ¬ (k1 : Int) < (n : Int) := by omega
      clear hS
      go_wp2
      go_end0
      exact ⟨rfl, HS.out⟩
end Go.Proofs.YtoeilaedpibboaaDoor
