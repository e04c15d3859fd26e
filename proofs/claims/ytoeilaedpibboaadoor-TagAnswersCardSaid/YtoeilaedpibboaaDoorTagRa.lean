/- The document's Compare and Sort of digests. -/
import Derived.Test.YtoeilaedpibboaaDoorTagStM
import Derived.Test.YtoeilaedpibboaaDoorTagRfr
import Derived.Maps.AppendAt
namespace Go.Proofs.YtoeilaedpibboaaDoor
open Go Go.RowKit
set_option maxRecDepth 100000

theorem cmpD_cons2 (a b : Int) (al bl : List Int) : cmpD (a :: al) (b :: bl) = if a < b then -1 else if b < a then 1 else cmpD al bl := rfl
theorem cmpD_at : ∀ (k : Nat) (a b : List Int) (x y : Int), a.take k = b.take k → a[k]? = some x → b[k]? = some y → (x < y → cmpD a b = -1) ∧ (y < x → cmpD a b = 1)
  | 0, x0 :: a, y0 :: b, x, y, _, h1, h2 => by
    have e1 : x0 = x := by simpa using h1
    have e2 : y0 = y := by simpa using h2
    subst e1 e2
    rw [cmpD_cons2]
    exact ⟨fun h => if_pos h, fun h => by rw [if_neg (by omega), if_pos h]⟩
  | k + 1, x0 :: a, y0 :: b, x, y, h0, h1, h2 => by
    rw [List.take_succ_cons, List.take_succ_cons] at h0
    obtain ⟨e0, e1⟩ := List.cons.inj h0
    subst e0
    rw [cmpD_cons2, if_neg (by omega), if_neg (by omega)]
    exact cmpD_at k a b x y e1 (by simpa using h1) (by simpa using h2)
  | _, [], _, _, _, _, h1, _ => by simp at h1
  | _, _ :: _, [], _, _, _, _, h2 => by simp at h2
theorem run_at_dgB (g o p : Nat) (hp : p < 32) (w : World) : (Instr.indexAt 24 (.pointer (some ⟨g, o, none⟩)) (.int .i64 (p : Int))).run Tryd.prog w = .ok (.pointer (some ⟨g, o + p, none⟩)) w := by
  have hz : (sizeOf (Tryd.prog.elem 24)).run Tryd.prog w = .ok 1 w := by kernel_rfl
  have hA : Tryd.prog.arrayLen 24 = 32 := by kernel_rfl
  have ht : Tryd.prog.underlying 24 = some (.array (Tryd.prog.arrayLen 24) (Tryd.prog.elem 24)) := by kernel_rfl
  rw [run_indexAt_array w 24 _ _ _ ht, if_pos (by rw [hA]; omega), hz, Result.andThen_ok, Addr.add_mid, Int.toNat_natCast, Nat.mul_one]
theorem takeN2 {a b : List Int} {k : Nat} {x : Int} (h : a.take k = b.take k) (h1 : a[k]? = some x) (h2 : b[k]? = some x) : a.take (k + 1) = b.take (k + 1) := by
  rw [List.take_add_one, List.take_add_one, h, h1, h2]
set_option maxHeartbeats 1000000 in
theorem rcompare_walk (xs ys : List Int) (hx : xs.length = 32) (hy : ys.length = 32) (bx : isBytes xs) (by' : isBytes ys) (w : World) :
    Calls Tryd.prog 12 #[.agg (ints .u8 xs).toArray, .agg (ints .u8 ys).toArray] w fun e w' => e = .returned (.int .i64 (cmpD xs ys)) ∧ Below w.heap.size w w' := by
  obtain ⟨q, hq⟩ : ∃ q, Hid (w.heap.size = q) := ⟨_, rfl⟩
  have HX := Lib.hid hx
  have HY := Lib.hid hy
  have BX := Lib.hid bx
  have BY := Lib.hid by'
  clear hx hy bx by'
  rw [hq.out]
  go_enter Tryd.func12, Tryd.ntmps12
  go_upto_region 0 with (fail)
  refine lin_begin (opsOf Tryd.f12 0) (by kernel_rfl) ?_
  refine lin_box 0 24 (.tmp 0) (ints .u8 xs) (q) (some 2) (by kernel_rfl) (by kernel_rfl) (by kernel_rfl) (by kernel_rfl) hq ?_
  intro w1 b1 be1 hs1
  refine lin_box 1 24 (.tmp 1) (ints .u8 ys) (q + 1) (some 3) (by kernel_rfl) (by kernel_rfl) (by kernel_rfl) (by kernel_rfl) hs1 ?_
  intro w2 b2 be2 hs2
  refine lnow 2 (.int .i64 0) (some 4) ?_
  refine lin_done 3 (by kernel_rfl) ?_
  generalize hact : Act.put _ (some 4) _ = act
  simp only [Act.put, List.setIfInBounds_toArray, List.set_cons_succ, List.set_cons_zero] at hact
  subst hact
  have b1' := b1.below be2 (by omega)
  have S2 : Hid (Blk w2 q 24 (ints .u8 xs) ∧ Blk w2 (q + 1) 24 (ints .u8 ys) ∧ Below q w w2 ∧ w2.heap.size = q + 1 + 1) := ⟨b1', b2, be1.trans (be2.mono (by omega)), hs2.out⟩
  clear b1 b1' b2 be1 be2 hs1 hs2
  go_upto_region 1 with (fail)
  refine lin_begin (opsOf Tryd.f12 1) (by kernel_rfl) ?_
  refine lnow 0 (.int .i64 0) (some 5) ?_
  refine lin_done 1 (by kernel_rfl) ?_
  generalize hact : Act.put _ (some 5) _ = act
  simp only [Act.put, List.setIfInBounds_toArray, List.set_cons_succ, List.set_cons_zero] at hact
  subst hact
  go_wp2
  go_loopw [5] (fun kv wr => ∃ k : Nat, k ≤ 32 ∧ kv = .int .i64 (k : Int) ∧ Hid (xs.take k = ys.take k) ∧ Hid (Below w2.heap.size w2 wr)) (fun kv _ => 32 - (intOf kv).toNat)
  case atStart => exact ⟨0, Nat.zero_le _, rfl, rfl, Below.refl _ _⟩
  case round =>
    obtain ⟨k, hk, rfl, TK, BR⟩ := hrel
    have FIN : Hid (Below q w wr) := S2.out.2.2.1.trans (BR.out.mono (by have := S2.out.2.2.2; omega))
    by_cases hlt : (k : Int) < 32
    rotate_left
    · skip
      go_upto_region 2 with (fail)
      refine lin_begin (opsOf Tryd.f12 2) (by kernel_rfl) ?_
      refine lnow 0 (.int .i64 (k : Int)) (some 6) ?_
      refine lnow 1 (.bool (decide ((k : Int) < 32))) (some 7) ?_
      rw [decide_eq_false (hlt)]
      refine lin_done 2 (by kernel_rfl) ?_
      generalize hact : Act.put _ (some 7) _ = act
      simp only [Act.put, List.setIfInBounds_toArray, List.set_cons_succ, List.set_cons_zero] at hact
      subst hact
      have CZ : Hid (cmpD xs ys = 0) := by rw [Hid, cmpD_eq]; have h := TK.out; rwa [List.take_of_length_le (by rw [HX.out]; omega), List.take_of_length_le (by rw [HY.out]; omega)] at h
      go_upto_region 8 with (fail)
      refine lin_begin (opsOf Tryd.f12 8) (by kernel_rfl) ?_
      refine lnow 0 (.int .i64 0) (some 4) ?_
      refine lin_done 1 (by kernel_rfl) ?_
      generalize hact : Act.put _ (some 4) _ = act
      simp only [Act.put, List.setIfInBounds_toArray, List.set_cons_succ, List.set_cons_zero] at hact
      subst hact
      go_wp2
      go_ret
      exact ⟨by rw [CZ.out] <;> rfl, FIN.out⟩
    go_upto_region 2 with (fail)
    refine lin_begin (opsOf Tryd.f12 2) (by kernel_rfl) ?_
    refine lnow 0 (.int .i64 (k : Int)) (some 6) ?_
    refine lnow 1 (.bool (decide ((k : Int) < 32))) (some 7) ?_
    rw [decide_eq_true (hlt)]
    refine lin_done 2 (by kernel_rfl) ?_
    generalize hact : Act.put _ (some 7) _ = act
    simp only [Act.put, List.setIfInBounds_toArray, List.set_cons_succ, List.set_cons_zero] at hact
    subst hact
    obtain ⟨x, hx⟩ : ∃ x, Hid (xs[k]? = some x) := ⟨_, List.getElem?_eq_getElem (by rw [HX.out]; omega)⟩
    obtain ⟨y, hy⟩ : ∃ y, Hid (ys[k]? = some y) := ⟨_, List.getElem?_eq_getElem (by rw [HY.out]; omega)⟩
    have CM := Lib.hid (cmpD_at k xs ys x y TK.out hx.out hy.out)
    have CX : Hid (wr.cell? ⟨q, 0 + k, none⟩ = some (.int .u8 x)) := by rw [Hid, Nat.zero_add]; exact (S2.out.1.below BR.out (by have := S2.out.2.2.2; omega)).cell (ints_get hx.out)
    have CY : Hid (wr.cell? ⟨q + 1, 0 + k, none⟩ = some (.int .u8 y)) := by rw [Hid, Nat.zero_add]; exact (S2.out.2.1.below BR.out (by have := S2.out.2.2.2; omega)).cell (ints_get hy.out)
    by_cases h1 : x < y
    · skip
      go_upto_region 4 with (fail)
      refine region_begin (opsOf Tryd.f12 4) (fun w' => ∀ p, w'.cell? p = World.cell? wr p) (by kernel_rfl) (by kernel_rfl) 7 (by kernel_rfl) ?_
      intro Q' hQN hN
      have HS : ∀ p, World.cell? (World.drew wr) p = World.cell? wr p := fun _ => rfl
      refine reg_now 0 (.int .i64 (k : Int)) (some 10) hQN HS (by kernel_rfl) (by kernel_rfl) (fun w => by kernel_rfl) ?_
      refine reg_now 1 (.pointer (some ⟨q, 0 + k, none⟩)) (some 11) hQN HS (by kernel_rfl) (by kernel_rfl) (fun w' => exec_indexAt 24 (.tmp 2) (.tmp 10) (by kernel_rfl) _ _ _ (by kernel_rfl) (by kernel_rfl) (run_at_dgB (q) 0 k (by omega) _)) ?_
      refine reg_nowIf 2 (.int .u8 x) (some 12) hQN HS (by kernel_rfl) (by kernel_rfl) (fun w' hw => exec_load_cell 5 (.tmp 11) (by kernel_rfl) (q) (0 + k) (by kernel_rfl) _ ((hw _).trans (CX.out)) _ Tryd.underlying5 rfl) ?_
      refine reg_now 3 (.int .i64 (k : Int)) (some 13) hQN HS (by kernel_rfl) (by kernel_rfl) (fun w => by kernel_rfl) ?_
      refine reg_now 4 (.pointer (some ⟨q + 1, 0 + k, none⟩)) (some 14) hQN HS (by kernel_rfl) (by kernel_rfl) (fun w' => exec_indexAt 24 (.tmp 3) (.tmp 13) (by kernel_rfl) _ _ _ (by kernel_rfl) (by kernel_rfl) (run_at_dgB (q + 1) 0 k (by omega) _)) ?_
      refine reg_nowIf 5 (.int .u8 y) (some 15) hQN HS (by kernel_rfl) (by kernel_rfl) (fun w' hw => exec_load_cell 5 (.tmp 14) (by kernel_rfl) (q + 1) (0 + k) (by kernel_rfl) _ ((hw _).trans (CY.out)) _ Tryd.underlying5 rfl) ?_
      refine reg_now 6 (.bool (decide (x < y))) (some 16) hQN HS (by kernel_rfl) (by kernel_rfl) (fun w => by kernel_rfl) ?_
      rw [decide_eq_true (h1)]
      refine reg_done (by kernel_rfl) (hN _ _ ?_)
      generalize hact : Act.put _ (some 16) _ = act
      simp only [Act.put, List.setIfInBounds_toArray, List.set_cons_succ, List.set_cons_zero] at hact
      subst hact
      have C1 := Lib.hid (CM.out.1 h1)
      have F2 : Hid (Below q w wr.drew) := FIN.out.drew
      clear HS hQN hN FIN BR CX CY CM hx hy TK
      generalize wr.drew = w3 at F2 ⊢
      go_upto_region 5 with (fail)
      refine lin_begin (opsOf Tryd.f12 5) (by kernel_rfl) ?_
      refine lnow 0 (.int .i64 (-1)) (some 4) ?_
      refine lin_done 1 (by kernel_rfl) ?_
      generalize hact : Act.put _ (some 4) _ = act
      simp only [Act.put, List.setIfInBounds_toArray, List.set_cons_succ, List.set_cons_zero] at hact
      subst hact
      go_wp2
      go_ret
      exact ⟨by rw [C1.out] <;> rfl, F2.out⟩
    go_upto_region 4 with (fail)
    refine region_begin (opsOf Tryd.f12 4) (fun w' => ∀ p, w'.cell? p = World.cell? wr p) (by kernel_rfl) (by kernel_rfl) 7 (by kernel_rfl) ?_
    intro Q' hQN hN
    have HS : ∀ p, World.cell? (World.drew wr) p = World.cell? wr p := fun _ => rfl
    refine reg_now 0 (.int .i64 (k : Int)) (some 10) hQN HS (by kernel_rfl) (by kernel_rfl) (fun w => by kernel_rfl) ?_
    refine reg_now 1 (.pointer (some ⟨q, 0 + k, none⟩)) (some 11) hQN HS (by kernel_rfl) (by kernel_rfl) (fun w' => exec_indexAt 24 (.tmp 2) (.tmp 10) (by kernel_rfl) _ _ _ (by kernel_rfl) (by kernel_rfl) (run_at_dgB (q) 0 k (by omega) _)) ?_
    refine reg_nowIf 2 (.int .u8 x) (some 12) hQN HS (by kernel_rfl) (by kernel_rfl) (fun w' hw => exec_load_cell 5 (.tmp 11) (by kernel_rfl) (q) (0 + k) (by kernel_rfl) _ ((hw _).trans (CX.out)) _ Tryd.underlying5 rfl) ?_
    refine reg_now 3 (.int .i64 (k : Int)) (some 13) hQN HS (by kernel_rfl) (by kernel_rfl) (fun w => by kernel_rfl) ?_
    refine reg_now 4 (.pointer (some ⟨q + 1, 0 + k, none⟩)) (some 14) hQN HS (by kernel_rfl) (by kernel_rfl) (fun w' => exec_indexAt 24 (.tmp 3) (.tmp 13) (by kernel_rfl) _ _ _ (by kernel_rfl) (by kernel_rfl) (run_at_dgB (q + 1) 0 k (by omega) _)) ?_
    refine reg_nowIf 5 (.int .u8 y) (some 15) hQN HS (by kernel_rfl) (by kernel_rfl) (fun w' hw => exec_load_cell 5 (.tmp 14) (by kernel_rfl) (q + 1) (0 + k) (by kernel_rfl) _ ((hw _).trans (CY.out)) _ Tryd.underlying5 rfl) ?_
    refine reg_now 6 (.bool (decide (x < y))) (some 16) hQN HS (by kernel_rfl) (by kernel_rfl) (fun w => by kernel_rfl) ?_
    rw [decide_eq_false (h1)]
    refine reg_done (by kernel_rfl) (hN _ _ ?_)
    generalize hact : Act.put _ (some 16) _ = act
    simp only [Act.put, List.setIfInBounds_toArray, List.set_cons_succ, List.set_cons_zero] at hact
    subst hact
    have BR2 : Hid (Below w2.heap.size w2 wr.drew) := BR.out.drew
    have F2 : Hid (Below q w wr.drew) := FIN.out.drew
    have CX2 : Hid (wr.drew.cell? ⟨q, 0 + k, none⟩ = some (.int .u8 x)) := CX.out
    have CY2 : Hid (wr.drew.cell? ⟨q + 1, 0 + k, none⟩ = some (.int .u8 y)) := CY.out
    clear HS hQN hN FIN BR CX CY
    generalize wr.drew = w3 at BR2 F2 CX2 CY2 ⊢
    by_cases h2 : x > y
    · skip
      go_upto_region 6 with (fail)
      refine region_begin (opsOf Tryd.f12 6) (fun w' => ∀ p, w'.cell? p = World.cell? w3 p) (by kernel_rfl) (by kernel_rfl) 7 (by kernel_rfl) ?_
      intro Q' hQN hN
      have HS : ∀ p, World.cell? (World.drew w3) p = World.cell? w3 p := fun _ => rfl
      refine reg_now 0 (.int .i64 (k : Int)) (some 17) hQN HS (by kernel_rfl) (by kernel_rfl) (fun w => by kernel_rfl) ?_
      refine reg_now 1 (.pointer (some ⟨q, 0 + k, none⟩)) (some 18) hQN HS (by kernel_rfl) (by kernel_rfl) (fun w' => exec_indexAt 24 (.tmp 2) (.tmp 17) (by kernel_rfl) _ _ _ (by kernel_rfl) (by kernel_rfl) (run_at_dgB (q) 0 k (by omega) _)) ?_
      refine reg_nowIf 2 (.int .u8 x) (some 19) hQN HS (by kernel_rfl) (by kernel_rfl) (fun w' hw => exec_load_cell 5 (.tmp 18) (by kernel_rfl) (q) (0 + k) (by kernel_rfl) _ ((hw _).trans (CX2.out)) _ Tryd.underlying5 rfl) ?_
      refine reg_now 3 (.int .i64 (k : Int)) (some 20) hQN HS (by kernel_rfl) (by kernel_rfl) (fun w => by kernel_rfl) ?_
      refine reg_now 4 (.pointer (some ⟨q + 1, 0 + k, none⟩)) (some 21) hQN HS (by kernel_rfl) (by kernel_rfl) (fun w' => exec_indexAt 24 (.tmp 3) (.tmp 20) (by kernel_rfl) _ _ _ (by kernel_rfl) (by kernel_rfl) (run_at_dgB (q + 1) 0 k (by omega) _)) ?_
      refine reg_nowIf 5 (.int .u8 y) (some 22) hQN HS (by kernel_rfl) (by kernel_rfl) (fun w' hw => exec_load_cell 5 (.tmp 21) (by kernel_rfl) (q + 1) (0 + k) (by kernel_rfl) _ ((hw _).trans (CY2.out)) _ Tryd.underlying5 rfl) ?_
      refine reg_now 6 (.bool (decide (x > y))) (some 23) hQN HS (by kernel_rfl) (by kernel_rfl) (fun w => by kernel_rfl) ?_
      rw [decide_eq_true (h2)]
      refine reg_done (by kernel_rfl) (hN _ _ ?_)
      generalize hact : Act.put _ (some 23) _ = act
      simp only [Act.put, List.setIfInBounds_toArray, List.set_cons_succ, List.set_cons_zero] at hact
      subst hact
      have C1 := Lib.hid (CM.out.2 h2)
      have F3 : Hid (Below q w w3.drew) := F2.out.drew
      clear HS hQN hN F2 BR2 CX2 CY2 CM hx hy TK
      generalize w3.drew = w4 at F3 ⊢
      go_upto_region 7 with (fail)
      refine lin_begin (opsOf Tryd.f12 7) (by kernel_rfl) ?_
      refine lnow 0 (.int .i64 1) (some 4) ?_
      refine lin_done 1 (by kernel_rfl) ?_
      generalize hact : Act.put _ (some 4) _ = act
      simp only [Act.put, List.setIfInBounds_toArray, List.set_cons_succ, List.set_cons_zero] at hact
      subst hact
      go_wp2
      go_ret
      exact ⟨by rw [C1.out] <;> rfl, F3.out⟩
    go_upto_region 6 with (fail)
    refine region_begin (opsOf Tryd.f12 6) (fun w' => ∀ p, w'.cell? p = World.cell? w3 p) (by kernel_rfl) (by kernel_rfl) 7 (by kernel_rfl) ?_
    intro Q' hQN hN
    have HS : ∀ p, World.cell? (World.drew w3) p = World.cell? w3 p := fun _ => rfl
    refine reg_now 0 (.int .i64 (k : Int)) (some 17) hQN HS (by kernel_rfl) (by kernel_rfl) (fun w => by kernel_rfl) ?_
    refine reg_now 1 (.pointer (some ⟨q, 0 + k, none⟩)) (some 18) hQN HS (by kernel_rfl) (by kernel_rfl) (fun w' => exec_indexAt 24 (.tmp 2) (.tmp 17) (by kernel_rfl) _ _ _ (by kernel_rfl) (by kernel_rfl) (run_at_dgB (q) 0 k (by omega) _)) ?_
    refine reg_nowIf 2 (.int .u8 x) (some 19) hQN HS (by kernel_rfl) (by kernel_rfl) (fun w' hw => exec_load_cell 5 (.tmp 18) (by kernel_rfl) (q) (0 + k) (by kernel_rfl) _ ((hw _).trans (CX2.out)) _ Tryd.underlying5 rfl) ?_
    refine reg_now 3 (.int .i64 (k : Int)) (some 20) hQN HS (by kernel_rfl) (by kernel_rfl) (fun w => by kernel_rfl) ?_
    refine reg_now 4 (.pointer (some ⟨q + 1, 0 + k, none⟩)) (some 21) hQN HS (by kernel_rfl) (by kernel_rfl) (fun w' => exec_indexAt 24 (.tmp 3) (.tmp 20) (by kernel_rfl) _ _ _ (by kernel_rfl) (by kernel_rfl) (run_at_dgB (q + 1) 0 k (by omega) _)) ?_
    refine reg_nowIf 5 (.int .u8 y) (some 22) hQN HS (by kernel_rfl) (by kernel_rfl) (fun w' hw => exec_load_cell 5 (.tmp 21) (by kernel_rfl) (q + 1) (0 + k) (by kernel_rfl) _ ((hw _).trans (CY2.out)) _ Tryd.underlying5 rfl) ?_
    refine reg_now 6 (.bool (decide (x > y))) (some 23) hQN HS (by kernel_rfl) (by kernel_rfl) (fun w => by kernel_rfl) ?_
    rw [decide_eq_false (h2)]
    refine reg_done (by kernel_rfl) (hN _ _ ?_)
    generalize hact : Act.put _ (some 23) _ = act
    simp only [Act.put, List.setIfInBounds_toArray, List.set_cons_succ, List.set_cons_zero] at hact
    subst hact
    obtain rfl : x = y := by omega
    have TK2 := Lib.hid (takeN2 TK.out hx.out hy.out)
    have BR3 : Hid (Below w2.heap.size w2 w3.drew) := BR2.out.drew
    clear HS hQN hN F2 BR2 CX2 CY2 CM hx hy TK
    generalize w3.drew = w4 at BR3 ⊢
    go_wp2
    go_roundw
    case rel => exact ⟨k + 1, by omega, by go_num, TK2, BR3⟩
    case measure => simp [intOf]; omega
end Go.Proofs.YtoeilaedpibboaaDoor
/- The document's Sort of digests. -/
namespace Go.Proofs.YtoeilaedpibboaaDoor
open Go Go.RowKit
set_option maxRecDepth 100000

def candN (last : Option (List Int)) (x : List Int) : Prop := ∀ l, last = some l → 0 < cmpD x l
open Classical in
noncomputable def stepN (last acc : Option (List Int)) (x : List Int) : Option (List Int) := if candN last x then (match acc with | none => some x | some y => if cmpD x y < 0 then some x else some y) else acc
noncomputable def nextN (last : Option (List Int)) (xs : List (List Int)) : Option (List Int) := xs.foldl (stepN last) none
theorem nextN_snoc {last : Option (List Int)} {ds : List (List Int)} {k : Nat} {x : List Int} (h : ds[k]? = some x) : nextN last (ds.take (k + 1)) = stepN last (nextN last (ds.take k)) x := by
  unfold nextN
  rw [List.take_add_one, h, Option.toList_some, List.foldl_append]
  rfl
theorem stepN_skip {last acc : Option (List Int)} {x : List Int} (h : ¬ candN last x) : stepN last acc x = acc := by unfold stepN; rw [if_neg h]
theorem stepN_first {last : Option (List Int)} {x : List Int} (h : candN last x) : stepN last none x = some x := by unfold stepN; rw [if_pos h]
theorem stepN_less {last : Option (List Int)} {x y : List Int} (h : candN last x) (h2 : cmpD x y < 0) : stepN last (some y) x = some x := by
  unfold stepN; rw [if_pos h]; show (if _ then _ else _) = _; rw [if_pos h2]
theorem stepN_keep {last : Option (List Int)} {x y : List Int} (h2 : ¬ cmpD x y < 0) : stepN last (some y) x = some y := by
  unfold stepN
  by_cases h : candN last x
  · rw [if_pos h]; show (if _ then _ else _) = _; rw [if_neg h2]
  · rw [if_neg h]
theorem nextN_spec (last : Option (List Int)) (ds : List (List Int)) : ∀ k, k ≤ ds.length → (∀ y, nextN last (ds.take k) = some y → y ∈ ds ∧ candN last y) ∧ (∀ z, z ∈ ds.take k → candN last z → ∃ y, nextN last (ds.take k) = some y ∧ ¬ cmpD z y < 0)
  | 0, _ => ⟨fun y h => by simp [nextN] at h, fun z hz => by simp at hz⟩
  | k + 1, hk => by
    obtain ⟨ih1, ih2⟩ := nextN_spec last ds k (by omega)
    obtain ⟨x, hx⟩ : ∃ x, ds[k]? = some x := ⟨_, List.getElem?_eq_getElem (by omega)⟩
    have hm : x ∈ ds := List.mem_of_getElem? hx
    rw [nextN_snoc hx]
    have hmem : ∀ z, z ∈ ds.take (k + 1) → z ∈ ds.take k ∨ z = x := fun z hz => by
      rw [List.take_add_one, hx, List.mem_append] at hz
      exact hz.imp id fun h => by simpa using h
    by_cases hc : candN last x
    · cases hn : nextN last (ds.take k) with
      | none =>
        rw [stepN_first hc]
        refine ⟨fun y hy => by obtain rfl := Option.some.inj hy; exact ⟨hm, hc⟩, fun z hz hcz => ?_⟩
        rcases hmem z hz with h | rfl
        · obtain ⟨y, hy, _⟩ := ih2 z h hcz
          rw [hn] at hy; cases hy
        · exact ⟨z, rfl, by rw [cmpD_self]; omega⟩
      | some y =>
        by_cases hl : cmpD x y < 0
        · rw [stepN_less hc hl]
          refine ⟨fun y2 hy => by obtain rfl := Option.some.inj hy; exact ⟨hm, hc⟩, fun z hz hcz => ⟨x, rfl, ?_⟩⟩
          rcases hmem z hz with h | rfl
          · obtain ⟨y3, hy3, h4⟩ := ih2 z h hcz
            rw [hn] at hy3
            obtain rfl := Option.some.inj hy3
            intro h5
            exact h4 (cmpD_trans _ _ _ h5 hl)
          · rw [cmpD_self]; omega
        · rw [stepN_keep hl]
          refine ⟨fun y2 hy => ih1 y2 (hn.trans hy), fun z hz hcz => ?_⟩
          rcases hmem z hz with h | rfl
          · obtain ⟨y3, hy3, h4⟩ := ih2 z h hcz
            rw [hn] at hy3
            exact ⟨y3, hy3, h4⟩
          · exact ⟨y, rfl, hl⟩
    · rw [stepN_skip hc]
      refine ⟨ih1, fun z hz hcz => ?_⟩
      rcases hmem z hz with h | rfl
      · exact ih2 z h hcz
      · exact absurd hcz hc
/-- What comes next of the rising set. -/
theorem nextN_is (ds : List (List Int)) (j : Nat) (hj : j ≤ (sortS ds).length) (last : Option (List Int)) (h0 : j = 0 → last = none) (h1 : 0 < j → last = (sortS ds)[j - 1]?) : nextN last ds = (sortS ds)[j]? := by
  have hr := sortS_rising ds
  have hcmp : ∀ i i2 (h : i < (sortS ds).length) (h2 : i2 < (sortS ds).length), i < i2 → cmpD (sortS ds)[i] (sortS ds)[i2] < 0 := fun i i2 h h2 hl => List.pairwise_iff_getElem.1 hr i i2 h h2 hl
  have hcand : ∀ i (h : i < (sortS ds).length), candN last (sortS ds)[i] ↔ j ≤ i := fun i h => by
    by_cases hz : j = 0
    · subst hz
      rw [h0 rfl]
      exact ⟨fun _ => Nat.zero_le _, fun _ l hl => by cases hl⟩
    · rw [h1 (by omega), List.getElem?_eq_getElem (by omega)]
      constructor
      · intro hc
        have h2 := hc _ rfl
        rcases Nat.lt_or_ge i j with h3 | h3
        · rcases Nat.lt_or_ge i (j - 1) with h4 | h4
          · have := hcmp i (j - 1) h (by omega) h4; omega
          · have e : i = j - 1 := by omega
            subst e
            rw [cmpD_self] at h2; omega
        · exact h3
      · intro h2 l hl
        obtain rfl := Option.some.inj hl
        have h3 := hcmp (j - 1) i (by omega) h (by omega)
        have h4 := cmpD_swap (sortS ds)[j - 1] (sortS ds)[i]
        omega
  obtain ⟨s1, s2⟩ := nextN_spec last ds ds.length (Nat.le_refl _)
  rw [List.take_length] at s1 s2
  cases hn : nextN last ds with
  | none =>
    symm
    rw [List.getElem?_eq_none_iff]
    rcases Nat.lt_or_ge j (sortS ds).length with h | h
    · obtain ⟨y, hy, _⟩ := s2 _ ((sortS_mem _ ds).1 (List.getElem_mem h)) ((hcand j h).2 (Nat.le_refl _))
      rw [hn] at hy; cases hy
    · exact h
  | some y =>
    obtain ⟨hy1, hy2⟩ := s1 y hn
    obtain ⟨i, hi, rfl⟩ := List.mem_iff_getElem.1 ((sortS_mem y ds).2 hy1)
    have hji := (hcand i hi).1 hy2
    obtain ⟨y2, hy3, h4⟩ := s2 _ ((sortS_mem _ ds).1 (List.getElem_mem (show j < (sortS ds).length by omega))) ((hcand j (by omega)).2 (Nat.le_refl _))
    rw [hn] at hy3
    obtain rfl := Option.some.inj hy3
    rcases Nat.lt_or_ge j i with h5 | h5
    · exact absurd (hcmp j i (by omega) hi h5) h4
    · have e : j = i := by omega
      subst e
      exact (List.getElem?_eq_getElem hi).symm
def sliceLen : Value → Nat
  | .slice _ n _ => n
  | _ => 0
def z32N : List Int := List.replicate 32 0
theorem len2D {a b : List Int} (ha : a.length = 32) (hb : b.length = 32) : (ints .u8 a).length = (ints .u8 b).length := by rw [ints_length, ints_length, ha, hb]
theorem z32N_len : z32N.length = 32 := by unfold z32N; rw [List.length_replicate]
set_option maxHeartbeats 4000000 in
theorem rsort_walk (u : Value) (ds : List (List Int)) (w : World) (hu : DigsIn w u ds) (hl : ds.length ≤ 1000) (hok : okD ds) :
    Calls Tryd.prog 15 #[u] w fun e w' => ∃ v, e = .returned v ∧ OwnD w' w.heap.size v (sortS ds) ∧ Below w.heap.size w w' := by
  obtain ⟨ua, uc, rfl, -⟩ := id hu
  obtain ⟨q, hq⟩ : ∃ q, Hid (w.heap.size = q) := ⟨_, rfl⟩
  have HU := Lib.hid hu
  have HOK := Lib.hid hok
  obtain ⟨n, hn⟩ : ∃ n, Hid (ds.length = n) := ⟨_, rfl⟩
  rw [hn.out] at HU hl ⊢
  have SO : Hid (okD (sortS ds)) := fun z hz => HOK.out z ((sortS_mem z ds).1 hz)
  have SM : Hid ((sortS ds).length ≤ n) := by have h := sortS_len ds; rwa [hn.out] at h
  have NX : Hid (∀ j, j ≤ (sortS ds).length → ∀ last, (j = 0 → last = none) → (0 < j → last = (sortS ds)[j - 1]?) → nextN last ds = (sortS ds)[j]?) := nextN_is ds
  obtain ⟨S, hS⟩ : ∃ S, Hid (sortS ds = S) := ⟨_, rfl⟩
  rw [hS.out] at SO SM NX ⊢
  rw [hq.out]
  clear hu hok
  go_enter Tryd.func15, Tryd.ntmps15
  go_upto_region 0 with (fail)
  refine lin_begin (opsOf Tryd.f15 0) (by kernel_rfl) ?_
  refine lnow 0 (.slice none 0 0) (some 2) ?_
  refine lin_done 1 (by kernel_rfl) ?_
  generalize hact : Act.put _ (some 2) _ = act
  simp only [Act.put, List.setIfInBounds_toArray, List.set_cons_succ, List.set_cons_zero] at hact
  subst hact
  have hmk := run_build_nodig w
  have O2 := Lib.hid (OwnD.empty w)
  have B2 : Hid (Below w.heap.size w (w.alloc (.cells #[] 24))) := (Below.refl _ _).alloc (Nat.le_refl _) _
  rw [hq.out] at hmk O2 B2
  go_upto_region 1 with (fail)
  refine lin_begin (opsOf Tryd.f15 1) (by kernel_rfl) ?_
  generalize w.alloc (.cells #[] 24) = w2 at hmk O2 B2
  refine lin_value 0 (.slice (some ⟨q, 0, none⟩) 0 0) (some 7) w2 (by kernel_rfl) (by kernel_rfl) (exec_of (Instr.buildSlice 22 0 #[]) _ (by kernel_rfl) hmk) ?_
  refine lnow 1 (.slice (some ⟨q, 0, none⟩) 0 0) (some 3) ?_
  refine lin_done 2 (by kernel_rfl) ?_
  generalize hact : Act.put _ (some 3) _ = act
  simp only [Act.put, List.setIfInBounds_toArray, List.set_cons_succ, List.set_cons_zero] at hact
  subst hact
  go_wp2
  go_loopw [3] (fun ov wr => ∃ j : Nat, j ≤ S.length ∧ Hid (OwnD wr q ov (S.take j)) ∧ Hid (Below q w wr)) (fun ov _ => n + 1 - sliceLen ov)
  case atStart => exact ⟨0, Nat.zero_le _, O2, B2⟩
  case round =>
    obtain ⟨j, hj, OB, BR⟩ := hrel
    clear O2 B2 hmk
    have LB : Hid ((S.take j).length = j) := by rw [Hid, List.length_take]; omega
    obtain ⟨oa, oc, rfl⟩ := OB.out.slice
    rw [LB.out] at OB ⊢
    obtain ⟨wo, hwo⟩ : ∃ y, Hid (wr = y) := ⟨_, rfl⟩
    rw [hwo.out] at OB BR ⊢
    clear hwo
    have ql : Hid (q ≤ wo.heap.size) := by have h := BR.out.size; rw [hq.out] at h; exact h
    obtain ⟨last, hla⟩ : ∃ last : Option (List Int), Hid (last = if j = 0 then none else S[j - 1]?) := ⟨_, rfl⟩
    have NJ : Hid (nextN last ds = S[j]?) := NX.out j hj last (fun h => by rw [hla.out, if_pos h]) (fun h => by rw [hla.out, if_neg (by omega)])
    go_upto_region 2 with (fail)
    refine lin_begin (opsOf Tryd.f15 2) (by kernel_rfl) ?_
    refine lnow 0 (.bool false) (some 4) ?_
    refine lin_done 1 (by kernel_rfl) ?_
    generalize hact : Act.put _ (some 4) _ = act
    simp only [Act.put, List.setIfInBounds_toArray, List.set_cons_succ, List.set_cons_zero] at hact
    subst hact
    obtain ⟨X, hX⟩ : ∃ X, Hid (wo.heap.size = X) := ⟨_, rfl⟩
    go_upto_region 3 with (fail)
    refine lin_begin (opsOf Tryd.f15 3) (by kernel_rfl) ?_
    refine lnow 0 (.agg (ints .u8 z32N).toArray) (some 8) ?_
    refine lin_alloc 1 24 (ints .u8 z32N) X (some 5) (by kernel_rfl) (by kernel_rfl) (by kernel_rfl) (by kernel_rfl) hX ?_
    intro wa ba bea hsa
    refine lin_put 2 24 (.tmp 5) (.tmp 8) X _ (ints .u8 z32N) (ints .u8 z32N) (by kernel_rfl) (by kernel_rfl) (by kernel_rfl) (by kernel_rfl) (by kernel_rfl) ba (len2D z32N_len z32N_len) (sizeD z32N_len) (ints_oneCell _ _) ?_
    intro wb bwb uwb
    refine lin_done 3 (by kernel_rfl) ?_
    generalize hact : Act.put _ none _ = act
    simp only [Act.put, List.setIfInBounds_toArray, List.set_cons_succ, List.set_cons_zero] at hact
    subst hact
    have BX : Hid (Below X wo wb) := uwb.below bea (by omega) (by have := hsa.out; omega)
    have XB : Hid (Blk wb X 24 (ints .u8 z32N)) := bwb
    clear ba bea hsa bwb uwb
    go_upto_region 4 with (fail)
    refine lin_begin (opsOf Tryd.f15 4) (by kernel_rfl) ?_
    refine lnow 0 (.int .i64 0) (some 6) ?_
    refine lin_done 1 (by kernel_rfl) ?_
    generalize hact : Act.put _ (some 6) _ = act
    simp only [Act.put, List.setIfInBounds_toArray, List.set_cons_succ, List.set_cons_zero] at hact
    subst hact
    go_wp2
    go_loopw [4, 6] (fun fv iv wr => ∃ (k : Nat) (acc : Option (List Int)), k ≤ n ∧ fv = .bool acc.isSome ∧ iv = .int .i64 (k : Int) ∧ Hid (nextN last (ds.take k) = acc) ∧ Hid (Blk wr X 24 (ints .u8 (acc.getD z32N))) ∧ Hid (Below X wo wr)) (fun _ iv _ => n - (intOf iv).toNat)
    case atStart => exact ⟨0, none, Nat.zero_le _, rfl, rfl, rfl, XB, BX⟩
    case round =>
      obtain ⟨k, acc, hk, rfl, rfl, NA, XA, BA⟩ := hrel
      clear XB BX
      have BW : Hid (Below q w wr) := BR.out.trans (BA.out.mono (by rw [← hX.out]; exact ql.out))
      have AM : Hid (∀ y, acc = some y → y ∈ ds) := fun y hy => ((nextN_spec last ds k (by rw [hn.out]; exact hk)).1 y (NA.out.trans hy)).1
      have xs : Hid (X ≤ wr.heap.size) := by have h := BA.out.size; rw [hX.out] at h; exact h
      by_cases hlt : (k : Int) < (n : Int)
      rotate_left
      · skip
        go_upto_region 5 with (fail)
        refine lin_begin (opsOf Tryd.f15 5) (by kernel_rfl) ?_
        refine lnow 0 (.int .i64 (k : Int)) (some 9) ?_
        refine lnow 1 (.slice ua n uc) (some 10) ?_
        refine lnow 2 (.int .i64 (n : Int)) (some 11) ?_
        refine lnow 3 (.bool (decide ((k : Int) < (n : Int)))) (some 12) ?_
        rw [decide_eq_false (hlt)]
        refine lin_done 4 (by kernel_rfl) ?_
        generalize hact : Act.put _ (some 12) _ = act
        simp only [Act.put, List.setIfInBounds_toArray, List.set_cons_succ, List.set_cons_zero] at hact
        subst hact
        have AC : Hid (acc = S[j]?) := by have h := NA.out; rw [List.take_of_length_le (by rw [hn.out]; omega)] at h; rw [Hid, ← h]; exact NJ.out
        cases acc with
        | none =>
          go_upto_region 11 with (fail)
          refine lin_begin (opsOf Tryd.f15 11) (by kernel_rfl) ?_
          refine lnow 0 (.bool false) (some 47) ?_
          refine lnow 1 (.bool true) (some 48) ?_
          refine lin_done 2 (by kernel_rfl) ?_
          generalize hact : Act.put _ (some 48) _ = act
          simp only [Act.put, List.setIfInBounds_toArray, List.set_cons_succ, List.set_cons_zero] at hact
          subst hact
          go_upto_region 12 with (fail)
          refine lin_begin (opsOf Tryd.f15 12) (by kernel_rfl) ?_
          refine lnow 0 (.slice oa j oc) (some 49) ?_
          refine lnow 1 (.slice oa j oc) (some 2) ?_
          refine lin_done 2 (by kernel_rfl) ?_
          generalize hact : Act.put _ (some 2) _ = act
          simp only [Act.put, List.setIfInBounds_toArray, List.set_cons_succ, List.set_cons_zero] at hact
          subst hact
          have JE : Hid (S.take j = S) := by rw [Hid, List.take_of_length_le]; exact List.getElem?_eq_none_iff.1 AC.out.symm
          have FO : Hid (OwnD wr q (.slice oa j oc) S) := by have h := OB.out.below (by rw [hX.out]; exact BA.out); rwa [JE.out] at h
          clear OB
          go_wp2
          go_ret
          exact ⟨_, rfl, FO.out, BW.out⟩
        | some y =>
          go_upto_region 11 with (fail)
          refine lin_begin (opsOf Tryd.f15 11) (by kernel_rfl) ?_
          refine lnow 0 (.bool true) (some 47) ?_
          refine lnow 1 (.bool false) (some 48) ?_
          refine lin_done 2 (by kernel_rfl) ?_
          generalize hact : Act.put _ (some 48) _ = act
          simp only [Act.put, List.setIfInBounds_toArray, List.set_cons_succ, List.set_cons_zero] at hact
          subst hact
          have OY : Hid (y.length = 32) := (HOK.out y (AM.out y rfl)).1
          have jl : j < S.length := (List.getElem?_eq_some_iff.1 AC.out.symm).1
          have OW : Hid (OwnD wr q (.slice oa j oc) (S.take j)) := OB.out.below (by rw [hX.out]; exact BA.out)
          have YR : Hid (wr.rangeAt X 0 (ints .u8 y)) := XA.out.whole
          go_upto_region 13 with (fail)
          refine lin_begin (opsOf Tryd.f15 13) (by kernel_rfl) ?_
          refine lnow 0 (.slice oa j oc) (some 50) ?_
          refine lnowP 1 (.agg (ints .u8 y).toArray) (some 51) (exec_load_mid 24 (.tmp 5) (by kernel_rfl) X 0 (by kernel_rfl) (ints .u8 y) _ YR.out Tryd.underlying24 rfl (sizeD OY.out)) ?_
          obtain ⟨B4, hB4⟩ : ∃ y, Hid (wr.heap.size = y) := ⟨_, rfl⟩
          refine lin_newrowD 2 24 (ints .u8 y) B4 1 (some 52) (by kernel_rfl) (by kernel_rfl) hB4 (exec_of (Instr.buildSlice 22 1 #[(0, .agg (ints .u8 y).toArray)]) _ (by kernel_rfl) (run_build_digO y OY.out _)) ?_
          intro w4 hb4 hbe4 hs4
          have O4 : Hid (OwnD w4 q _ (S.take j)) := (OW.out.below (by rw [hB4.out]; exact hbe4) : OwnD w4 q _ (S.take j))
          refine lin_appendd 3 (some 53) (by kernel_rfl) (by kernel_rfl) (by kernel_rfl) (.tmp 50) (.tmp 52) (by kernel_rfl) q _ (S.take j) (by kernel_rfl) O4.out _ [y] (by kernel_rfl) (digs_one hb4) (fun z hz => by rw [List.mem_singleton.1 hz]; exact OY.out) trivial (by rw [LB.out]; show _ + 1 ≤ _; have := SM.out; omega) (by have := ql.out; have := hs4.out; have := hB4.out; have := xs.out; have := hX.out; omega) ?_
          intro v5 w5 h5 g5
          refine lnow 4 (v5) (some 3) ?_
          refine lin_done 5 (by kernel_rfl) ?_
          generalize hact : Act.put _ (some 3) _ = act
          simp only [Act.put, List.setIfInBounds_toArray, List.set_cons_succ, List.set_cons_zero] at hact
          subst hact
          have s4 : Hid (wr.heap.size ≤ w4.heap.size) := by rw [Hid]; have := hs4.out; have := hB4.out; omega
          have hG5 : ∀ g, Value.ownBlock (.slice oa j oc) = some g → q ≤ g := fun g hg => by
            rcases O4.out.2 with ⟨e1, -⟩ | ⟨g2, cap2, cur2, e1, hb2, -⟩
            · rw [e1] at hg; cases hg
            · rw [e1] at hg; simp [Value.ownBlock] at hg; omega
          have qb : q ≤ wr.heap.size := by have := ql.out; have := hX.out; have := xs.out; omega
          have BR2 : Hid (Below q w w5) := (BW.out.trans (hbe4.mono (by rw [← hB4.out]; exact qb))).grown g5 (Nat.le_trans qb s4.out) hG5
          have OB2 : Hid (OwnD w5 q v5 (S.take (j + 1))) := by rw [Hid, List.take_add_one, ← AC.out]; exact h5
          obtain ⟨va, vc, hv5⟩ := OB2.out.slice
          have LV : (S.take (j + 1)).length = j + 1 := by rw [List.length_take]; omega
          rw [LV] at hv5
          subst hv5
          have SM2 := SM.out
          clear h5 g5 hG5 s4 O4 hb4 hbe4 hs4 hB4 OB BR OW YR XA BA BW NA AM AC
          generalize ints .u8 y = vy
          go_wp2
          go_roundw
          case rel => exact ⟨j + 1, by omega, OB2, BR2⟩
          case measure => simp [sliceLen]; omega
      go_upto_region 5 with (fail)
      refine lin_begin (opsOf Tryd.f15 5) (by kernel_rfl) ?_
      refine lnow 0 (.int .i64 (k : Int)) (some 9) ?_
      refine lnow 1 (.slice ua n uc) (some 10) ?_
      refine lnow 2 (.int .i64 (n : Int)) (some 11) ?_
      refine lnow 3 (.bool (decide ((k : Int) < (n : Int)))) (some 12) ?_
      rw [decide_eq_true (hlt)]
      refine lin_done 4 (by kernel_rfl) ?_
      generalize hact : Act.put _ (some 12) _ = act
      simp only [Act.put, List.setIfInBounds_toArray, List.set_cons_succ, List.set_cons_zero] at hact
      subst hact
      obtain ⟨x, hx⟩ : ∃ x, Hid (ds[k]? = some x) := ⟨_, List.getElem?_eq_getElem (by rw [hn.out]; omega)⟩
      have OX : Hid (x.length = 32 ∧ isBytes x) := HOK.out x (List.mem_of_getElem? hx.out)
      obtain ⟨p1, o1, rfl, hp1, hr1⟩ := HU.out.el HOK.out.a hx.out
      have RX : Hid (∀ W, Below q w W → W.rangeAt p1 (o1 + 32 * k) (ints .u8 x)) := fun W hW j v hv => by rw [hW.cell (p := ⟨p1, o1 + 32 * k + j, none⟩) (by rw [← hq.out]; exact hp1)]; exact hr1 j v hv
      clear hr1 hp1
      have NS := Lib.hid (nextN_snoc (last := last) hx.out)
      rw [NA.out] at NS
      by_cases hj0 : (j : Int) > 0
      rotate_left
      · skip
        go_upto_region 7 with (fail)
        refine region_begin (opsOf Tryd.f15 7) (fun w' => Below wr.heap.size wr w') (by kernel_rfl) (by kernel_rfl) 17 (by kernel_rfl) ?_
        intro Q' hQN hN
        have HS : Below wr.heap.size wr (World.drew wr) := (Below.refl _ _).drew
        refine reg_now 0 (.slice oa j oc) (some 15) hQN HS (by kernel_rfl) (by kernel_rfl) (fun w => by kernel_rfl) ?_
        refine reg_now 1 (.int .i64 (j : Int)) (some 16) hQN HS (by kernel_rfl) (by kernel_rfl) (fun w => by kernel_rfl) ?_
        refine reg_now 2 (.bool (decide ((j : Int) > 0))) (some 17) hQN HS (by kernel_rfl) (by kernel_rfl) (fun w => by kernel_rfl) ?_
        rw [decide_eq_false (hj0)]
        refine reg_now 3 (.bool false) (some 18) hQN HS (by kernel_rfl) (by kernel_rfl) (fun w => by kernel_rfl) ?_
        refine reg_pass 4 (some 19) hQN HS (by kernel_rfl) (by kernel_rfl) ?_
        refine reg_pass 5 (some 20) hQN HS (by kernel_rfl) (by kernel_rfl) ?_
        refine reg_pass 6 (some 21) hQN HS (by kernel_rfl) (by kernel_rfl) ?_
        refine reg_pass 7 (some 22) hQN HS (by kernel_rfl) (by kernel_rfl) ?_
        refine reg_pass 8 (some 23) hQN HS (by kernel_rfl) (by kernel_rfl) ?_
        refine reg_pass 9 (some 24) hQN HS (by kernel_rfl) (by kernel_rfl) ?_
        refine reg_pass 10 (some 25) hQN HS (by kernel_rfl) (by kernel_rfl) ?_
        refine reg_pass 11 (some 26) hQN HS (by kernel_rfl) (by kernel_rfl) ?_
        refine reg_pass 12 (some 27) hQN HS (by kernel_rfl) (by kernel_rfl) ?_
        refine reg_pass 13 (some 28) hQN HS (by kernel_rfl) (by kernel_rfl) ?_
        refine reg_pass 14 (some 29) hQN HS (by kernel_rfl) (by kernel_rfl) ?_
        refine reg_pass 15 (some 30) hQN HS (by kernel_rfl) (by kernel_rfl) ?_
        refine reg_now 16 (.bool false) (some 31) hQN HS (by kernel_rfl) (by kernel_rfl) (fun w => by kernel_rfl) ?_
        refine reg_done (by kernel_rfl) (hN _ _ ?_)
        generalize hact : Act.put _ (some 31) _ = act
        simp only [Act.put, List.setIfInBounds_toArray, List.set_cons_succ, List.set_cons_zero] at hact
        subst hact
        have B7 : Hid (Below X wo wr.drew) := BA.out.trans (HS.mono xs.out)
        have X7 : Hid (Blk wr.drew X 24 (ints .u8 (acc.getD z32N))) := XA.out.below HS XA.out.lt
        clear HS hQN hN
        generalize wr.drew = w6 at B7 X7 ⊢
        have CN : candN last x := fun l hl => by rw [hla.out, if_pos (by omega)] at hl; cases hl
        cases acc with
        | none =>
          go_upto_region 8 with (fail)
          refine region_begin (opsOf Tryd.f15 8) (fun w' => Below w6.heap.size w6 w') (by kernel_rfl) (by kernel_rfl) 11 (by kernel_rfl) ?_
          intro Q' hQN hN
          have HS : Below w6.heap.size w6 (World.drew w6) := (Below.refl _ _).drew
          refine reg_now 0 (.bool false) (some 32) hQN HS (by kernel_rfl) (by kernel_rfl) (fun w => by kernel_rfl) ?_
          refine reg_now 1 (.bool true) (some 33) hQN HS (by kernel_rfl) (by kernel_rfl) (fun w => by kernel_rfl) ?_
          refine reg_now 2 (.bool true) (some 34) hQN HS (by kernel_rfl) (by kernel_rfl) (fun w => by kernel_rfl) ?_
          refine reg_pass 3 (some 35) hQN HS (by kernel_rfl) (by kernel_rfl) ?_
          refine reg_pass 4 (some 36) hQN HS (by kernel_rfl) (by kernel_rfl) ?_
          refine reg_pass 5 (some 37) hQN HS (by kernel_rfl) (by kernel_rfl) ?_
          refine reg_pass 6 (some 38) hQN HS (by kernel_rfl) (by kernel_rfl) ?_
          refine reg_pass 7 (some 39) hQN HS (by kernel_rfl) (by kernel_rfl) ?_
          refine reg_pass 8 (some 40) hQN HS (by kernel_rfl) (by kernel_rfl) ?_
          refine reg_pass 9 (some 41) hQN HS (by kernel_rfl) (by kernel_rfl) ?_
          refine reg_now 10 (.bool true) (some 42) hQN HS (by kernel_rfl) (by kernel_rfl) (fun w => by kernel_rfl) ?_
          refine reg_done (by kernel_rfl) (hN _ _ ?_)
          generalize hact : Act.put _ (some 42) _ = act
          simp only [Act.put, List.setIfInBounds_toArray, List.set_cons_succ, List.set_cons_zero] at hact
          subst hact
          have B8 : Hid (Below X wo (World.drew w6)) := B7.out.trans (HS.mono (by have h := B7.out.size; rw [hX.out] at h; exact h))
          have X8 : Hid (Blk (World.drew w6) X 24 (ints .u8 z32N)) := X7.out.below HS X7.out.lt
          clear HS hQN hN
          generalize World.drew w6 = w8 at B8 X8 ⊢
          have RW : Hid (w8.rangeAt p1 (o1 + 32 * k) (ints .u8 x)) := RX.out _ (BR.out.trans (B8.out.mono (by rw [← hX.out]; exact ql.out)))
          go_upto_region 9 with (fail)
          refine lin_begin (opsOf Tryd.f15 9) (by kernel_rfl) ?_
          refine lnow 0 (.slice (some ⟨p1, o1, none⟩) n uc) (some 43) ?_
          refine lnow 1 (.int .i64 (k : Int)) (some 44) ?_
          refine lnowP 2 (.pointer (some ⟨p1, o1 + 32 * k, none⟩)) (some 45) (exec_indexAt 22 (.tmp 43) (.tmp 44) (by kernel_rfl) _ _ _ (by kernel_rfl) (by kernel_rfl) (run_at_digest p1 o1 n uc k (by omega) _)) ?_
          refine lnowP 3 (.agg (ints .u8 x).toArray) (some 46) (exec_load_mid 24 (.tmp 45) (by kernel_rfl) (p1) (o1 + 32 * k) (by kernel_rfl) (ints .u8 x) _ RW.out Tryd.underlying24 rfl (sizeD OX.out.1)) ?_
          refine lin_put 4 24 (.tmp 5) (.tmp 46) X _ (ints .u8 z32N) (ints .u8 x) (by kernel_rfl) (by kernel_rfl) (by kernel_rfl) (by kernel_rfl) (by kernel_rfl) X8.out (len2D OX.out.1 z32N_len) (sizeD OX.out.1) (ints_oneCell _ _) ?_
          intro wz bwz uwz
          refine lin_done 5 (by kernel_rfl) ?_
          generalize hact : Act.put _ none _ = act
          simp only [Act.put, List.setIfInBounds_toArray, List.set_cons_succ, List.set_cons_zero] at hact
          subst hact
          have XZ : Hid (Blk wz X 24 (ints .u8 ((some x).getD z32N))) := bwz
          have BZ : Hid (Below X wo wz) := uwz.below B8.out (Nat.le_refl _) (Nat.le_of_lt X8.out.lt)
          clear bwz uwz RW B8 X8 RX BW XA BA NA
          go_upto_region 10 with (fail)
          refine lin_begin (opsOf Tryd.f15 10) (by kernel_rfl) ?_
          refine lnow 0 (.bool true) (some 4) ?_
          refine lin_done 1 (by kernel_rfl) ?_
          generalize hact : Act.put _ (some 4) _ = act
          simp only [Act.put, List.setIfInBounds_toArray, List.set_cons_succ, List.set_cons_zero] at hact
          subst hact
          have NZ : Hid (nextN last (ds.take (k + 1)) = some x) := NS.out.trans (stepN_first CN)
          clear NS NJ AM
          skip
          go_wp2
          go_roundw
          case rel => exact ⟨k + 1, some x, by omega, rfl, by go_num, NZ, XZ, BZ⟩
          case measure => simp [intOf]; omega
        | some y =>
          have OY : Hid (y.length = 32 ∧ isBytes y) := HOK.out y (AM.out y rfl)
          have YW : Hid (∀ W', Below w6.heap.size w6 W' → W'.rangeAt X 0 (ints .u8 y)) := fun W' hW => (X7.out.below hW X7.out.lt : Blk W' X 24 (ints .u8 y)).whole
          have XW : Hid (∀ W', Below w6.heap.size w6 W' → W'.rangeAt p1 (o1 + 32 * k) (ints .u8 x)) := fun W' hW => RX.out W' (BR.out.trans ((B7.out.trans (hW.mono (by have h := B7.out.size; rw [hX.out] at h; exact h))).mono (by rw [← hX.out]; exact ql.out)))
          by_cases hxy : (cmpD x y) < 0
          · skip
            go_upto_region 8 with (fail)
            refine region_begin (opsOf Tryd.f15 8) (fun w' => Below w6.heap.size w6 w') (by kernel_rfl) (by kernel_rfl) 11 (by kernel_rfl) ?_
            intro Q' hQN hN
            have HS : Below w6.heap.size w6 (World.drew w6) := (Below.refl _ _).drew
            refine reg_now 0 (.bool true) (some 32) hQN HS (by kernel_rfl) (by kernel_rfl) (fun w => by kernel_rfl) ?_
            refine reg_now 1 (.bool false) (some 33) hQN HS (by kernel_rfl) (by kernel_rfl) (fun w => by kernel_rfl) ?_
            refine reg_now 2 (.bool false) (some 34) hQN HS (by kernel_rfl) (by kernel_rfl) (fun w => by kernel_rfl) ?_
            refine reg_now 3 (.slice (some ⟨p1, o1, none⟩) n uc) (some 35) hQN HS (by kernel_rfl) (by kernel_rfl) (fun w => by kernel_rfl) ?_
            refine reg_now 4 (.int .i64 (k : Int)) (some 36) hQN HS (by kernel_rfl) (by kernel_rfl) (fun w => by kernel_rfl) ?_
            refine reg_now 5 (.pointer (some ⟨p1, o1 + 32 * k, none⟩)) (some 37) hQN HS (by kernel_rfl) (by kernel_rfl) (fun w' => exec_indexAt 22 (.tmp 35) (.tmp 36) (by kernel_rfl) _ _ _ (by kernel_rfl) (by kernel_rfl) (run_at_digest p1 o1 n uc k (by omega) _)) ?_
            refine reg_nowIf 6 (.agg (ints .u8 x).toArray) (some 38) hQN HS (by kernel_rfl) (by kernel_rfl) (fun w' hw => exec_load_mid 24 (.tmp 37) (by kernel_rfl) (p1) (o1 + 32 * k) (by kernel_rfl) (ints .u8 x) _ (XW.out w' hw) Tryd.underlying24 rfl (sizeD OX.out.1)) ?_
            refine reg_nowIf 7 (.agg (ints .u8 y).toArray) (some 39) hQN HS (by kernel_rfl) (by kernel_rfl) (fun w' hw => exec_load_mid 24 (.tmp 5) (by kernel_rfl) (X) (0) (by kernel_rfl) (ints .u8 y) _ (YW.out w' hw) Tryd.underlying24 rfl (sizeD OY.out.1)) ?_
            refine reg_call 8 12 #[.agg (ints .u8 x).toArray, .agg (ints .u8 y).toArray] (some 40) _ (by kernel_rfl) (by kernel_rfl) (by kernel_rfl) (rcompare_walk x y OX.out.1 OY.out.1 OX.out.2 OY.out.2 _) ?_
            rintro e0 w7 ⟨rfl, hb7⟩
            have HS7 : Below w6.heap.size w6 w7 := HS.trans (hb7.mono HS.size)
            refine ⟨_, rfl, HS7, ?_⟩
            refine reg_now 9 (.bool (decide ((cmpD x y) < 0))) (some 41) hQN HS7 (by kernel_rfl) (by kernel_rfl) (fun w => by kernel_rfl) ?_
            rw [decide_eq_true (hxy)]
            refine reg_now 10 (.bool true) (some 42) hQN HS7 (by kernel_rfl) (by kernel_rfl) (fun w => by kernel_rfl) ?_
            refine reg_done (by kernel_rfl) (hN _ _ ?_)
            generalize hact : Act.put _ (some 42) _ = act
            simp only [Act.put, List.setIfInBounds_toArray, List.set_cons_succ, List.set_cons_zero] at hact
            subst hact
            have B8 : Hid (Below X wo w7) := B7.out.trans (HS7.mono (by have h := B7.out.size; rw [hX.out] at h; exact h))
            have X8 : Hid (Blk w7 X 24 (ints .u8 y)) := X7.out.below HS7 X7.out.lt
            clear HS HS7 hb7 hQN hN YW XW
            have RW : Hid (w7.rangeAt p1 (o1 + 32 * k) (ints .u8 x)) := RX.out _ (BR.out.trans (B8.out.mono (by rw [← hX.out]; exact ql.out)))
            go_upto_region 9 with (fail)
            refine lin_begin (opsOf Tryd.f15 9) (by kernel_rfl) ?_
            refine lnow 0 (.slice (some ⟨p1, o1, none⟩) n uc) (some 43) ?_
            refine lnow 1 (.int .i64 (k : Int)) (some 44) ?_
            refine lnowP 2 (.pointer (some ⟨p1, o1 + 32 * k, none⟩)) (some 45) (exec_indexAt 22 (.tmp 43) (.tmp 44) (by kernel_rfl) _ _ _ (by kernel_rfl) (by kernel_rfl) (run_at_digest p1 o1 n uc k (by omega) _)) ?_
            refine lnowP 3 (.agg (ints .u8 x).toArray) (some 46) (exec_load_mid 24 (.tmp 45) (by kernel_rfl) (p1) (o1 + 32 * k) (by kernel_rfl) (ints .u8 x) _ RW.out Tryd.underlying24 rfl (sizeD OX.out.1)) ?_
            refine lin_put 4 24 (.tmp 5) (.tmp 46) X _ (ints .u8 y) (ints .u8 x) (by kernel_rfl) (by kernel_rfl) (by kernel_rfl) (by kernel_rfl) (by kernel_rfl) X8.out (len2D OX.out.1 OY.out.1) (sizeD OX.out.1) (ints_oneCell _ _) ?_
            intro wz bwz uwz
            refine lin_done 5 (by kernel_rfl) ?_
            generalize hact : Act.put _ none _ = act
            simp only [Act.put, List.setIfInBounds_toArray, List.set_cons_succ, List.set_cons_zero] at hact
            subst hact
            have XZ : Hid (Blk wz X 24 (ints .u8 ((some x).getD z32N))) := bwz
            have BZ : Hid (Below X wo wz) := uwz.below B8.out (Nat.le_refl _) (Nat.le_of_lt X8.out.lt)
            clear bwz uwz RW B8 X8 RX BW XA BA NA
            go_upto_region 10 with (fail)
            refine lin_begin (opsOf Tryd.f15 10) (by kernel_rfl) ?_
            refine lnow 0 (.bool true) (some 4) ?_
            refine lin_done 1 (by kernel_rfl) ?_
            generalize hact : Act.put _ (some 4) _ = act
            simp only [Act.put, List.setIfInBounds_toArray, List.set_cons_succ, List.set_cons_zero] at hact
            subst hact
            have NZ : Hid (nextN last (ds.take (k + 1)) = some x) := NS.out.trans (stepN_less CN hxy)
            clear NS NJ AM
            skip
            go_wp2
            go_roundw
            case rel => exact ⟨k + 1, some x, by omega, rfl, by go_num, NZ, XZ, BZ⟩
            case measure => simp [intOf]; omega
          go_upto_region 8 with (fail)
          refine region_begin (opsOf Tryd.f15 8) (fun w' => Below w6.heap.size w6 w') (by kernel_rfl) (by kernel_rfl) 11 (by kernel_rfl) ?_
          intro Q' hQN hN
          have HS : Below w6.heap.size w6 (World.drew w6) := (Below.refl _ _).drew
          refine reg_now 0 (.bool true) (some 32) hQN HS (by kernel_rfl) (by kernel_rfl) (fun w => by kernel_rfl) ?_
          refine reg_now 1 (.bool false) (some 33) hQN HS (by kernel_rfl) (by kernel_rfl) (fun w => by kernel_rfl) ?_
          refine reg_now 2 (.bool false) (some 34) hQN HS (by kernel_rfl) (by kernel_rfl) (fun w => by kernel_rfl) ?_
          refine reg_now 3 (.slice (some ⟨p1, o1, none⟩) n uc) (some 35) hQN HS (by kernel_rfl) (by kernel_rfl) (fun w => by kernel_rfl) ?_
          refine reg_now 4 (.int .i64 (k : Int)) (some 36) hQN HS (by kernel_rfl) (by kernel_rfl) (fun w => by kernel_rfl) ?_
          refine reg_now 5 (.pointer (some ⟨p1, o1 + 32 * k, none⟩)) (some 37) hQN HS (by kernel_rfl) (by kernel_rfl) (fun w' => exec_indexAt 22 (.tmp 35) (.tmp 36) (by kernel_rfl) _ _ _ (by kernel_rfl) (by kernel_rfl) (run_at_digest p1 o1 n uc k (by omega) _)) ?_
          refine reg_nowIf 6 (.agg (ints .u8 x).toArray) (some 38) hQN HS (by kernel_rfl) (by kernel_rfl) (fun w' hw => exec_load_mid 24 (.tmp 37) (by kernel_rfl) (p1) (o1 + 32 * k) (by kernel_rfl) (ints .u8 x) _ (XW.out w' hw) Tryd.underlying24 rfl (sizeD OX.out.1)) ?_
          refine reg_nowIf 7 (.agg (ints .u8 y).toArray) (some 39) hQN HS (by kernel_rfl) (by kernel_rfl) (fun w' hw => exec_load_mid 24 (.tmp 5) (by kernel_rfl) (X) (0) (by kernel_rfl) (ints .u8 y) _ (YW.out w' hw) Tryd.underlying24 rfl (sizeD OY.out.1)) ?_
          refine reg_call 8 12 #[.agg (ints .u8 x).toArray, .agg (ints .u8 y).toArray] (some 40) _ (by kernel_rfl) (by kernel_rfl) (by kernel_rfl) (rcompare_walk x y OX.out.1 OY.out.1 OX.out.2 OY.out.2 _) ?_
          rintro e0 w7 ⟨rfl, hb7⟩
          have HS7 : Below w6.heap.size w6 w7 := HS.trans (hb7.mono HS.size)
          refine ⟨_, rfl, HS7, ?_⟩
          refine reg_now 9 (.bool (decide ((cmpD x y) < 0))) (some 41) hQN HS7 (by kernel_rfl) (by kernel_rfl) (fun w => by kernel_rfl) ?_
          rw [decide_eq_false (hxy)]
          refine reg_now 10 (.bool false) (some 42) hQN HS7 (by kernel_rfl) (by kernel_rfl) (fun w => by kernel_rfl) ?_
          refine reg_done (by kernel_rfl) (hN _ _ ?_)
          generalize hact : Act.put _ (some 42) _ = act
          simp only [Act.put, List.setIfInBounds_toArray, List.set_cons_succ, List.set_cons_zero] at hact
          subst hact
          have B8 : Hid (Below X wo w7) := B7.out.trans (HS7.mono (by have h := B7.out.size; rw [hX.out] at h; exact h))
          have X8 : Hid (Blk w7 X 24 (ints .u8 y)) := X7.out.below HS7 X7.out.lt
          clear HS HS7 hb7 hQN hN YW XW
          have NZ : Hid (nextN last (ds.take (k + 1)) = some y) := NS.out.trans (stepN_keep hxy)
          have XZ : Hid (Blk w7 X 24 (ints .u8 ((some y).getD z32N))) := X8
          clear X8 NS NJ AM RX BW XA BA NA OX OY hx
          generalize ints .u8 x = vx
          go_wp2
          go_roundw
          case rel => exact ⟨k + 1, some y, by omega, rfl, by go_num, NZ, XZ, B8⟩
          case measure => simp [intOf]; omega
      obtain ⟨l, hlj⟩ : ∃ l, Hid (S[j - 1]? = some l) := ⟨_, List.getElem?_eq_getElem (by omega)⟩
      have OL : Hid (l.length = 32 ∧ isBytes l) := SO.out l (List.mem_of_getElem? hlj.out)
      have LL : Hid (last = some l) := by rw [Hid, hla.out, if_neg (by omega)]; exact hlj.out
      have OW : Hid (DigsIn wr (.slice oa j oc) (S.take j)) := (OB.out.below (by rw [hX.out]; exact BA.out) : OwnD wr q (.slice oa j oc) (S.take j)).in
      obtain ⟨p2, o2, rfl, hp2, hr2⟩ := OW.out.el (fun z hz => (SO.out z (List.mem_of_mem_take hz)).1) (i := j - 1) (x := l) (by rw [List.getElem?_take, if_pos (by omega)]; exact hlj.out)
      have RL : Hid (∀ W, Below wr.heap.size wr W → W.rangeAt p2 (o2 + 32 * (j - 1)) (ints .u8 l)) := fun W hW i v hv => by rw [hW.cell (p := ⟨p2, o2 + 32 * (j - 1) + i, none⟩) hp2]; exact hr2 i v hv
      have XW7 : Hid (∀ W', Below wr.heap.size wr W' → W'.rangeAt p1 (o1 + 32 * k) (ints .u8 x)) := fun W' hW => RX.out W' (BW.out.trans (hW.mono (by have := ql.out; have := xs.out; have := hX.out; omega)))
      clear hr2 hp2
      have sm := SM.out
      by_cases hxl : (cmpD x l) ≤ 0
      · skip
        go_upto_region 7 with (fail)
        refine region_begin (opsOf Tryd.f15 7) (fun w' => Below wr.heap.size wr w') (by kernel_rfl) (by kernel_rfl) 17 (by kernel_rfl) ?_
        intro Q' hQN hN
        have HS : Below wr.heap.size wr (World.drew wr) := (Below.refl _ _).drew
        refine reg_now 0 (.slice (some ⟨p2, o2, none⟩) j oc) (some 15) hQN HS (by kernel_rfl) (by kernel_rfl) (fun w => by kernel_rfl) ?_
        refine reg_now 1 (.int .i64 (j : Int)) (some 16) hQN HS (by kernel_rfl) (by kernel_rfl) (fun w => by kernel_rfl) ?_
        refine reg_now 2 (.bool (decide ((j : Int) > 0))) (some 17) hQN HS (by kernel_rfl) (by kernel_rfl) (fun w => by kernel_rfl) ?_
        rw [decide_eq_true (hj0)]
        refine reg_now 3 (.bool true) (some 18) hQN HS (by kernel_rfl) (by kernel_rfl) (fun w => by kernel_rfl) ?_
        refine reg_now 4 (.slice (some ⟨p1, o1, none⟩) n uc) (some 19) hQN HS (by kernel_rfl) (by kernel_rfl) (fun w => by kernel_rfl) ?_
        refine reg_now 5 (.int .i64 (k : Int)) (some 20) hQN HS (by kernel_rfl) (by kernel_rfl) (fun w => by kernel_rfl) ?_
        refine reg_now 6 (.pointer (some ⟨p1, o1 + 32 * k, none⟩)) (some 21) hQN HS (by kernel_rfl) (by kernel_rfl) (fun w' => exec_indexAt 22 (.tmp 19) (.tmp 20) (by kernel_rfl) _ _ _ (by kernel_rfl) (by kernel_rfl) (run_at_digest p1 o1 n uc k (by omega) _)) ?_
        refine reg_nowIf 7 (.agg (ints .u8 x).toArray) (some 22) hQN HS (by kernel_rfl) (by kernel_rfl) (fun w' hw => exec_load_mid 24 (.tmp 21) (by kernel_rfl) (p1) (o1 + 32 * k) (by kernel_rfl) (ints .u8 x) _ (XW7.out w' hw) Tryd.underlying24 rfl (sizeD OX.out.1)) ?_
        refine reg_now 8 (.slice (some ⟨p2, o2, none⟩) j oc) (some 23) hQN HS (by kernel_rfl) (by kernel_rfl) (fun w => by kernel_rfl) ?_
        refine reg_now 9 (.slice (some ⟨p2, o2, none⟩) j oc) (some 24) hQN HS (by kernel_rfl) (by kernel_rfl) (fun w => by kernel_rfl) ?_
        refine reg_now 10 (.int .i64 (j : Int)) (some 25) hQN HS (by kernel_rfl) (by kernel_rfl) (fun w => by kernel_rfl) ?_
        refine reg_now 11 (.int .i64 (IntKind.i64.wrap ((j : Int) - 1))) (some 26) hQN HS (by kernel_rfl) (by kernel_rfl) (fun w => by kernel_rfl) ?_
        rw [show IntKind.i64.wrap ((j : Int) - 1) = ((j - 1 : Nat) : Int) from (IntWalk.i64_in _ (by omega)).trans (by omega)]
        refine reg_now 12 (.pointer (some ⟨p2, o2 + 32 * (j - 1 : Nat), none⟩)) (some 27) hQN HS (by kernel_rfl) (by kernel_rfl) (fun w' => exec_indexAt 22 (.tmp 23) (.tmp 26) (by kernel_rfl) _ _ _ (by kernel_rfl) (by kernel_rfl) (run_at_digest p2 o2 j oc (j - 1 : Nat) (by omega) _)) ?_
        refine reg_nowIf 13 (.agg (ints .u8 l).toArray) (some 28) hQN HS (by kernel_rfl) (by kernel_rfl) (fun w' hw => exec_load_mid 24 (.tmp 27) (by kernel_rfl) (p2) (o2 + 32 * (j - 1 : Nat)) (by kernel_rfl) (ints .u8 l) _ (RL.out w' hw) Tryd.underlying24 rfl (sizeD OL.out.1)) ?_
        refine reg_call 14 12 #[.agg (ints .u8 x).toArray, .agg (ints .u8 l).toArray] (some 29) _ (by kernel_rfl) (by kernel_rfl) (by kernel_rfl) (rcompare_walk x l OX.out.1 OL.out.1 OX.out.2 OL.out.2 _) ?_
        rintro e0 w6 ⟨rfl, hb7⟩
        have HS7 : Below wr.heap.size wr w6 := HS.trans (hb7.mono HS.size)
        refine ⟨_, rfl, HS7, ?_⟩
        refine reg_now 15 (.bool (decide ((cmpD x l) ≤ 0))) (some 30) hQN HS7 (by kernel_rfl) (by kernel_rfl) (fun w => by kernel_rfl) ?_
        rw [decide_eq_true (hxl)]
        refine reg_now 16 (.bool true) (some 31) hQN HS7 (by kernel_rfl) (by kernel_rfl) (fun w => by kernel_rfl) ?_
        refine reg_done (by kernel_rfl) (hN _ _ ?_)
        generalize hact : Act.put _ (some 31) _ = act
        simp only [Act.put, List.setIfInBounds_toArray, List.set_cons_succ, List.set_cons_zero] at hact
        subst hact
        have B7 : Hid (Below X wo w6) := BA.out.trans (HS7.mono xs.out)
        have X7 : Hid (Blk w6 X 24 (ints .u8 (acc.getD z32N))) := XA.out.below HS7 XA.out.lt
        clear HS HS7 hb7 hQN hN RL XW7 OW
        have NZ : Hid (nextN last (ds.take (k + 1)) = acc) := NS.out.trans (stepN_skip fun hc => by have := hc l LL.out; omega)
        clear NS NJ AM RX BW XA BA NA OX OL hx LL hlj
        generalize ints .u8 x = vx
        generalize ints .u8 l = vl
        go_wp2
        go_roundw
        case rel => exact ⟨k + 1, acc, by omega, rfl, by go_num, NZ, X7, B7⟩
        case measure => simp [intOf]; omega
      go_upto_region 7 with (fail)
      refine region_begin (opsOf Tryd.f15 7) (fun w' => Below wr.heap.size wr w') (by kernel_rfl) (by kernel_rfl) 17 (by kernel_rfl) ?_
      intro Q' hQN hN
      have HS : Below wr.heap.size wr (World.drew wr) := (Below.refl _ _).drew
      refine reg_now 0 (.slice (some ⟨p2, o2, none⟩) j oc) (some 15) hQN HS (by kernel_rfl) (by kernel_rfl) (fun w => by kernel_rfl) ?_
      refine reg_now 1 (.int .i64 (j : Int)) (some 16) hQN HS (by kernel_rfl) (by kernel_rfl) (fun w => by kernel_rfl) ?_
      refine reg_now 2 (.bool (decide ((j : Int) > 0))) (some 17) hQN HS (by kernel_rfl) (by kernel_rfl) (fun w => by kernel_rfl) ?_
      rw [decide_eq_true (hj0)]
      refine reg_now 3 (.bool true) (some 18) hQN HS (by kernel_rfl) (by kernel_rfl) (fun w => by kernel_rfl) ?_
      refine reg_now 4 (.slice (some ⟨p1, o1, none⟩) n uc) (some 19) hQN HS (by kernel_rfl) (by kernel_rfl) (fun w => by kernel_rfl) ?_
      refine reg_now 5 (.int .i64 (k : Int)) (some 20) hQN HS (by kernel_rfl) (by kernel_rfl) (fun w => by kernel_rfl) ?_
      refine reg_now 6 (.pointer (some ⟨p1, o1 + 32 * k, none⟩)) (some 21) hQN HS (by kernel_rfl) (by kernel_rfl) (fun w' => exec_indexAt 22 (.tmp 19) (.tmp 20) (by kernel_rfl) _ _ _ (by kernel_rfl) (by kernel_rfl) (run_at_digest p1 o1 n uc k (by omega) _)) ?_
      refine reg_nowIf 7 (.agg (ints .u8 x).toArray) (some 22) hQN HS (by kernel_rfl) (by kernel_rfl) (fun w' hw => exec_load_mid 24 (.tmp 21) (by kernel_rfl) (p1) (o1 + 32 * k) (by kernel_rfl) (ints .u8 x) _ (XW7.out w' hw) Tryd.underlying24 rfl (sizeD OX.out.1)) ?_
      refine reg_now 8 (.slice (some ⟨p2, o2, none⟩) j oc) (some 23) hQN HS (by kernel_rfl) (by kernel_rfl) (fun w => by kernel_rfl) ?_
      refine reg_now 9 (.slice (some ⟨p2, o2, none⟩) j oc) (some 24) hQN HS (by kernel_rfl) (by kernel_rfl) (fun w => by kernel_rfl) ?_
      refine reg_now 10 (.int .i64 (j : Int)) (some 25) hQN HS (by kernel_rfl) (by kernel_rfl) (fun w => by kernel_rfl) ?_
      refine reg_now 11 (.int .i64 (IntKind.i64.wrap ((j : Int) - 1))) (some 26) hQN HS (by kernel_rfl) (by kernel_rfl) (fun w => by kernel_rfl) ?_
      rw [show IntKind.i64.wrap ((j : Int) - 1) = ((j - 1 : Nat) : Int) from (IntWalk.i64_in _ (by omega)).trans (by omega)]
      refine reg_now 12 (.pointer (some ⟨p2, o2 + 32 * (j - 1 : Nat), none⟩)) (some 27) hQN HS (by kernel_rfl) (by kernel_rfl) (fun w' => exec_indexAt 22 (.tmp 23) (.tmp 26) (by kernel_rfl) _ _ _ (by kernel_rfl) (by kernel_rfl) (run_at_digest p2 o2 j oc (j - 1 : Nat) (by omega) _)) ?_
      refine reg_nowIf 13 (.agg (ints .u8 l).toArray) (some 28) hQN HS (by kernel_rfl) (by kernel_rfl) (fun w' hw => exec_load_mid 24 (.tmp 27) (by kernel_rfl) (p2) (o2 + 32 * (j - 1 : Nat)) (by kernel_rfl) (ints .u8 l) _ (RL.out w' hw) Tryd.underlying24 rfl (sizeD OL.out.1)) ?_
      refine reg_call 14 12 #[.agg (ints .u8 x).toArray, .agg (ints .u8 l).toArray] (some 29) _ (by kernel_rfl) (by kernel_rfl) (by kernel_rfl) (rcompare_walk x l OX.out.1 OL.out.1 OX.out.2 OL.out.2 _) ?_
      rintro e0 w6 ⟨rfl, hb7⟩
      have HS7 : Below wr.heap.size wr w6 := HS.trans (hb7.mono HS.size)
      refine ⟨_, rfl, HS7, ?_⟩
      refine reg_now 15 (.bool (decide ((cmpD x l) ≤ 0))) (some 30) hQN HS7 (by kernel_rfl) (by kernel_rfl) (fun w => by kernel_rfl) ?_
      rw [decide_eq_false (hxl)]
      refine reg_now 16 (.bool false) (some 31) hQN HS7 (by kernel_rfl) (by kernel_rfl) (fun w => by kernel_rfl) ?_
      refine reg_done (by kernel_rfl) (hN _ _ ?_)
      generalize hact : Act.put _ (some 31) _ = act
      simp only [Act.put, List.setIfInBounds_toArray, List.set_cons_succ, List.set_cons_zero] at hact
      subst hact
      have B7 : Hid (Below X wo w6) := BA.out.trans (HS7.mono xs.out)
      have X7 : Hid (Blk w6 X 24 (ints .u8 (acc.getD z32N))) := XA.out.below HS7 XA.out.lt
      clear HS HS7 hb7 hQN hN RL XW7 OW
      have CN : candN last x := fun l2 hl2 => by rw [LL.out] at hl2; obtain rfl := Option.some.inj hl2; omega
      cases acc with
      | none =>
        go_upto_region 8 with (fail)
        refine region_begin (opsOf Tryd.f15 8) (fun w' => Below w6.heap.size w6 w') (by kernel_rfl) (by kernel_rfl) 11 (by kernel_rfl) ?_
        intro Q' hQN hN
        have HS : Below w6.heap.size w6 (World.drew w6) := (Below.refl _ _).drew
        refine reg_now 0 (.bool false) (some 32) hQN HS (by kernel_rfl) (by kernel_rfl) (fun w => by kernel_rfl) ?_
        refine reg_now 1 (.bool true) (some 33) hQN HS (by kernel_rfl) (by kernel_rfl) (fun w => by kernel_rfl) ?_
        refine reg_now 2 (.bool true) (some 34) hQN HS (by kernel_rfl) (by kernel_rfl) (fun w => by kernel_rfl) ?_
        refine reg_pass 3 (some 35) hQN HS (by kernel_rfl) (by kernel_rfl) ?_
        refine reg_pass 4 (some 36) hQN HS (by kernel_rfl) (by kernel_rfl) ?_
        refine reg_pass 5 (some 37) hQN HS (by kernel_rfl) (by kernel_rfl) ?_
        refine reg_pass 6 (some 38) hQN HS (by kernel_rfl) (by kernel_rfl) ?_
        refine reg_pass 7 (some 39) hQN HS (by kernel_rfl) (by kernel_rfl) ?_
        refine reg_pass 8 (some 40) hQN HS (by kernel_rfl) (by kernel_rfl) ?_
        refine reg_pass 9 (some 41) hQN HS (by kernel_rfl) (by kernel_rfl) ?_
        refine reg_now 10 (.bool true) (some 42) hQN HS (by kernel_rfl) (by kernel_rfl) (fun w => by kernel_rfl) ?_
        refine reg_done (by kernel_rfl) (hN _ _ ?_)
        generalize hact : Act.put _ (some 42) _ = act
        simp only [Act.put, List.setIfInBounds_toArray, List.set_cons_succ, List.set_cons_zero] at hact
        subst hact
        have B8 : Hid (Below X wo (World.drew w6)) := B7.out.trans (HS.mono (by have h := B7.out.size; rw [hX.out] at h; exact h))
        have X8 : Hid (Blk (World.drew w6) X 24 (ints .u8 z32N)) := X7.out.below HS X7.out.lt
        clear HS hQN hN
        generalize World.drew w6 = w8 at B8 X8 ⊢
        have RW : Hid (w8.rangeAt p1 (o1 + 32 * k) (ints .u8 x)) := RX.out _ (BR.out.trans (B8.out.mono (by rw [← hX.out]; exact ql.out)))
        go_upto_region 9 with (fail)
        refine lin_begin (opsOf Tryd.f15 9) (by kernel_rfl) ?_
        refine lnow 0 (.slice (some ⟨p1, o1, none⟩) n uc) (some 43) ?_
        refine lnow 1 (.int .i64 (k : Int)) (some 44) ?_
        refine lnowP 2 (.pointer (some ⟨p1, o1 + 32 * k, none⟩)) (some 45) (exec_indexAt 22 (.tmp 43) (.tmp 44) (by kernel_rfl) _ _ _ (by kernel_rfl) (by kernel_rfl) (run_at_digest p1 o1 n uc k (by omega) _)) ?_
        refine lnowP 3 (.agg (ints .u8 x).toArray) (some 46) (exec_load_mid 24 (.tmp 45) (by kernel_rfl) (p1) (o1 + 32 * k) (by kernel_rfl) (ints .u8 x) _ RW.out Tryd.underlying24 rfl (sizeD OX.out.1)) ?_
        refine lin_put 4 24 (.tmp 5) (.tmp 46) X _ (ints .u8 z32N) (ints .u8 x) (by kernel_rfl) (by kernel_rfl) (by kernel_rfl) (by kernel_rfl) (by kernel_rfl) X8.out (len2D OX.out.1 z32N_len) (sizeD OX.out.1) (ints_oneCell _ _) ?_
        intro wz bwz uwz
        refine lin_done 5 (by kernel_rfl) ?_
        generalize hact : Act.put _ none _ = act
        simp only [Act.put, List.setIfInBounds_toArray, List.set_cons_succ, List.set_cons_zero] at hact
        subst hact
        have XZ : Hid (Blk wz X 24 (ints .u8 ((some x).getD z32N))) := bwz
        have BZ : Hid (Below X wo wz) := uwz.below B8.out (Nat.le_refl _) (Nat.le_of_lt X8.out.lt)
        clear bwz uwz RW B8 X8 RX BW XA BA NA
        go_upto_region 10 with (fail)
        refine lin_begin (opsOf Tryd.f15 10) (by kernel_rfl) ?_
        refine lnow 0 (.bool true) (some 4) ?_
        refine lin_done 1 (by kernel_rfl) ?_
        generalize hact : Act.put _ (some 4) _ = act
        simp only [Act.put, List.setIfInBounds_toArray, List.set_cons_succ, List.set_cons_zero] at hact
        subst hact
        have NZ : Hid (nextN last (ds.take (k + 1)) = some x) := NS.out.trans (stepN_first CN)
        clear NS NJ AM
        skip
        go_wp2
        go_roundw
        case rel => exact ⟨k + 1, some x, by omega, rfl, by go_num, NZ, XZ, BZ⟩
        case measure => simp [intOf]; omega
      | some y =>
        have OY : Hid (y.length = 32 ∧ isBytes y) := HOK.out y (AM.out y rfl)
        have YW : Hid (∀ W', Below w6.heap.size w6 W' → W'.rangeAt X 0 (ints .u8 y)) := fun W' hW => (X7.out.below hW X7.out.lt : Blk W' X 24 (ints .u8 y)).whole
        have XW : Hid (∀ W', Below w6.heap.size w6 W' → W'.rangeAt p1 (o1 + 32 * k) (ints .u8 x)) := fun W' hW => RX.out W' (BR.out.trans ((B7.out.trans (hW.mono (by have h := B7.out.size; rw [hX.out] at h; exact h))).mono (by rw [← hX.out]; exact ql.out)))
        by_cases hxy : (cmpD x y) < 0
        · skip
          go_upto_region 8 with (fail)
          refine region_begin (opsOf Tryd.f15 8) (fun w' => Below w6.heap.size w6 w') (by kernel_rfl) (by kernel_rfl) 11 (by kernel_rfl) ?_
          intro Q' hQN hN
          have HS : Below w6.heap.size w6 (World.drew w6) := (Below.refl _ _).drew
          refine reg_now 0 (.bool true) (some 32) hQN HS (by kernel_rfl) (by kernel_rfl) (fun w => by kernel_rfl) ?_
          refine reg_now 1 (.bool false) (some 33) hQN HS (by kernel_rfl) (by kernel_rfl) (fun w => by kernel_rfl) ?_
          refine reg_now 2 (.bool false) (some 34) hQN HS (by kernel_rfl) (by kernel_rfl) (fun w => by kernel_rfl) ?_
          refine reg_now 3 (.slice (some ⟨p1, o1, none⟩) n uc) (some 35) hQN HS (by kernel_rfl) (by kernel_rfl) (fun w => by kernel_rfl) ?_
          refine reg_now 4 (.int .i64 (k : Int)) (some 36) hQN HS (by kernel_rfl) (by kernel_rfl) (fun w => by kernel_rfl) ?_
          refine reg_now 5 (.pointer (some ⟨p1, o1 + 32 * k, none⟩)) (some 37) hQN HS (by kernel_rfl) (by kernel_rfl) (fun w' => exec_indexAt 22 (.tmp 35) (.tmp 36) (by kernel_rfl) _ _ _ (by kernel_rfl) (by kernel_rfl) (run_at_digest p1 o1 n uc k (by omega) _)) ?_
          refine reg_nowIf 6 (.agg (ints .u8 x).toArray) (some 38) hQN HS (by kernel_rfl) (by kernel_rfl) (fun w' hw => exec_load_mid 24 (.tmp 37) (by kernel_rfl) (p1) (o1 + 32 * k) (by kernel_rfl) (ints .u8 x) _ (XW.out w' hw) Tryd.underlying24 rfl (sizeD OX.out.1)) ?_
          refine reg_nowIf 7 (.agg (ints .u8 y).toArray) (some 39) hQN HS (by kernel_rfl) (by kernel_rfl) (fun w' hw => exec_load_mid 24 (.tmp 5) (by kernel_rfl) (X) (0) (by kernel_rfl) (ints .u8 y) _ (YW.out w' hw) Tryd.underlying24 rfl (sizeD OY.out.1)) ?_
          refine reg_call 8 12 #[.agg (ints .u8 x).toArray, .agg (ints .u8 y).toArray] (some 40) _ (by kernel_rfl) (by kernel_rfl) (by kernel_rfl) (rcompare_walk x y OX.out.1 OY.out.1 OX.out.2 OY.out.2 _) ?_
          rintro e0 w7 ⟨rfl, hb7⟩
          have HS7 : Below w6.heap.size w6 w7 := HS.trans (hb7.mono HS.size)
          refine ⟨_, rfl, HS7, ?_⟩
          refine reg_now 9 (.bool (decide ((cmpD x y) < 0))) (some 41) hQN HS7 (by kernel_rfl) (by kernel_rfl) (fun w => by kernel_rfl) ?_
          rw [decide_eq_true (hxy)]
          refine reg_now 10 (.bool true) (some 42) hQN HS7 (by kernel_rfl) (by kernel_rfl) (fun w => by kernel_rfl) ?_
          refine reg_done (by kernel_rfl) (hN _ _ ?_)
          generalize hact : Act.put _ (some 42) _ = act
          simp only [Act.put, List.setIfInBounds_toArray, List.set_cons_succ, List.set_cons_zero] at hact
          subst hact
          have B8 : Hid (Below X wo w7) := B7.out.trans (HS7.mono (by have h := B7.out.size; rw [hX.out] at h; exact h))
          have X8 : Hid (Blk w7 X 24 (ints .u8 y)) := X7.out.below HS7 X7.out.lt
          clear HS HS7 hb7 hQN hN YW XW
          have RW : Hid (w7.rangeAt p1 (o1 + 32 * k) (ints .u8 x)) := RX.out _ (BR.out.trans (B8.out.mono (by rw [← hX.out]; exact ql.out)))
          go_upto_region 9 with (fail)
          refine lin_begin (opsOf Tryd.f15 9) (by kernel_rfl) ?_
          refine lnow 0 (.slice (some ⟨p1, o1, none⟩) n uc) (some 43) ?_
          refine lnow 1 (.int .i64 (k : Int)) (some 44) ?_
          refine lnowP 2 (.pointer (some ⟨p1, o1 + 32 * k, none⟩)) (some 45) (exec_indexAt 22 (.tmp 43) (.tmp 44) (by kernel_rfl) _ _ _ (by kernel_rfl) (by kernel_rfl) (run_at_digest p1 o1 n uc k (by omega) _)) ?_
          refine lnowP 3 (.agg (ints .u8 x).toArray) (some 46) (exec_load_mid 24 (.tmp 45) (by kernel_rfl) (p1) (o1 + 32 * k) (by kernel_rfl) (ints .u8 x) _ RW.out Tryd.underlying24 rfl (sizeD OX.out.1)) ?_
          refine lin_put 4 24 (.tmp 5) (.tmp 46) X _ (ints .u8 y) (ints .u8 x) (by kernel_rfl) (by kernel_rfl) (by kernel_rfl) (by kernel_rfl) (by kernel_rfl) X8.out (len2D OX.out.1 OY.out.1) (sizeD OX.out.1) (ints_oneCell _ _) ?_
          intro wz bwz uwz
          refine lin_done 5 (by kernel_rfl) ?_
          generalize hact : Act.put _ none _ = act
          simp only [Act.put, List.setIfInBounds_toArray, List.set_cons_succ, List.set_cons_zero] at hact
          subst hact
          have XZ : Hid (Blk wz X 24 (ints .u8 ((some x).getD z32N))) := bwz
          have BZ : Hid (Below X wo wz) := uwz.below B8.out (Nat.le_refl _) (Nat.le_of_lt X8.out.lt)
          clear bwz uwz RW B8 X8 RX BW XA BA NA
          go_upto_region 10 with (fail)
          refine lin_begin (opsOf Tryd.f15 10) (by kernel_rfl) ?_
          refine lnow 0 (.bool true) (some 4) ?_
          refine lin_done 1 (by kernel_rfl) ?_
          generalize hact : Act.put _ (some 4) _ = act
          simp only [Act.put, List.setIfInBounds_toArray, List.set_cons_succ, List.set_cons_zero] at hact
          subst hact
          have NZ : Hid (nextN last (ds.take (k + 1)) = some x) := NS.out.trans (stepN_less CN hxy)
          clear NS NJ AM
          skip
          go_wp2
          go_roundw
          case rel => exact ⟨k + 1, some x, by omega, rfl, by go_num, NZ, XZ, BZ⟩
          case measure => simp [intOf]; omega
        go_upto_region 8 with (fail)
        refine region_begin (opsOf Tryd.f15 8) (fun w' => Below w6.heap.size w6 w') (by kernel_rfl) (by kernel_rfl) 11 (by kernel_rfl) ?_
        intro Q' hQN hN
        have HS : Below w6.heap.size w6 (World.drew w6) := (Below.refl _ _).drew
        refine reg_now 0 (.bool true) (some 32) hQN HS (by kernel_rfl) (by kernel_rfl) (fun w => by kernel_rfl) ?_
        refine reg_now 1 (.bool false) (some 33) hQN HS (by kernel_rfl) (by kernel_rfl) (fun w => by kernel_rfl) ?_
        refine reg_now 2 (.bool false) (some 34) hQN HS (by kernel_rfl) (by kernel_rfl) (fun w => by kernel_rfl) ?_
        refine reg_now 3 (.slice (some ⟨p1, o1, none⟩) n uc) (some 35) hQN HS (by kernel_rfl) (by kernel_rfl) (fun w => by kernel_rfl) ?_
        refine reg_now 4 (.int .i64 (k : Int)) (some 36) hQN HS (by kernel_rfl) (by kernel_rfl) (fun w => by kernel_rfl) ?_
        refine reg_now 5 (.pointer (some ⟨p1, o1 + 32 * k, none⟩)) (some 37) hQN HS (by kernel_rfl) (by kernel_rfl) (fun w' => exec_indexAt 22 (.tmp 35) (.tmp 36) (by kernel_rfl) _ _ _ (by kernel_rfl) (by kernel_rfl) (run_at_digest p1 o1 n uc k (by omega) _)) ?_
        refine reg_nowIf 6 (.agg (ints .u8 x).toArray) (some 38) hQN HS (by kernel_rfl) (by kernel_rfl) (fun w' hw => exec_load_mid 24 (.tmp 37) (by kernel_rfl) (p1) (o1 + 32 * k) (by kernel_rfl) (ints .u8 x) _ (XW.out w' hw) Tryd.underlying24 rfl (sizeD OX.out.1)) ?_
        refine reg_nowIf 7 (.agg (ints .u8 y).toArray) (some 39) hQN HS (by kernel_rfl) (by kernel_rfl) (fun w' hw => exec_load_mid 24 (.tmp 5) (by kernel_rfl) (X) (0) (by kernel_rfl) (ints .u8 y) _ (YW.out w' hw) Tryd.underlying24 rfl (sizeD OY.out.1)) ?_
        refine reg_call 8 12 #[.agg (ints .u8 x).toArray, .agg (ints .u8 y).toArray] (some 40) _ (by kernel_rfl) (by kernel_rfl) (by kernel_rfl) (rcompare_walk x y OX.out.1 OY.out.1 OX.out.2 OY.out.2 _) ?_
        rintro e0 w7 ⟨rfl, hb7⟩
        have HS7 : Below w6.heap.size w6 w7 := HS.trans (hb7.mono HS.size)
        refine ⟨_, rfl, HS7, ?_⟩
        refine reg_now 9 (.bool (decide ((cmpD x y) < 0))) (some 41) hQN HS7 (by kernel_rfl) (by kernel_rfl) (fun w => by kernel_rfl) ?_
        rw [decide_eq_false (hxy)]
        refine reg_now 10 (.bool false) (some 42) hQN HS7 (by kernel_rfl) (by kernel_rfl) (fun w => by kernel_rfl) ?_
        refine reg_done (by kernel_rfl) (hN _ _ ?_)
        generalize hact : Act.put _ (some 42) _ = act
        simp only [Act.put, List.setIfInBounds_toArray, List.set_cons_succ, List.set_cons_zero] at hact
        subst hact
        have B8 : Hid (Below X wo w7) := B7.out.trans (HS7.mono (by have h := B7.out.size; rw [hX.out] at h; exact h))
        have X8 : Hid (Blk w7 X 24 (ints .u8 y)) := X7.out.below HS7 X7.out.lt
        clear HS HS7 hb7 hQN hN YW XW
        have NZ : Hid (nextN last (ds.take (k + 1)) = some y) := NS.out.trans (stepN_keep hxy)
        have XZ : Hid (Blk w7 X 24 (ints .u8 ((some y).getD z32N))) := X8
        clear X8 NS NJ AM RX BW XA BA NA OX OY hx
        generalize ints .u8 x = vx
        go_wp2
        go_roundw
        case rel => exact ⟨k + 1, some y, by omega, rfl, by go_num, NZ, XZ, B8⟩
        case measure => simp [intOf]; omega
end Go.Proofs.YtoeilaedpibboaaDoor
/- The document's Set. -/
namespace Go.Proofs.YtoeilaedpibboaaDoor
open Go Go.RowKit
set_option maxRecDepth 100000

def digSlO (p o : Nat) : Nat → List Value
  | 0 => []
  | k + 1 => digSlO p o k ++ [.slice (some ⟨p, o + 32 * k, none⟩) 32 32]
theorem digSlO_length (p o k : Nat) : (digSlO p o k).length = k := by
  induction k with
  | zero => rfl
  | succ k ih => simp [digSlO, ih]
theorem digSlO_get (p o k i : Nat) (h : i < k) : (digSlO p o k)[i]? = some (.slice (some ⟨p, o + 32 * i, none⟩) 32 32) := by
  induction k with
  | zero => omega
  | succ k ih =>
    by_cases e : i < k
    · rw [digSlO, List.getElem?_append_left (by rw [digSlO_length]; exact e)]; exact ih e
    · have : i = k := by omega
      subst this
      rw [digSlO, List.getElem?_append_right (by rw [digSlO_length]; omega), digSlO_length]; simp
theorem range_el {w : World} {p o i : Nat} {ds : List (List Int)} {x : List Int} (h3 : w.rangeAt p o (ints .u8 ds.flatten)) (h32 : all32 ds) (hx : ds[i]? = some x) : w.rangeAt p (o + 32 * i) (ints .u8 x) := by
  intro j v hv
  have e1 : ((ints .u8 ds.flatten).drop (32 * i)).take 32 = ints .u8 x := by rw [ints_drop, ints_take, flat32_at h32 hx]
  rw [← e1, List.getElem?_take, List.getElem?_drop] at hv
  split at hv
  · have h4 := h3 (32 * i + j) v hv
    rw [show o + 32 * i + j = o + (32 * i + j) by omega]
    exact h4
  · cases hv
theorem parts_own {w : World} {G p o : Nat} {v : Value} {S : List (List Int)} (hO : w.ownsRow G 36 1 v S.length (digSlO p o S.length)) (hp : 0 < S.length → p < w.heap.size ∧ w.rangeAt p o (ints .u8 S.flatten)) (h32 : all32 S) (hl : S.length ≤ 1000) : PartsIn w v S := by
  have hel : ∀ (k : Nat) (v : Value) (zs : List Int), (digSlO p o S.length)[k]? = some v → S[k]? = some zs → BytesIn w v zs ∧ NilOk v ∧ zs.length ≤ 140737488351232 := fun k v zs hv hz => by
    have hk : k < S.length := (List.getElem?_eq_some_iff.1 hz).1
    rw [digSlO_get _ _ _ _ hk] at hv
    obtain rfl := Option.some.inj hv
    have hzl : zs.length = 32 := h32 zs (List.mem_of_getElem? hz)
    obtain ⟨h1, h2⟩ := hp (by omega)
    exact ⟨⟨some ⟨p, o + 32 * k, none⟩, 32, by rw [hzl], by omega, fun _ => ⟨p, o + 32 * k, rfl, h1, range_el h2 h32 hz⟩⟩, trivial, by omega⟩
  rcases hO.2 with ⟨rfl, h0⟩ | ⟨g, cap, cur, rfl, _, hg, hc, _, hs, ht⟩
  · exact ⟨none, 0, digSlO p o S.length, by rw [h0], digSlO_length _ _ _, by omega, fun h => by omega, hel⟩
  · refine ⟨some ⟨g, 0, none⟩, cap, digSlO p o S.length, rfl, digSlO_length _ _ _, by omega, fun _ => ⟨g, 0, rfl, (Array.getElem?_eq_some_iff.1 hg).1, fun j u hu => ?_⟩, hel⟩
    rw [cell_of_row w g (0 + j) cur 36 (0, 0) hg, Nat.zero_add]
    rw [← ht, List.getElem?_take] at hu
    split at hu
    · simpa using hu
    · cases hu
theorem lin_appc {ops : Array Oper} {Q : Exit → Act → World → Prop} {a : Act} {w : World} (i : Nat) (d : Option Tmp) (hi : (ops[i]?.isSome) = true) (hgd : (opAt ops i).guard = none) (hd : (opAt ops i).dst = d) (s x : Operand)
    (ho : (opAt ops i).op = .call { callee := .builtin .append, args := #[s, x], argTypes := #[38, 38] }) (base : Nat) (v : Value) (n : Nat) (xs : List Value) (hs : a.eval s = v) (hown : w.ownsRow base 36 1 v n xs)
    (q2 : Nat) (u : Value) (hx : a.eval x = .slice (some ⟨q2, 0, none⟩) 1 1) (hq : Blk w q2 36 [u]) (h1 : u.oneCell' = true) (hb : n + 1 ≤ 1000000) (hbase : base ≤ w.heap.size)
    (h : ∀ v' w', w'.ownsRow base 36 1 v' (n + 1) (xs ++ [u]) → w.grownBy w' v.ownBlock → (v'.ownBlock = v.ownBlock ∨ v'.ownBlock = some w.heap.size) → wpFrom Tryd.prog ops Q (i + 1) (a.put d v') w') : wpFrom Tryd.prog ops Q i a w := by
  subst hd
  refine ⟨?_⟩
  rw [drop_opAt hi]
  obtain ⟨i0, hi0, hz0, hz1, hz2⟩ := info_parts infoBytes3
  refine wpList_append_own_at w hgd s x 38 ho base 36 i0 (.slice none 0 0) 1 24 Tryd.underlying38 hi0 hz0 hz1 hz2 rfl (by decide) v n xs hs hown
    ⟨q2, 0, none⟩ 1 1 [u] hx rfl ?_ (fun z hz => by rw [List.mem_singleton.1 hz]; exact h1) (by unfold maxLen; omega) (by omega) hbase (fun v' w' a1 a2 _ a4 => (h v' w' a1 a2 a4).out)
  intro j z hj
  rw [Addr.add_mid, Nat.zero_add]
  exact hq.cell hj
theorem run_build_part (u : Value) (w : World) (hu : ∃ a n c, u = .slice a n c) : (Instr.buildSlice 38 1 #[(0, u)]).run Tryd.prog w = .ok (.slice (some ⟨w.heap.size, 0, none⟩) 1 1) (w.alloc (.cells [u].toArray 36)) := by
  obtain ⟨a, n, c, rfl⟩ := hu
  kernel_rfl
theorem run_slice_whole (p o : Nat) (w : World) : (Instr.sliceAt 24 (.pointer (some ⟨p, o, none⟩)) none none none).run Tryd.prog w = .ok (.slice (some ⟨p, o, none⟩) 32 32) w := by kernel_rfl
theorem run_build_nopart (w : World) : (Instr.buildSlice 38 0 #[]).run Tryd.prog w = .ok (.slice (some ⟨w.heap.size, 0, none⟩) 0 0) (w.alloc (.cells #[] 36)) := by kernel_rfl
set_option maxHeartbeats 4000000 in
theorem rset_walk (kind : Int) (u : Value) (ds : List (List Int)) (w : World) (hu : DigsIn w u ds) (hl : ds.length ≤ 40) (hok : okD ds) :
    Calls Tryd.prog 17 #[.int .u8 kind, u] w fun e w' => e = .returned (.agg (ints .u8 (nodeL kind (sortS ds))).toArray) ∧ Below w.heap.size w w' := by
  obtain ⟨ua, uc, rfl, -⟩ := id hu
  obtain ⟨q, hq⟩ : ∃ q, Hid (w.heap.size = q) := ⟨_, rfl⟩
  have HU := Lib.hid hu
  have HOK := Lib.hid hok
  have SO : Hid (okD (sortS ds)) := fun z hz => hok z ((sortS_mem z ds).1 hz)
  have SM : Hid ((sortS ds).length ≤ 40) := Nat.le_trans (sortS_len ds) hl
  have RS : Hid (∀ W, Below w.heap.size w W → Calls Tryd.prog 15 #[.slice ua ds.length uc] W fun e w' => ∃ v, e = .returned v ∧ OwnD w' W.heap.size v (sortS ds) ∧ Below W.heap.size W w') := fun W hW => rsort_walk _ ds W (hu.below hW (Nat.le_refl _)) (by omega) hok
  skip
  obtain ⟨n, hn⟩ : ∃ n, Hid (ds.length = n) := ⟨_, rfl⟩
  rw [hn.out] at RS ⊢
  obtain ⟨S, hS⟩ : ∃ S, Hid (sortS ds = S) := ⟨_, rfl⟩
  rw [hS.out] at SO SM RS ⊢
  rw [hq.out] at RS ⊢
  clear hu hok hl HU HOK
  go_enter Tryd.func17, Tryd.ntmps17
  go_upto_region 0 with (fail)
  refine lin_begin (opsOf Tryd.f17 0) (by kernel_rfl) ?_
  refine lin_alloc 0 24 (ints .u8 z32N) q (some 4) (by kernel_rfl) (by kernel_rfl) (by kernel_rfl) (by kernel_rfl) hq ?_
  intro w1 b1 be1 hs1
  refine lin_done 1 (by kernel_rfl) ?_
  generalize hact : Act.put _ (some 4) _ = act
  simp only [Act.put, List.setIfInBounds_toArray, List.set_cons_succ, List.set_cons_zero] at hact
  subst hact
  have hmk := run_build_nopart w1
  have O2 : Hid ((w1.alloc (.cells #[] 36)).ownsRow w1.heap.size 36 1 (.slice (some ⟨w1.heap.size, 0, none⟩) 0 0) 0 []) := ⟨rfl, .inr ⟨w1.heap.size, 0, #[], rfl, Nat.le_refl _, heap_alloc_last w1 _, Nat.le_refl _, by unfold maxLen; omega, rfl, rfl⟩⟩
  have B2 : Hid (Below w1.heap.size w1 (w1.alloc (.cells #[] 36))) := (Below.refl _ _).alloc (Nat.le_refl _) _
  have s2 : Hid ((w1.alloc (.cells #[] 36)).heap.size = q + 2) := by rw [Hid]; have := hs1.out; simp; omega
  rw [hs1.out] at hmk O2 B2
  go_upto_region 1 with (fail)
  refine lin_begin (opsOf Tryd.f17 1) (by kernel_rfl) ?_
  generalize w1.alloc (.cells #[] 36) = w2 at hmk O2 B2 s2
  refine lin_value 0 (.slice (some ⟨q + 1, 0, none⟩) 0 0) (some 8) w2 (by kernel_rfl) (by kernel_rfl) (exec_of (Instr.buildSlice 38 0 #[]) _ (by kernel_rfl) hmk) ?_
  refine lnow 1 (.slice (some ⟨q + 1, 0, none⟩) 0 0) (some 5) ?_
  refine lin_done 2 (by kernel_rfl) ?_
  generalize hact : Act.put _ (some 5) _ = act
  simp only [Act.put, List.setIfInBounds_toArray, List.set_cons_succ, List.set_cons_zero] at hact
  subst hact
  have R2 : Hid (Blk w2 q 24 (ints .u8 z32N)) := b1.below B2.out (by omega)
  have BE2 : Hid (Below q w w2) := be1.trans (B2.out.mono (by omega))
  clear b1 be1 hs1 hmk B2
  go_upto_region 2 with (fail)
  refine lin_begin (opsOf Tryd.f17 2) (by kernel_rfl) ?_
  refine lnow 0 (.slice ua n uc) (some 9) ?_
  refine lin_call 1 15 #[.slice ua n uc] (some 10) _ (by kernel_rfl) (by kernel_rfl) (by kernel_rfl) (RS.out w2 BE2.out) ?_
  rintro e0 w3 ⟨v3, rfl, o3, hb3⟩
  refine ⟨_, rfl, ?_⟩
  have R3 : Hid (Blk w3 q 24 (ints .u8 z32N)) := R2.out.below hb3 R2.out.lt
  have O3 : Hid (w3.ownsRow (q + 1) 36 1 (.slice (some ⟨q + 1, 0, none⟩) 0 0) 0 []) := own_step (F := []) (F' := []) O2.out (Step.of_below hb3 (Nat.le_refl _)) (fun g _ => by simp)
  have BE3 : Hid (Below q w w3) := BE2.out.trans (hb3.mono (by rw [s2.out]; omega))
  have I3 := Lib.hid o3.in
  obtain ⟨sa, sc, hv3⟩ := o3.slice
  subst hv3
  have s3 : Hid (q + 2 ≤ w3.heap.size) := by rw [Hid, ← s2.out]; exact hb3.size
  obtain ⟨m, hm⟩ : ∃ m, Hid (S.length = m) := ⟨_, rfl⟩
  have EX : ∃ p o : Nat, (0 < m → sa = some ⟨p, o, none⟩ ∧ q + 2 ≤ p ∧ p < w3.heap.size ∧ w3.rangeAt p o (ints .u8 S.flatten)) := by
    by_cases h0 : 0 < S.length
    · rcases o3.2 with ⟨e1, h1⟩ | ⟨g, cap, cur, e1, hb2, hg, -⟩
      · omega
      · obtain ⟨a2, c2, e2, hp⟩ := I3.out
        obtain ⟨p, o, h3, h4, h5⟩ := hp h0
        obtain ⟨e3, -, -⟩ := Value.slice.inj e1
        obtain ⟨e4, -, -⟩ := Value.slice.inj e2
        have e5 : p = g := by have := e4.symm.trans e3; rw [h3] at this; exact (Addr.mk.inj (Option.some.inj this)).1
        exact ⟨p, o, fun _ => ⟨e4.trans h3, by rw [e5, ← s2.out]; exact hb2, h4, h5⟩⟩
    · exact ⟨0, 0, fun h => absurd h (by rw [← hm.out]; exact h0)⟩
  obtain ⟨p, o, hpo⟩ := EX
  have PO := Lib.hid hpo
  rw [hm.out] at SM ⊢
  clear hpo o3 hb3 R2 O2 BE2 I3 RS s2
  refine lnow 2 (.slice sa m sc) (some 6) ?_
  refine lin_done 3 (by kernel_rfl) ?_
  generalize hact : Act.put _ (some 6) _ = act
  simp only [Act.put, List.setIfInBounds_toArray, List.set_cons_succ, List.set_cons_zero] at hact
  subst hact
  go_upto_region 3 with (fail)
  refine lin_begin (opsOf Tryd.f17 3) (by kernel_rfl) ?_
  refine lnow 0 (.int .i64 0) (some 7) ?_
  refine lin_done 1 (by kernel_rfl) ?_
  generalize hact : Act.put _ (some 7) _ = act
  simp only [Act.put, List.setIfInBounds_toArray, List.set_cons_succ, List.set_cons_zero] at hact
  subst hact
  go_wp2
  go_loopw [5, 7] (fun pv iv wr => ∃ (pvX : Value) (k : Nat), pvX = pv ∧ k ≤ m ∧ iv = .int .i64 (k : Int) ∧ Hid (wr.ownsRow (q + 1) 36 1 pvX k (digSlO p o k)) ∧ Hid (∀ g, pvX.ownBlock = some g → g = q + 1 ∨ w3.heap.size ≤ g) ∧ Hid (Blk wr q 24 (ints .u8 z32N)) ∧ Hid (0 < m → wr.rangeAt p o (ints .u8 S.flatten)) ∧ Hid (Below q w wr) ∧ Hid (w3.heap.size ≤ wr.heap.size)) (fun _ iv _ => m - (intOf iv).toNat)
  case atStart => exact ⟨_, 0, rfl, Nat.zero_le _, rfl, O3, fun g hg => by simp [Value.ownBlock] at hg; exact .inl hg.symm, R3, fun h => (PO.out h).2.2.2, BE3, Nat.le_refl _⟩
  case round =>
    obtain ⟨pvX, k, hpv, hk, rfl, OW, NB, RR, PR, BW, SW⟩ := hrel
    subst hpv
    clear O3 R3 BE3
    have s3' := s3.out
    have sm := SM.out
    skip
    by_cases hlt : (k : Int) < (m : Int)
    rotate_left
    · skip
      go_upto_region 4 with (fail)
      refine lin_begin (opsOf Tryd.f17 4) (by kernel_rfl) ?_
      refine lnow 0 (.int .i64 (k : Int)) (some 11) ?_
      refine lnow 1 (.slice sa m sc) (some 12) ?_
      refine lnow 2 (.int .i64 (m : Int)) (some 13) ?_
      refine lnow 3 (.bool (decide ((k : Int) < (m : Int)))) (some 14) ?_
      rw [decide_eq_false (hlt)]
      refine lin_done 4 (by kernel_rfl) ?_
      generalize hact : Act.put _ (some 14) _ = act
      simp only [Act.put, List.setIfInBounds_toArray, List.set_cons_succ, List.set_cons_zero] at hact
      subst hact
      obtain rfl : k = m := by omega
      skip
      have PIN : Hid (PartsIn wr pvX S) := parts_own (by rw [hm.out]; exact OW.out) (fun h => by rw [hm.out] at h; exact ⟨by have := (PO.out h).2.2.1; have := SW.out; omega, PR.out h⟩) SO.out.a (by rw [hm.out]; omega)
      have FL : Hid (S.flatten.length ≤ 1500) := by rw [Hid, flat32_length SO.out.a, hm.out]; omega
      clear OW NB PR PO
      go_upto_region 7 with (fail)
      refine lin_begin (opsOf Tryd.f17 7) (by kernel_rfl) ?_
      refine lnow 0 (.int .u8 kind) (some 24) ?_
      refine lnow 1 (pvX) (some 25) ?_
      refine lin_call 2 30 #[.int .u8 kind, pvX] (some 26) _ (by kernel_rfl) (by kernel_rfl) (by kernel_rfl) (rnode_walk kind _ S _ PIN.out (by rw [hm.out]; omega) FL.out) ?_
      rintro e0 w6 ⟨rfl, hb6⟩
      refine ⟨_, rfl, ?_⟩
      have R6 : Hid (Blk w6 q 24 (ints .u8 z32N)) := RR.out.below hb6 RR.out.lt
      have B6 : Hid (Below q w w6) := BW.out.trans (hb6.mono (by have := SW.out; omega))
      clear hb6 RR BW
      obtain ⟨res, hres⟩ : ∃ r, Hid (nodeL kind S = r) := ⟨_, rfl⟩
      have HRS : Hid (res.length = 32) := by rw [Hid, ← hres.out]; exact nodeL_length _ _
      rw [hres.out]
      refine lin_put 3 24 (.tmp 4) (.tmp 26) q _ (ints .u8 z32N) (ints .u8 res) (by kernel_rfl) (by kernel_rfl) (by kernel_rfl) (by kernel_rfl) (by kernel_rfl) R6.out (len2D HRS.out z32N_len) (sizeD HRS.out) (ints_oneCell _ _) ?_
      intro w7 b7 u7
      refine lin_done 4 (by kernel_rfl) ?_
      generalize hact : Act.put _ none _ = act
      simp only [Act.put, List.setIfInBounds_toArray, List.set_cons_succ, List.set_cons_zero] at hact
      subst hact
      have BF : Below q w w7 := u7.below B6.out (Nat.le_refl _) (Nat.le_of_lt R6.out.lt)
      go_wp2
      refine bodyPost_ret (v := .agg (ints .u8 res).toArray) ?_ rfl ⟨by rw [hres.out], BF⟩
      refine results_cell_row (g := q) (t := 24) (cs := (ints .u8 res).toArray) (fr := (0, 0)) Tryd.results17 _ _ _ rfl b7 Tryd.underlying24 rfl (by rw [List.size_toArray, ints_length, HRS.out]; exact infoDigest)
    go_upto_region 4 with (fail)
    refine lin_begin (opsOf Tryd.f17 4) (by kernel_rfl) ?_
    refine lnow 0 (.int .i64 (k : Int)) (some 11) ?_
    refine lnow 1 (.slice sa m sc) (some 12) ?_
    refine lnow 2 (.int .i64 (m : Int)) (some 13) ?_
    refine lnow 3 (.bool (decide ((k : Int) < (m : Int)))) (some 14) ?_
    rw [decide_eq_true (hlt)]
    refine lin_done 4 (by kernel_rfl) ?_
    generalize hact : Act.put _ (some 14) _ = act
    simp only [Act.put, List.setIfInBounds_toArray, List.set_cons_succ, List.set_cons_zero] at hact
    subst hact
    obtain ⟨hsa, hqp, hpw, -⟩ := PO.out (by omega)
    have HA : Hid (∀ W, (Instr.indexAt 22 (.slice sa m sc) (.int .i64 (k : Int))).run Tryd.prog W = .ok (.pointer (some ⟨p, o + 32 * k, none⟩)) W) := fun W => by rw [hsa]; exact run_at_digest p o m sc k (by omega) W
    go_upto_region 6 with (fail)
    refine lin_begin (opsOf Tryd.f17 6) (by kernel_rfl) ?_
    refine lnow 0 (pvX) (some 17) ?_
    refine lnow 1 (.slice sa m sc) (some 18) ?_
    refine lnow 2 (.int .i64 (k : Int)) (some 19) ?_
    refine lnowP 3 (.pointer (some ⟨p, o + 32 * k, none⟩)) (some 20) (exec_indexAt 22 (.tmp 18) (.tmp 19) (by kernel_rfl) _ _ _ (by kernel_rfl) (by kernel_rfl) (HA.out _)) ?_
    refine lnowP 4 (.slice (some ⟨p, o + 32 * k, none⟩) 32 32) (some 21) (exec_of (Instr.sliceAt 24 (.pointer (some ⟨p, o + 32 * k, none⟩)) none none none) _ (by kernel_rfl) (run_slice_whole p _ _)) ?_
    obtain ⟨B4, hB4⟩ : ∃ y, Hid (wr.heap.size = y) := ⟨_, rfl⟩
    refine lin_newrowD 5 36 [.slice (some ⟨p, o + 32 * k, none⟩) 32 32] B4 1 (some 22) (by kernel_rfl) (by kernel_rfl) hB4 (exec_of (Instr.buildSlice 38 1 #[(0, .slice (some ⟨p, o + 32 * k, none⟩) 32 32)]) _ (by kernel_rfl) (run_build_part _ _ ⟨_, _, _, rfl⟩)) ?_
    intro w4 hb4 hbe4 hs4
    have O4 : Hid (w4.ownsRow (q + 1) 36 1 pvX k (digSlO p o k)) := own_step (F := []) (F' := []) OW.out (Step.of_below hbe4 (by rw [hB4.out]; exact Nat.le_refl _)) (fun g _ => by simp)
    refine lin_appc 6 (some 23) (by kernel_rfl) (by kernel_rfl) (by kernel_rfl) (.tmp 17) (.tmp 22) (by kernel_rfl) (q + 1) _ k (digSlO p o k) (by kernel_rfl) O4.out B4 _ (by kernel_rfl) hb4 rfl (by omega) (by have := hs4.out; have := hB4.out; have := SW.out; omega) ?_
    intro v5 w5 h5 g5 hat
    refine lnow 7 (v5) (some 5) ?_
    refine lin_done 8 (by kernel_rfl) ?_
    generalize hact : Act.put _ (some 5) _ = act
    simp only [Act.put, List.setIfInBounds_toArray, List.set_cons_succ, List.set_cons_zero] at hact
    subst hact
    have sB := hB4.out
    have sW := SW.out
    have s4 := hs4.out
    have O5 : Hid (w5.ownsRow (q + 1) 36 1 v5 (k + 1) (digSlO p o (k + 1))) := h5
    have N5 : Hid (∀ g, v5.ownBlock = some g → g = q + 1 ∨ w3.heap.size ≤ g) := fun g hg => by
      rcases hat with h | h
      · exact NB.out g (h.symm.trans hg)
      · rw [h] at hg; obtain rfl := Option.some.inj hg; exact .inr (by omega)
    have nq : ∀ b : Nat, b < w3.heap.size → b ≠ q + 1 → some b ≠ pvX.ownBlock := fun b h1 h2 h3 => by
      rcases NB.out b h3.symm with h | h <;> omega
    have rlt : q < wr.heap.size := RR.out.lt
    have R5 : Hid (Blk w5 q 24 (ints .u8 z32N)) := (g5.block q (by omega) (nq q (by omega) (by omega))).trans (RR.out.below hbe4 (by omega) : Blk w4 q 24 (ints .u8 z32N))
    have P5 : Hid (0 < m → w5.rangeAt p o (ints .u8 S.flatten)) := fun h j z hz => by
      rw [g5.cell_far ⟨p, o + j, none⟩ (by show p < _; omega) (nq p (by omega) (by omega)), hbe4.cell (p := ⟨p, o + j, none⟩) (by show p < B4; omega)]
      exact PR.out h j z hz
    have B5 : Hid (Below q w w5) := (BW.out.trans (hbe4.mono (by omega))).grown g5 (by omega) (fun g hg => by rcases NB.out g hg with h | h <;> omega)
    have S5 : Hid (w3.heap.size ≤ w5.heap.size) := by rw [Hid]; have := g5.size; omega
    clear h5 g5 hat nq hb4 hbe4 hs4 O4 OW NB RR PR BW SW HA
    go_wp2
    go_roundw
    case rel => exact ⟨_, k + 1, rfl, by omega, by go_num, O5, N5, R5, P5, B5, S5⟩
    case measure => simp [intOf]; omega
end Go.Proofs.YtoeilaedpibboaaDoor
