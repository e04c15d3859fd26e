/- Hexadecimal digits of any string: package tag's digitValue and FromHex; the document's value. -/
import Derived.Test.YtoeilaedpibboaaDoorTagFhx
import Derived.Test.YtoeilaedpibboaaDoorGenT
import Derived.Test.YtoeilaedpibboaaDoorTagRa
namespace Go.Proofs.YtoeilaedpibboaaDoor
open Go Go.RowKit
set_option maxRecDepth 100000

def valC (c : Int) : Option Int := if 48 ≤ c ∧ c ≤ 57 then some (c - 48) else if 97 ≤ c ∧ c ≤ 102 then some (c - 87) else none
theorem valC_range {c v : Int} (h : valC c = some v) : 0 ≤ v ∧ v ≤ 15 ∧ c = hexD v := by
  unfold valC at h
  unfold hexD
  split at h
  · obtain rfl := Option.some.inj h
    rw [if_pos (by omega)]; omega
  · split at h
    · obtain rfl := Option.some.inj h
      rw [if_neg (by omega)]; omega
    · cases h
theorem valC_hexD (v : Int) (h0 : 0 ≤ v) (h1 : v ≤ 15) : valC (hexD v) = some v := by
  unfold valC hexD
  by_cases h : v < 10
  · rw [if_pos h, if_pos (by omega)]; congr 1; omega
  · rw [if_neg h, if_neg (by omega), if_pos (by omega)]; congr 1; omega
def dgV (r : Option Int) : Value := .tuple #[.int .u8 (r.getD 0), .bool r.isSome]
theorem digit_walk (c : Int) (hc : 0 ≤ c ∧ c ≤ 255) (w : World) : Calls Tryd.prog 24 #[.int .u8 c] w fun e w' => e = .returned (dgV (valC c)) ∧ w = w' := by
  obtain ⟨h0, h255⟩ := hc
  by_cases h1 : 48 ≤ c
  · by_cases h2 : c ≤ 57
    · have e : Hid (valC c = some (c - 48)) := by rw [Hid]; unfold valC; rw [if_pos ⟨h1, h2⟩]
      go_enter Tryd.func24, Tryd.ntmps24
      go_wp2
      go_ret2
      exact ⟨by rw [e.out]; exact ret_tup (by rw [Option.getD_some] <;> omega), rfl⟩
    · by_cases h3 : 97 ≤ c
      · by_cases h4 : c ≤ 102
        · have e : Hid (valC c = some (c - 87)) := by rw [Hid]; unfold valC; rw [if_neg (by omega), if_pos ⟨h3, h4⟩]
          go_enter Tryd.func24, Tryd.ntmps24
          go_wp2
          go_ret2
          exact ⟨by rw [e.out]; exact ret_tup (by rw [Option.getD_some] <;> omega), rfl⟩
        · have e : Hid (valC c = none) := by rw [Hid]; unfold valC; rw [if_neg (by omega), if_neg (by omega)]
          go_enter Tryd.func24, Tryd.ntmps24
          go_wp2
          go_ret2
          exact ⟨by rw [e.out]; rfl, rfl⟩
      · have e : Hid (valC c = none) := by rw [Hid]; unfold valC; rw [if_neg (by omega), if_neg (by omega)]
        go_enter Tryd.func24, Tryd.ntmps24
        go_wp2
        go_ret2
        exact ⟨by rw [e.out]; rfl, rfl⟩
  · have h3 : ¬ 97 ≤ c := by omega
    have e : Hid (valC c = none) := by rw [Hid]; unfold valC; rw [if_neg (by omega), if_neg (by omega)]
    go_enter Tryd.func24, Tryd.ntmps24
    go_wp2
    go_ret2
    exact ⟨by rw [e.out]; rfl, rfl⟩
def hxK (xs : List Int) : Nat → Option (List Int)
  | 0 => some []
  | k + 1 => match hxK xs k, valC (xs.getD (2 * k) 0), valC (xs.getD (2 * k + 1) 0) with
    | some l, some a, some b => some (l ++ [16 * a + b])
    | _, _, _ => none
def hxV (xs : List Int) : Option (List Int) := if xs.length = 64 then hxK xs 32 else none
theorem hxK_yes {xs : List Int} {k : Nat} {l : List Int} {a b : Int} (h : hxK xs k = some l) (ha : valC (xs.getD (2 * k) 0) = some a) (hb : valC (xs.getD (2 * k + 1) 0) = some b) : hxK xs (k + 1) = some (l ++ [16 * a + b]) := by
  rw [hxK, h, ha, hb]
theorem hxK_no1 {xs : List Int} {k : Nat} (ha : valC (xs.getD (2 * k) 0) = none) : hxK xs (k + 1) = none := by
  rw [hxK, ha]; cases hxK xs k <;> rfl
theorem hxK_no2 {xs : List Int} {k : Nat} (hb : valC (xs.getD (2 * k + 1) 0) = none) : hxK xs (k + 1) = none := by
  rw [hxK, hb]; cases hxK xs k <;> cases valC (xs.getD (2 * k) 0) <;> rfl
theorem hxK_none {xs : List Int} {k : Nat} (h : hxK xs k = none) : ∀ j, hxK xs (k + j) = none
  | 0 => h
  | j + 1 => by rw [← Nat.add_assoc, hxK, hxK_none h j]
theorem hxK_len {xs : List Int} : ∀ {k : Nat} {l : List Int}, hxK xs k = some l → l.length = k
  | 0, l, h => by obtain rfl := Option.some.inj h; rfl
  | k + 1, l, h => by
    rw [hxK] at h
    split at h
    · rename_i l0 a b h1 h2 h3
      obtain rfl := Option.some.inj h
      rw [List.length_append, hxK_len h1]; rfl
    · cases h
theorem hxV_no {xs : List Int} {k : Nat} (h64 : xs.length = 64) (hk : k < 32) (h : hxK xs (k + 1) = none) : hxV xs = none := by
  unfold hxV
  rw [if_pos h64]
  have := hxK_none h (32 - (k + 1))
  rwa [show k + 1 + (32 - (k + 1)) = 32 by omega] at this
/-- What FromHex answers. -/
def fhRes (r : Option (List Int)) : Value := .tuple #[.agg (ints .u8 (r.getD (List.replicate 32 0))).toArray, .bool r.isSome]
theorem join16v (a b : Int) (ha : 0 ≤ a ∧ a ≤ 15) (hb : 0 ≤ b ∧ b ≤ 15) : bits BinOp.or IntKind.u8 (a * 16) b = 16 * a + b := by
  have h := join16 (16 * a + b) (by omega)
  rw [show (16 * a + b) / 16 * 16 = a * 16 by omega, show (16 * a + b) % 16 = b by omega] at h
  exact h
def fzZ (l : List Int) : List Int := l ++ List.replicate (32 - l.length) 0
theorem fzZ_len {l : List Int} (h : l.length ≤ 32) : (fzZ l).length = 32 := by unfold fzZ; rw [List.length_append, List.length_replicate]; omega
theorem fzZ_next {l : List Int} {k : Nat} (hl : l.length = k) (hk : k < 32) (b : Int) : (fzZ l).set k b = fzZ (l ++ [b]) := by
  subst hl
  have h1 := Sha.set_zeros l (32 - (l.length + 1)) b
  rw [show 32 - (l.length + 1) + 1 = 32 - l.length by omega] at h1
  unfold fzZ
  rw [h1, List.length_append]
  rfl
theorem nums_of (z : ByteArray) : ∃ xs, isBytes xs ∧ strOfNums xs = z := by
  refine ⟨z.data.toList.map fun b => (b.toNat : Int), fun x hx => ?_, ?_⟩
  · obtain ⟨b, -, rfl⟩ := List.mem_map.1 hx
    have := b.toNat_lt
    omega
  · unfold strOfNums
    rw [List.map_map]
    have e : ((fun n : Int => UInt8.ofNat n.toNat) ∘ fun b : UInt8 => (b.toNat : Int)) = id := by
      funext b
      simp
    rw [e, List.map_id]
end Go.Proofs.YtoeilaedpibboaaDoor
/- FromHex of any string, package tag's and the document's. -/
namespace Go.Proofs.YtoeilaedpibboaaDoor
open Go Go.RowKit
set_option maxRecDepth 100000

theorem lin_cellD {P : Program} {ops : Array Oper} {Q : Exit → Act → World → Prop} {a : Act} {w : World} (i : Nat) (ty : TypeId) (x y : Operand) (b o : Nat) (t : TypeId) (cs : List Value) (v : Value) (hi : (ops[i]?.isSome && Region.wanted (opAt ops i) (yielded ops a.tmps)) = true) (hd : (opAt ops i).dst = none)
    (ho : (opAt ops i).op = .store ty x y) (hx : a.eval x = .pointer (some ⟨b, o, none⟩)) (hy : a.eval y = v) (hb : Blk w b t cs) (hl : o < cs.length) (hz : (P.info? ty).map (·.size) = some 1) (hv1 : v.cells = #[v]) (hv : v.oneCell' = true)
    (h : ∀ w', Blk w' b t (cs.set o v) → Upd b w w' → wpFrom P ops Q (i + 1) (a.put none undef) w') : wpFrom P ops Q i a w :=
  lin_store i (w.setCell ⟨b, o, none⟩ v) hi hd (exec_store_cell ty x y ho b o v hx hy t cs hb hl hz hv1 hv) (h _ (hb.set o v) ((Upd.refl b w).setCell o v))
theorem exec_shl8 {P : Program} {a : Act} {w : World} {op : Oper} (ty ty2 : TypeId) (x y : Operand) (ho : op.op = .binOp .shl ty x y ty2) (p : Int) (hx : a.eval x = .int .u8 p) (hy : a.eval y = .int .u64 4) (hp : 0 ≤ p ∧ p ≤ 15) : (execOp a.eval op).run P w = .ok (.value (.int .u8 (p * 16))) w := by
  unfold execOp
  simp only [ho, hx, hy, eqGuard_shl, binOp_shl]
  have h := shift_shl_u8 (x := p) (yk := .u64) (y := 4) (by omega) (by omega)
  rw [h]
  have e : IntKind.u8.wrap (p * 2 ^ (4 : Int).toNat) = p * 16 := by
    show IntKind.u8.wrap (p * 16) = p * 16
    exact IntWalk.u8_in _ (by omega)
  rw [e]
  rfl
theorem run_digitI (k : Nat) (hk : k < 16) (w : World) : (Instr.index 9 (.string ⟨#[48, 49, 50, 51, 52, 53, 54, 55, 56, 57, 97, 98, 99, 100, 101, 102]⟩) (.int .i64 (k : Int))).run Tryd.prog w = .ok (.int .u8 (hexD (k : Int))) w := by
  rcases (by omega : k = 0 ∨ k = 1 ∨ k = 2 ∨ k = 3 ∨ k = 4 ∨ k = 5 ∨ k = 6 ∨ k = 7 ∨ k = 8 ∨ k = 9 ∨ k = 10 ∨ k = 11 ∨ k = 12 ∨ k = 13 ∨ k = 14 ∨ k = 15) with rfl | rfl | rfl | rfl | rfl | rfl | rfl | rfl | rfl | rfl | rfl | rfl | rfl | rfl | rfl | rfl
  all_goals kernel_rfl
theorem hb_size (l : List Int) (h : l.length = 32) : (Tryd.prog.info? 24).map (·.size) = some (ints .u8 l).toArray.size := by rw [List.size_toArray, ints_length, h]; exact infoDigest
theorem valC_no {c : Int} (h : ∀ i : Nat, i < 16 → hexD (i : Int) ≠ c) : valC c = none := by
  cases hc : valC c with
  | none => rfl
  | some v =>
    obtain ⟨h0, h1, h2⟩ := valC_range hc
    exact absurd (by rw [h2]; congr 1; omega) (h v.toNat (by omega))
set_option maxHeartbeats 1000000 in
theorem rvalue_walk (c : Int) (w : World) : Calls Tryd.prog 25 #[.int .u8 c] w fun e w' => e = .returned (.int .i64 ((valC c).getD (-1))) ∧ w = w' := by
  go_enter Tryd.func25, Tryd.ntmps25
  go_upto_region 0 with (fail)
  refine lin_begin (opsOf Tryd.f25 0) (by kernel_rfl) ?_
  refine lnow 0 (.int .i64 0) (some 2) ?_
  refine lin_done 1 (by kernel_rfl) ?_
  generalize hact : Act.put _ (some 2) _ = act
  simp only [Act.put, List.setIfInBounds_toArray, List.set_cons_succ, List.set_cons_zero] at hact
  subst hact
  go_upto_region 1 with (fail)
  refine lin_begin (opsOf Tryd.f25 1) (by kernel_rfl) ?_
  refine lnow 0 (.int .i64 0) (some 3) ?_
  refine lin_done 1 (by kernel_rfl) ?_
  generalize hact : Act.put _ (some 3) _ = act
  simp only [Act.put, List.setIfInBounds_toArray, List.set_cons_succ, List.set_cons_zero] at hact
  subst hact
  go_wp2
  go_loopw [3] (fun kv wr => ∃ k : Nat, k ≤ 16 ∧ kv = .int .i64 (k : Int) ∧ Hid (∀ i : Nat, i < k → hexD (i : Int) ≠ c) ∧ wr = w) (fun kv _ => 16 - (intOf kv).toNat)
  case atStart => exact ⟨0, Nat.zero_le _, rfl, fun i hi => absurd hi (by omega), rfl⟩
  case round =>
    obtain ⟨k, hk, rfl, NE, rfl⟩ := hrel
    by_cases hlt : (k : Int) < 16
    rotate_left
    · skip
      go_upto_region 2 with (fail)
      refine lin_begin (opsOf Tryd.f25 2) (by kernel_rfl) ?_
      refine lnow 0 (.int .i64 (k : Int)) (some 4) ?_
      refine lnow 1 (.bool (decide ((k : Int) < 16))) (some 5) ?_
      rw [decide_eq_false (hlt)]
      refine lin_done 2 (by kernel_rfl) ?_
      generalize hact : Act.put _ (some 5) _ = act
      simp only [Act.put, List.setIfInBounds_toArray, List.set_cons_succ, List.set_cons_zero] at hact
      subst hact
      go_upto_region 6 with (fail)
      refine lin_begin (opsOf Tryd.f25 6) (by kernel_rfl) ?_
      refine lnow 0 (.int .i64 (-1)) (some 2) ?_
      refine lin_done 1 (by kernel_rfl) ?_
      generalize hact : Act.put _ (some 2) _ = act
      simp only [Act.put, List.setIfInBounds_toArray, List.set_cons_succ, List.set_cons_zero] at hact
      subst hact
      have VN : Hid (valC c = none) := valC_no fun i hi => NE.out i (by omega)
      go_wp2
      go_ret
      exact ⟨by rw [VN.out]; rfl, rfl⟩
    go_upto_region 2 with (fail)
    refine lin_begin (opsOf Tryd.f25 2) (by kernel_rfl) ?_
    refine lnow 0 (.int .i64 (k : Int)) (some 4) ?_
    refine lnow 1 (.bool (decide ((k : Int) < 16))) (some 5) ?_
    rw [decide_eq_true (hlt)]
    refine lin_done 2 (by kernel_rfl) ?_
    generalize hact : Act.put _ (some 5) _ = act
    simp only [Act.put, List.setIfInBounds_toArray, List.set_cons_succ, List.set_cons_zero] at hact
    subst hact
    have ID := Lib.hid (run_digitI k (by omega))
    have VY : Hid (hexD (k : Int) = c → valC c = some (k : Int)) := fun h => by rw [← h]; exact valC_hexD _ (by omega) (by omega)
    obtain ⟨d, hd⟩ : ∃ d, Hid (hexD (k : Int) = d) := ⟨_, rfl⟩
    rw [hd.out] at ID VY
    have NK : Hid (d ≠ c → ∀ i : Nat, i < k + 1 → hexD (i : Int) ≠ c) := fun h i hi => by rcases (by omega : i < k ∨ i = k) with h1 | rfl; exact NE.out i h1; rw [hd.out]; exact h
    by_cases he : d = c
    · skip
      go_upto_region 4 with (fail)
      refine lin_begin (opsOf Tryd.f25 4) (by kernel_rfl) ?_
      refine lnow 0 (.int .i64 (k : Int)) (some 8) ?_
      refine lnowP 1 (.int .u8 d) (some 9) (exec_of (Instr.index 9 (.string ⟨#[48, 49, 50, 51, 52, 53, 54, 55, 56, 57, 97, 98, 99, 100, 101, 102]⟩) (.int .i64 (k : Int))) _ (by kernel_rfl) (ID.out _)) ?_
      refine lnow 2 (.int .u8 c) (some 10) ?_
      refine lnow 3 (.bool (decide (d = c))) (some 11) ?_
      rw [decide_eq_true (he)]
      refine lin_done 4 (by kernel_rfl) ?_
      generalize hact : Act.put _ (some 11) _ = act
      simp only [Act.put, List.setIfInBounds_toArray, List.set_cons_succ, List.set_cons_zero] at hact
      subst hact
      go_upto_region 5 with (fail)
      refine lin_begin (opsOf Tryd.f25 5) (by kernel_rfl) ?_
      refine lnow 0 (.int .i64 (k : Int)) (some 12) ?_
      refine lnow 1 (.int .i64 (k : Int)) (some 2) ?_
      refine lin_done 2 (by kernel_rfl) ?_
      generalize hact : Act.put _ (some 2) _ = act
      simp only [Act.put, List.setIfInBounds_toArray, List.set_cons_succ, List.set_cons_zero] at hact
      subst hact
      have VK := Lib.hid (VY.out he)
      clear VY NK ID hd NE
      go_wp2
      go_ret
      exact ⟨by rw [VK.out]; rfl, rfl⟩
    go_upto_region 4 with (fail)
    refine lin_begin (opsOf Tryd.f25 4) (by kernel_rfl) ?_
    refine lnow 0 (.int .i64 (k : Int)) (some 8) ?_
    refine lnowP 1 (.int .u8 d) (some 9) (exec_of (Instr.index 9 (.string ⟨#[48, 49, 50, 51, 52, 53, 54, 55, 56, 57, 97, 98, 99, 100, 101, 102]⟩) (.int .i64 (k : Int))) _ (by kernel_rfl) (ID.out _)) ?_
    refine lnow 2 (.int .u8 c) (some 10) ?_
    refine lnow 3 (.bool (decide (d = c))) (some 11) ?_
    rw [decide_eq_false (he)]
    refine lin_done 4 (by kernel_rfl) ?_
    generalize hact : Act.put _ (some 11) _ = act
    simp only [Act.put, List.setIfInBounds_toArray, List.set_cons_succ, List.set_cons_zero] at hact
    subst hact
    have NK2 := Lib.hid (NK.out he)
    clear VY NK ID NE he
    go_wp2
    go_roundw
    case rel => exact ⟨k + 1, by omega, by go_num, NK2, by first | trivial | rfl⟩
    case measure => simp [intOf]; omega
set_option maxHeartbeats 4000000 in
theorem fromhex_all (xs : List Int) (hb : isBytes xs) (w : World) : Calls Tryd.prog 6 #[.string (strOfNums xs)] w fun e w' => e = .returned (fhRes (hxV xs)) ∧ Below w.heap.size w w' := by
  obtain ⟨q, hq⟩ : ∃ q, Hid (w.heap.size = q) := ⟨_, rfl⟩
  have HAT := Lib.hid (fun j x hj hx w => run_str_at xs j x hj hx w)
  have HB := Lib.hid hb
  obtain ⟨N, hN⟩ : ∃ N, Hid (xs.length = N) := ⟨_, rfl⟩
  have HSZ : Hid ((strOfNums xs).size = N) := (strOfNums_size xs).trans hN.out
  obtain ⟨s, hs⟩ : ∃ s, Hid (strOfNums xs = s) := ⟨_, rfl⟩
  rw [hs.out] at HAT HSZ ⊢
  obtain ⟨R, hR⟩ : ∃ R, Hid (hxV xs = R) := ⟨_, rfl⟩
  rw [hR.out, hq.out]
  clear hb
  go_enter Tryd.func6, Tryd.ntmps6
  go_upto_region 0 with (fail)
  refine lin_begin (opsOf Tryd.f6 0) (by kernel_rfl) ?_
  refine lin_alloc 0 24 (ints .u8 z32N) (q) (some 2) (by kernel_rfl) (by kernel_rfl) (by kernel_rfl) (by kernel_rfl) hq ?_
  intro w1 b1 be1 hs1
  refine lnow 1 (.bool false) (some 3) ?_
  refine lin_done 2 (by kernel_rfl) ?_
  generalize hact : Act.put _ (some 3) _ = act
  simp only [Act.put, List.setIfInBounds_toArray, List.set_cons_succ, List.set_cons_zero] at hact
  subst hact
  have S1 : Hid (Blk w1 q 24 (ints .u8 z32N) ∧ Below q w w1) := ⟨b1, be1⟩
  clear b1 be1
  by_cases h64 : (N : Int) = 64
  rotate_left
  · skip
    go_upto_region 1 with (fail)
    refine lin_begin (opsOf Tryd.f6 1) (by kernel_rfl) ?_
    refine lnow 0 (.string s) (some 10) ?_
    refine lnow 1 (.int .i64 (s.size : Int)) (some 11) ?_
    rw [HSZ.out]
    refine lnow 2 (.bool (!decide ((N : Int) = 64))) (some 12) ?_
    rw [decide_eq_false (h64)]
    rw [show (!false) = true from rfl]
    refine lin_done 3 (by kernel_rfl) ?_
    generalize hact : Act.put _ (some 12) _ = act
    simp only [Act.put, List.setIfInBounds_toArray, List.set_cons_succ, List.set_cons_zero] at hact
    subst hact
    have RN : Hid (R = none) := by rw [Hid, ← hR.out]; unfold hxV; rw [if_neg (by rw [hN.out]; omega)]
    go_upto_region 2 with (fail)
    refine lin_begin (opsOf Tryd.f6 2) (by kernel_rfl) ?_
    refine lnow 0 (.agg (ints .u8 z32N).toArray) (some 13) ?_
    refine lin_put 1 24 (.tmp 2) (.tmp 13) (q) _ (ints .u8 z32N) (ints .u8 z32N) (by kernel_rfl) (by kernel_rfl) (by kernel_rfl) (by kernel_rfl) (by kernel_rfl) S1.out.1 (len2D z32N_len z32N_len) (sizeD z32N_len) (ints_oneCell _ _) ?_
    intro w4 bw4 uw4
    refine lnow 2 (.bool false) (some 3) ?_
    refine lin_done 3 (by kernel_rfl) ?_
    generalize hact : Act.put _ (some 3) _ = act
    simp only [Act.put, List.setIfInBounds_toArray, List.set_cons_succ, List.set_cons_zero] at hact
    subst hact
    have BF : Below q w w4 := uw4.below S1.out.2 (Nat.le_refl _) (Nat.le_of_lt S1.out.1.lt)
    go_wp2
    refine bodyPost_ret (v := .tuple #[.agg (ints .u8 z32N).toArray, .bool false]) ?_ rfl ⟨by rw [RN.out]; rfl, BF⟩
    exact results_cell_tmp Tryd.results6 _ _ q 24 (ints .u8 z32N).toArray (0, 0) _ _ rfl rfl bw4 Tryd.underlying24 rfl (hb_size _ z32N_len)
  go_upto_region 1 with (fail)
  refine lin_begin (opsOf Tryd.f6 1) (by kernel_rfl) ?_
  refine lnow 0 (.string s) (some 10) ?_
  refine lnow 1 (.int .i64 (s.size : Int)) (some 11) ?_
  rw [HSZ.out]
  refine lnow 2 (.bool (!decide ((N : Int) = 64))) (some 12) ?_
  rw [decide_eq_true (h64)]
  rw [show (!true) = false from rfl]
  refine lin_done 3 (by kernel_rfl) ?_
  generalize hact : Act.put _ (some 12) _ = act
  simp only [Act.put, List.setIfInBounds_toArray, List.set_cons_succ, List.set_cons_zero] at hact
  subst hact
  go_upto_region 3 with (fail)
  refine lin_begin (opsOf Tryd.f6 3) (by kernel_rfl) ?_
  refine lin_alloc 0 24 (ints .u8 z32N) (q + 1) (some 4) (by kernel_rfl) (by kernel_rfl) (by kernel_rfl) (by kernel_rfl) hs1 ?_
  intro w2 b2 be2 hs2
  refine lin_done 1 (by kernel_rfl) ?_
  generalize hact : Act.put _ (some 4) _ = act
  simp only [Act.put, List.setIfInBounds_toArray, List.set_cons_succ, List.set_cons_zero] at hact
  subst hact
  have S3 : Hid (Blk w2 q 24 (ints .u8 z32N) ∧ Blk w2 (q + 1) 24 (ints .u8 z32N) ∧ Below q w w2) := ⟨S1.out.1.below be2 (by omega), b2, S1.out.2.trans (be2.mono (by omega))⟩
  clear S1 hs1 b2 be2 hs2
  have X64 : Hid (xs.length = 64) := by rw [Hid, hN.out]; omega
  clear h64
  go_upto_region 4 with (fail)
  refine lin_begin (opsOf Tryd.f6 4) (by kernel_rfl) ?_
  refine lnow 0 (.int .i64 0) (some 14) ?_
  refine lin_done 1 (by kernel_rfl) ?_
  generalize hact : Act.put _ (some 14) _ = act
  simp only [Act.put, List.setIfInBounds_toArray, List.set_cons_succ, List.set_cons_zero] at hact
  subst hact
  go_wp2
  go_loopw [14] (fun kv wr => ∃ (k : Nat) (l : List Int), k ≤ 32 ∧ kv = .int .i64 (k : Int) ∧ Hid (hxK xs k = some l) ∧ Hid (Blk wr q 24 (ints .u8 z32N)) ∧ Hid (Blk wr (q + 1) 24 (ints .u8 (fzZ l))) ∧ Hid (Below q w wr)) (fun kv _ => 32 - (intOf kv).toNat)
  case atStart => exact ⟨0, [], Nat.zero_le _, rfl, rfl, S3.out.1, S3.out.2.1, S3.out.2.2⟩
  case round =>
    obtain ⟨k, l, hk, rfl, HK, RQ, RD, BW⟩ := hrel
    clear S3
    have LK : Hid (l.length = k) := hxK_len HK.out
    by_cases hlt : (k : Int) < 32
    rotate_left
    · skip
      go_upto_region 5 with (fail)
      refine lin_begin (opsOf Tryd.f6 5) (by kernel_rfl) ?_
      refine lnow 0 (.bool (decide ((k : Int) < 32))) (some 15) ?_
      rw [decide_eq_false (hlt)]
      refine lin_done 1 (by kernel_rfl) ?_
      generalize hact : Act.put _ (some 15) _ = act
      simp only [Act.put, List.setIfInBounds_toArray, List.set_cons_succ, List.set_cons_zero] at hact
      subst hact
      obtain rfl : k = 32 := by omega
      have RS : Hid (R = some l) := by rw [Hid, ← hR.out]; unfold hxV; rw [if_pos X64.out]; exact HK.out
      have FZ : Hid (fzZ l = l) := by rw [Hid]; unfold fzZ; rw [LK.out, Nat.sub_self, List.replicate_zero, List.append_nil]
      rw [FZ.out] at RD
      go_upto_region 13 with (fail)
      refine lin_begin (opsOf Tryd.f6 13) (by kernel_rfl) ?_
      refine lnowP 0 (.agg (ints .u8 l).toArray) (some 48) (exec_load_mid 24 (.tmp 4) (by kernel_rfl) (q + 1) 0 (by kernel_rfl) (ints .u8 l) _ RD.out.whole Tryd.underlying24 rfl (sizeD LK.out)) ?_
      refine lin_put 1 24 (.tmp 2) (.tmp 48) (q) _ (ints .u8 z32N) (ints .u8 l) (by kernel_rfl) (by kernel_rfl) (by kernel_rfl) (by kernel_rfl) (by kernel_rfl) RQ.out (len2D LK.out z32N_len) (sizeD LK.out) (ints_oneCell _ _) ?_
      intro w4 bw4 uw4
      refine lnow 2 (.bool true) (some 3) ?_
      refine lin_done 3 (by kernel_rfl) ?_
      generalize hact : Act.put _ (some 3) _ = act
      simp only [Act.put, List.setIfInBounds_toArray, List.set_cons_succ, List.set_cons_zero] at hact
      subst hact
      have BF : Below q w w4 := uw4.below BW.out (Nat.le_refl _) (Nat.le_of_lt RQ.out.lt)
      go_wp2
      refine bodyPost_ret (v := .tuple #[.agg (ints .u8 l).toArray, .bool true]) ?_ rfl ⟨by rw [RS.out]; rfl, BF⟩
      exact results_cell_tmp Tryd.results6 _ _ q 24 (ints .u8 l).toArray (0, 0) _ _ rfl rfl bw4 Tryd.underlying24 rfl (hb_size _ LK.out)
    go_upto_region 5 with (fail)
    refine lin_begin (opsOf Tryd.f6 5) (by kernel_rfl) ?_
    refine lnow 0 (.bool (decide ((k : Int) < 32))) (some 15) ?_
    rw [decide_eq_true (hlt)]
    refine lin_done 1 (by kernel_rfl) ?_
    generalize hact : Act.put _ (some 15) _ = act
    simp only [Act.put, List.setIfInBounds_toArray, List.set_cons_succ, List.set_cons_zero] at hact
    subst hact
    go_upto_region 6 with (fail)
    refine lin_begin (opsOf Tryd.f6 6) (by kernel_rfl) ?_
    refine lnow 0 (.int .i64 (k : Int)) (some 16) ?_
    refine lnow 1 (.int .i64 (k : Int)) (some 5) ?_
    refine lin_done 2 (by kernel_rfl) ?_
    generalize hact : Act.put _ (some 5) _ = act
    simp only [Act.put, List.setIfInBounds_toArray, List.set_cons_succ, List.set_cons_zero] at hact
    subst hact
    obtain ⟨a, ha⟩ : ∃ a, Hid (xs[2 * k]? = some a) := ⟨_, List.getElem?_eq_getElem (by rw [X64.out]; omega)⟩
    obtain ⟨b, hb⟩ : ∃ b, Hid (xs[2 * k + 1]? = some b) := ⟨_, List.getElem?_eq_getElem (by rw [X64.out]; omega)⟩
    have AB : Hid (0 ≤ a ∧ a ≤ 255) := HB.out a (List.mem_of_getElem? ha.out)
    have BB : Hid (0 ≤ b ∧ b ≤ 255) := HB.out b (List.mem_of_getElem? hb.out)
    have IA : Hid (∀ W, (Instr.index 9 (.string s) (.int .i64 ((2 * k : Nat) : Int))).run Tryd.prog W = .ok (.int .u8 a) W) := fun W => HAT.out (2 * k) a ha.out AB.out W
    have IB : Hid (∀ W, (Instr.index 9 (.string s) (.int .i64 ((2 * k + 1 : Nat) : Int))).run Tryd.prog W = .ok (.int .u8 b) W) := fun W => HAT.out (2 * k + 1) b hb.out BB.out W
    have GA : Hid (xs.getD (2 * k) 0 = a) := by rw [Hid, List.getD_eq_getElem?_getD, ha.out]; rfl
    have GB : Hid (xs.getD (2 * k + 1) 0 = b) := by rw [Hid, List.getD_eq_getElem?_getD, hb.out]; rfl
    have KY : Hid (∀ v1 v2, valC a = some v1 → valC b = some v2 → hxK xs (k + 1) = some (l ++ [16 * v1 + v2])) := fun v1 v2 h1 h2 => hxK_yes HK.out (by rw [GA.out]; exact h1) (by rw [GB.out]; exact h2)
    have KN : Hid (valC a = none ∨ valC b = none → R = none) := fun h => by
      rw [← hR.out]
      refine hxV_no X64.out (k := k) (by omega) ?_
      rcases h with h | h
      · exact hxK_no1 (by rw [GA.out]; exact h)
      · exact hxK_no2 (by rw [GB.out]; exact h)
    have DA := Lib.hid (digit_walk a AB.out)
    have DB := Lib.hid (digit_walk b BB.out)
    clear ha hb GA GB HK
    cases hva : valC a with
    | none =>
      rw [hva] at DA
      cases hvb : valC b with
      | none =>
        rw [hvb] at DB
        go_upto_region 7 with (fail)
        refine lin_begin (opsOf Tryd.f6 7) (by kernel_rfl) ?_
        refine lnow 0 (.string s) (some 18) ?_
        refine lnow 1 (.int .i64 (k : Int)) (some 19) ?_
        refine lnow 2 (.int .i64 (IntKind.i64.wrap (2 * (k : Int)))) (some 20) ?_
        rw [show IntKind.i64.wrap (2 * (k : Int)) = ((2 * k : Nat) : Int) from (IntWalk.i64_in _ (by omega)).trans (by omega)]
        refine lnowP 3 (.int .u8 a) (some 21) (exec_of (Instr.index 9 (.string s) (.int .i64 ((2 * k : Nat) : Int))) _ (by kernel_rfl) (IA.out _)) ?_
        refine lin_call 4 24 #[.int .u8 a] (some 22) _ (by kernel_rfl) (by kernel_rfl) (by kernel_rfl) (DA.out _) ?_
        rintro e0 wx ⟨rfl, hwx⟩
        subst hwx
        refine ⟨_, rfl, ?_⟩
        refine lnow 5 (.tuple #[.int .u8 0, .bool false]) (some 17) ?_
        refine lnow 6 (.int .u8 0) (some 23) ?_
        refine lnow 7 (.bool false) (some 24) ?_
        refine lnow 8 (.int .u8 0) (some 6) ?_
        refine lnow 9 (.bool false) (some 7) ?_
        refine lin_done 10 (by kernel_rfl) ?_
        generalize hact : Act.put _ (some 7) _ = act
        simp only [Act.put, List.setIfInBounds_toArray, List.set_cons_succ, List.set_cons_zero] at hact
        subst hact
        go_upto_region 8 with (fail)
        refine lin_begin (opsOf Tryd.f6 8) (by kernel_rfl) ?_
        refine lnow 0 (.string s) (some 26) ?_
        refine lnow 1 (.int .i64 (k : Int)) (some 27) ?_
        refine lnow 2 (.int .i64 (IntKind.i64.wrap (2 * (k : Int)))) (some 28) ?_
        rw [show IntKind.i64.wrap (2 * (k : Int)) = ((2 * k : Nat) : Int) from (IntWalk.i64_in _ (by omega)).trans (by omega)]
        refine lnow 3 (.int .i64 (IntKind.i64.wrap (((2 * k : Nat) : Int) + 1))) (some 29) ?_
        rw [show IntKind.i64.wrap (((2 * k : Nat) : Int) + 1) = ((2 * k + 1 : Nat) : Int) from (IntWalk.i64_in _ (by omega)).trans (by omega)]
        refine lnowP 4 (.int .u8 b) (some 30) (exec_of (Instr.index 9 (.string s) (.int .i64 ((2 * k + 1 : Nat) : Int))) _ (by kernel_rfl) (IB.out _)) ?_
        refine lin_call 5 24 #[.int .u8 b] (some 31) _ (by kernel_rfl) (by kernel_rfl) (by kernel_rfl) (DB.out _) ?_
        rintro e0 wx ⟨rfl, hwx⟩
        subst hwx
        refine ⟨_, rfl, ?_⟩
        refine lnow 6 (.tuple #[.int .u8 0, .bool false]) (some 25) ?_
        refine lnow 7 (.int .u8 0) (some 32) ?_
        refine lnow 8 (.bool false) (some 33) ?_
        refine lnow 9 (.int .u8 0) (some 8) ?_
        refine lnow 10 (.bool false) (some 9) ?_
        refine lin_done 11 (by kernel_rfl) ?_
        generalize hact : Act.put _ (some 9) _ = act
        simp only [Act.put, List.setIfInBounds_toArray, List.set_cons_succ, List.set_cons_zero] at hact
        subst hact
        go_upto_region 9 with (fail)
        refine lin_begin (opsOf Tryd.f6 9) (by kernel_rfl) ?_
        refine lnow 0 (.bool false) (some 34) ?_
        refine lnow 1 (.bool true) (some 35) ?_
        refine lnow 2 (.bool true) (some 36) ?_
        refine lpas 3 (some 37) ?_
        refine lpas 4 (some 38) ?_
        refine lnow 5 (.bool true) (some 39) ?_
        refine lin_done 6 (by kernel_rfl) ?_
        generalize hact : Act.put _ (some 39) _ = act
        simp only [Act.put, List.setIfInBounds_toArray, List.set_cons_succ, List.set_cons_zero] at hact
        subst hact
        have RN : Hid (R = none) := KN.out (.inl hva)
        go_upto_region 10 with (fail)
        refine lin_begin (opsOf Tryd.f6 10) (by kernel_rfl) ?_
        refine lnow 0 (.agg (ints .u8 z32N).toArray) (some 40) ?_
        refine lin_put 1 24 (.tmp 2) (.tmp 40) (q) _ (ints .u8 z32N) (ints .u8 z32N) (by kernel_rfl) (by kernel_rfl) (by kernel_rfl) (by kernel_rfl) (by kernel_rfl) RQ.out (len2D z32N_len z32N_len) (sizeD z32N_len) (ints_oneCell _ _) ?_
        intro w4 bw4 uw4
        refine lnow 2 (.bool false) (some 3) ?_
        refine lin_done 3 (by kernel_rfl) ?_
        generalize hact : Act.put _ (some 3) _ = act
        simp only [Act.put, List.setIfInBounds_toArray, List.set_cons_succ, List.set_cons_zero] at hact
        subst hact
        have BF : Below q w w4 := uw4.below BW.out (Nat.le_refl _) (Nat.le_of_lt RQ.out.lt)
        go_wp2
        refine bodyPost_ret (v := .tuple #[.agg (ints .u8 z32N).toArray, .bool false]) ?_ rfl ⟨by rw [RN.out]; rfl, BF⟩
        exact results_cell_tmp Tryd.results6 _ _ q 24 (ints .u8 z32N).toArray (0, 0) _ _ rfl rfl bw4 Tryd.underlying24 rfl (hb_size _ z32N_len)
      | some v2 =>
        rw [hvb] at DB
        have V2 := Lib.hid (valC_range hvb)
        go_upto_region 7 with (fail)
        refine lin_begin (opsOf Tryd.f6 7) (by kernel_rfl) ?_
        refine lnow 0 (.string s) (some 18) ?_
        refine lnow 1 (.int .i64 (k : Int)) (some 19) ?_
        refine lnow 2 (.int .i64 (IntKind.i64.wrap (2 * (k : Int)))) (some 20) ?_
        rw [show IntKind.i64.wrap (2 * (k : Int)) = ((2 * k : Nat) : Int) from (IntWalk.i64_in _ (by omega)).trans (by omega)]
        refine lnowP 3 (.int .u8 a) (some 21) (exec_of (Instr.index 9 (.string s) (.int .i64 ((2 * k : Nat) : Int))) _ (by kernel_rfl) (IA.out _)) ?_
        refine lin_call 4 24 #[.int .u8 a] (some 22) _ (by kernel_rfl) (by kernel_rfl) (by kernel_rfl) (DA.out _) ?_
        rintro e0 wx ⟨rfl, hwx⟩
        subst hwx
        refine ⟨_, rfl, ?_⟩
        refine lnow 5 (.tuple #[.int .u8 0, .bool false]) (some 17) ?_
        refine lnow 6 (.int .u8 0) (some 23) ?_
        refine lnow 7 (.bool false) (some 24) ?_
        refine lnow 8 (.int .u8 0) (some 6) ?_
        refine lnow 9 (.bool false) (some 7) ?_
        refine lin_done 10 (by kernel_rfl) ?_
        generalize hact : Act.put _ (some 7) _ = act
        simp only [Act.put, List.setIfInBounds_toArray, List.set_cons_succ, List.set_cons_zero] at hact
        subst hact
        go_upto_region 8 with (fail)
        refine lin_begin (opsOf Tryd.f6 8) (by kernel_rfl) ?_
        refine lnow 0 (.string s) (some 26) ?_
        refine lnow 1 (.int .i64 (k : Int)) (some 27) ?_
        refine lnow 2 (.int .i64 (IntKind.i64.wrap (2 * (k : Int)))) (some 28) ?_
        rw [show IntKind.i64.wrap (2 * (k : Int)) = ((2 * k : Nat) : Int) from (IntWalk.i64_in _ (by omega)).trans (by omega)]
        refine lnow 3 (.int .i64 (IntKind.i64.wrap (((2 * k : Nat) : Int) + 1))) (some 29) ?_
        rw [show IntKind.i64.wrap (((2 * k : Nat) : Int) + 1) = ((2 * k + 1 : Nat) : Int) from (IntWalk.i64_in _ (by omega)).trans (by omega)]
        refine lnowP 4 (.int .u8 b) (some 30) (exec_of (Instr.index 9 (.string s) (.int .i64 ((2 * k + 1 : Nat) : Int))) _ (by kernel_rfl) (IB.out _)) ?_
        refine lin_call 5 24 #[.int .u8 b] (some 31) _ (by kernel_rfl) (by kernel_rfl) (by kernel_rfl) (DB.out _) ?_
        rintro e0 wx ⟨rfl, hwx⟩
        subst hwx
        refine ⟨_, rfl, ?_⟩
        refine lnow 6 (.tuple #[.int .u8 v2, .bool true]) (some 25) ?_
        refine lnow 7 (.int .u8 v2) (some 32) ?_
        refine lnow 8 (.bool true) (some 33) ?_
        refine lnow 9 (.int .u8 v2) (some 8) ?_
        refine lnow 10 (.bool true) (some 9) ?_
        refine lin_done 11 (by kernel_rfl) ?_
        generalize hact : Act.put _ (some 9) _ = act
        simp only [Act.put, List.setIfInBounds_toArray, List.set_cons_succ, List.set_cons_zero] at hact
        subst hact
        go_upto_region 9 with (fail)
        refine lin_begin (opsOf Tryd.f6 9) (by kernel_rfl) ?_
        refine lnow 0 (.bool false) (some 34) ?_
        refine lnow 1 (.bool true) (some 35) ?_
        refine lnow 2 (.bool true) (some 36) ?_
        refine lpas 3 (some 37) ?_
        refine lpas 4 (some 38) ?_
        refine lnow 5 (.bool true) (some 39) ?_
        refine lin_done 6 (by kernel_rfl) ?_
        generalize hact : Act.put _ (some 39) _ = act
        simp only [Act.put, List.setIfInBounds_toArray, List.set_cons_succ, List.set_cons_zero] at hact
        subst hact
        have RN : Hid (R = none) := KN.out (.inl hva)
        go_upto_region 10 with (fail)
        refine lin_begin (opsOf Tryd.f6 10) (by kernel_rfl) ?_
        refine lnow 0 (.agg (ints .u8 z32N).toArray) (some 40) ?_
        refine lin_put 1 24 (.tmp 2) (.tmp 40) (q) _ (ints .u8 z32N) (ints .u8 z32N) (by kernel_rfl) (by kernel_rfl) (by kernel_rfl) (by kernel_rfl) (by kernel_rfl) RQ.out (len2D z32N_len z32N_len) (sizeD z32N_len) (ints_oneCell _ _) ?_
        intro w4 bw4 uw4
        refine lnow 2 (.bool false) (some 3) ?_
        refine lin_done 3 (by kernel_rfl) ?_
        generalize hact : Act.put _ (some 3) _ = act
        simp only [Act.put, List.setIfInBounds_toArray, List.set_cons_succ, List.set_cons_zero] at hact
        subst hact
        have BF : Below q w w4 := uw4.below BW.out (Nat.le_refl _) (Nat.le_of_lt RQ.out.lt)
        go_wp2
        refine bodyPost_ret (v := .tuple #[.agg (ints .u8 z32N).toArray, .bool false]) ?_ rfl ⟨by rw [RN.out]; rfl, BF⟩
        exact results_cell_tmp Tryd.results6 _ _ q 24 (ints .u8 z32N).toArray (0, 0) _ _ rfl rfl bw4 Tryd.underlying24 rfl (hb_size _ z32N_len)
    | some v1 =>
      rw [hva] at DA
      have V1 := Lib.hid (valC_range hva)
      cases hvb : valC b with
      | none =>
        rw [hvb] at DB
        go_upto_region 7 with (fail)
        refine lin_begin (opsOf Tryd.f6 7) (by kernel_rfl) ?_
        refine lnow 0 (.string s) (some 18) ?_
        refine lnow 1 (.int .i64 (k : Int)) (some 19) ?_
        refine lnow 2 (.int .i64 (IntKind.i64.wrap (2 * (k : Int)))) (some 20) ?_
        rw [show IntKind.i64.wrap (2 * (k : Int)) = ((2 * k : Nat) : Int) from (IntWalk.i64_in _ (by omega)).trans (by omega)]
        refine lnowP 3 (.int .u8 a) (some 21) (exec_of (Instr.index 9 (.string s) (.int .i64 ((2 * k : Nat) : Int))) _ (by kernel_rfl) (IA.out _)) ?_
        refine lin_call 4 24 #[.int .u8 a] (some 22) _ (by kernel_rfl) (by kernel_rfl) (by kernel_rfl) (DA.out _) ?_
        rintro e0 wx ⟨rfl, hwx⟩
        subst hwx
        refine ⟨_, rfl, ?_⟩
        refine lnow 5 (.tuple #[.int .u8 v1, .bool true]) (some 17) ?_
        refine lnow 6 (.int .u8 v1) (some 23) ?_
        refine lnow 7 (.bool true) (some 24) ?_
        refine lnow 8 (.int .u8 v1) (some 6) ?_
        refine lnow 9 (.bool true) (some 7) ?_
        refine lin_done 10 (by kernel_rfl) ?_
        generalize hact : Act.put _ (some 7) _ = act
        simp only [Act.put, List.setIfInBounds_toArray, List.set_cons_succ, List.set_cons_zero] at hact
        subst hact
        go_upto_region 8 with (fail)
        refine lin_begin (opsOf Tryd.f6 8) (by kernel_rfl) ?_
        refine lnow 0 (.string s) (some 26) ?_
        refine lnow 1 (.int .i64 (k : Int)) (some 27) ?_
        refine lnow 2 (.int .i64 (IntKind.i64.wrap (2 * (k : Int)))) (some 28) ?_
        rw [show IntKind.i64.wrap (2 * (k : Int)) = ((2 * k : Nat) : Int) from (IntWalk.i64_in _ (by omega)).trans (by omega)]
        refine lnow 3 (.int .i64 (IntKind.i64.wrap (((2 * k : Nat) : Int) + 1))) (some 29) ?_
        rw [show IntKind.i64.wrap (((2 * k : Nat) : Int) + 1) = ((2 * k + 1 : Nat) : Int) from (IntWalk.i64_in _ (by omega)).trans (by omega)]
        refine lnowP 4 (.int .u8 b) (some 30) (exec_of (Instr.index 9 (.string s) (.int .i64 ((2 * k + 1 : Nat) : Int))) _ (by kernel_rfl) (IB.out _)) ?_
        refine lin_call 5 24 #[.int .u8 b] (some 31) _ (by kernel_rfl) (by kernel_rfl) (by kernel_rfl) (DB.out _) ?_
        rintro e0 wx ⟨rfl, hwx⟩
        subst hwx
        refine ⟨_, rfl, ?_⟩
        refine lnow 6 (.tuple #[.int .u8 0, .bool false]) (some 25) ?_
        refine lnow 7 (.int .u8 0) (some 32) ?_
        refine lnow 8 (.bool false) (some 33) ?_
        refine lnow 9 (.int .u8 0) (some 8) ?_
        refine lnow 10 (.bool false) (some 9) ?_
        refine lin_done 11 (by kernel_rfl) ?_
        generalize hact : Act.put _ (some 9) _ = act
        simp only [Act.put, List.setIfInBounds_toArray, List.set_cons_succ, List.set_cons_zero] at hact
        subst hact
        go_upto_region 9 with (fail)
        refine lin_begin (opsOf Tryd.f6 9) (by kernel_rfl) ?_
        refine lnow 0 (.bool true) (some 34) ?_
        refine lnow 1 (.bool false) (some 35) ?_
        refine lnow 2 (.bool false) (some 36) ?_
        refine lnow 3 (.bool false) (some 37) ?_
        refine lnow 4 (.bool true) (some 38) ?_
        refine lnow 5 (.bool true) (some 39) ?_
        refine lin_done 6 (by kernel_rfl) ?_
        generalize hact : Act.put _ (some 39) _ = act
        simp only [Act.put, List.setIfInBounds_toArray, List.set_cons_succ, List.set_cons_zero] at hact
        subst hact
        have RN : Hid (R = none) := KN.out (.inr hvb)
        go_upto_region 10 with (fail)
        refine lin_begin (opsOf Tryd.f6 10) (by kernel_rfl) ?_
        refine lnow 0 (.agg (ints .u8 z32N).toArray) (some 40) ?_
        refine lin_put 1 24 (.tmp 2) (.tmp 40) (q) _ (ints .u8 z32N) (ints .u8 z32N) (by kernel_rfl) (by kernel_rfl) (by kernel_rfl) (by kernel_rfl) (by kernel_rfl) RQ.out (len2D z32N_len z32N_len) (sizeD z32N_len) (ints_oneCell _ _) ?_
        intro w4 bw4 uw4
        refine lnow 2 (.bool false) (some 3) ?_
        refine lin_done 3 (by kernel_rfl) ?_
        generalize hact : Act.put _ (some 3) _ = act
        simp only [Act.put, List.setIfInBounds_toArray, List.set_cons_succ, List.set_cons_zero] at hact
        subst hact
        have BF : Below q w w4 := uw4.below BW.out (Nat.le_refl _) (Nat.le_of_lt RQ.out.lt)
        go_wp2
        refine bodyPost_ret (v := .tuple #[.agg (ints .u8 z32N).toArray, .bool false]) ?_ rfl ⟨by rw [RN.out]; rfl, BF⟩
        exact results_cell_tmp Tryd.results6 _ _ q 24 (ints .u8 z32N).toArray (0, 0) _ _ rfl rfl bw4 Tryd.underlying24 rfl (hb_size _ z32N_len)
      | some v2 =>
        rw [hvb] at DB
        have V2 := Lib.hid (valC_range hvb)
        have HK2 := Lib.hid (KY.out v1 v2 hva hvb)
        have FN : Hid ((fzZ l).set k (16 * v1 + v2) = fzZ (l ++ [16 * v1 + v2])) := fzZ_next LK.out (by omega) _
        have FL : Hid ((fzZ l).length = 32) := fzZ_len (by rw [LK.out]; omega)
        have JN := Lib.hid (join16v v1 v2 (by have := V1.out; omega) (by have := V2.out; omega))
        have u1 := V1.out.1
        have u2 := V1.out.2.1
        have u3 := V2.out.1
        have u4 := V2.out.2.1
        go_upto_region 7 with (fail)
        refine lin_begin (opsOf Tryd.f6 7) (by kernel_rfl) ?_
        refine lnow 0 (.string s) (some 18) ?_
        refine lnow 1 (.int .i64 (k : Int)) (some 19) ?_
        refine lnow 2 (.int .i64 (IntKind.i64.wrap (2 * (k : Int)))) (some 20) ?_
        rw [show IntKind.i64.wrap (2 * (k : Int)) = ((2 * k : Nat) : Int) from (IntWalk.i64_in _ (by omega)).trans (by omega)]
        refine lnowP 3 (.int .u8 a) (some 21) (exec_of (Instr.index 9 (.string s) (.int .i64 ((2 * k : Nat) : Int))) _ (by kernel_rfl) (IA.out _)) ?_
        refine lin_call 4 24 #[.int .u8 a] (some 22) _ (by kernel_rfl) (by kernel_rfl) (by kernel_rfl) (DA.out _) ?_
        rintro e0 wx ⟨rfl, hwx⟩
        subst hwx
        refine ⟨_, rfl, ?_⟩
        refine lnow 5 (.tuple #[.int .u8 v1, .bool true]) (some 17) ?_
        refine lnow 6 (.int .u8 v1) (some 23) ?_
        refine lnow 7 (.bool true) (some 24) ?_
        refine lnow 8 (.int .u8 v1) (some 6) ?_
        refine lnow 9 (.bool true) (some 7) ?_
        refine lin_done 10 (by kernel_rfl) ?_
        generalize hact : Act.put _ (some 7) _ = act
        simp only [Act.put, List.setIfInBounds_toArray, List.set_cons_succ, List.set_cons_zero] at hact
        subst hact
        go_upto_region 8 with (fail)
        refine lin_begin (opsOf Tryd.f6 8) (by kernel_rfl) ?_
        refine lnow 0 (.string s) (some 26) ?_
        refine lnow 1 (.int .i64 (k : Int)) (some 27) ?_
        refine lnow 2 (.int .i64 (IntKind.i64.wrap (2 * (k : Int)))) (some 28) ?_
        rw [show IntKind.i64.wrap (2 * (k : Int)) = ((2 * k : Nat) : Int) from (IntWalk.i64_in _ (by omega)).trans (by omega)]
        refine lnow 3 (.int .i64 (IntKind.i64.wrap (((2 * k : Nat) : Int) + 1))) (some 29) ?_
        rw [show IntKind.i64.wrap (((2 * k : Nat) : Int) + 1) = ((2 * k + 1 : Nat) : Int) from (IntWalk.i64_in _ (by omega)).trans (by omega)]
        refine lnowP 4 (.int .u8 b) (some 30) (exec_of (Instr.index 9 (.string s) (.int .i64 ((2 * k + 1 : Nat) : Int))) _ (by kernel_rfl) (IB.out _)) ?_
        refine lin_call 5 24 #[.int .u8 b] (some 31) _ (by kernel_rfl) (by kernel_rfl) (by kernel_rfl) (DB.out _) ?_
        rintro e0 wx ⟨rfl, hwx⟩
        subst hwx
        refine ⟨_, rfl, ?_⟩
        refine lnow 6 (.tuple #[.int .u8 v2, .bool true]) (some 25) ?_
        refine lnow 7 (.int .u8 v2) (some 32) ?_
        refine lnow 8 (.bool true) (some 33) ?_
        refine lnow 9 (.int .u8 v2) (some 8) ?_
        refine lnow 10 (.bool true) (some 9) ?_
        refine lin_done 11 (by kernel_rfl) ?_
        generalize hact : Act.put _ (some 9) _ = act
        simp only [Act.put, List.setIfInBounds_toArray, List.set_cons_succ, List.set_cons_zero] at hact
        subst hact
        go_upto_region 9 with (fail)
        refine lin_begin (opsOf Tryd.f6 9) (by kernel_rfl) ?_
        refine lnow 0 (.bool true) (some 34) ?_
        refine lnow 1 (.bool false) (some 35) ?_
        refine lnow 2 (.bool false) (some 36) ?_
        refine lnow 3 (.bool true) (some 37) ?_
        refine lnow 4 (.bool false) (some 38) ?_
        refine lnow 5 (.bool false) (some 39) ?_
        refine lin_done 6 (by kernel_rfl) ?_
        generalize hact : Act.put _ (some 39) _ = act
        simp only [Act.put, List.setIfInBounds_toArray, List.set_cons_succ, List.set_cons_zero] at hact
        subst hact
        go_upto_region 11 with (fail)
        refine lin_begin (opsOf Tryd.f6 11) (by kernel_rfl) ?_
        refine lnow 0 (.int .i64 (k : Int)) (some 41) ?_
        refine lnow 1 (.int .u8 v1) (some 42) ?_
        refine lnowP 2 (.int .u8 (v1 * 16)) (some 43) (exec_shl8 5 47 (.tmp 42) (.const (.int .u64 4)) (by kernel_rfl) v1 (by kernel_rfl) (by kernel_rfl) ⟨u1, u2⟩) ?_
        refine lnow 3 (.int .u8 v2) (some 44) ?_
        refine lnow 4 (.int .u8 (bits BinOp.or IntKind.u8 (v1 * 16) v2)) (some 45) ?_
        rw [JN.out]
        refine lnowP 5 (.pointer (some ⟨q + 1, 0 + k, none⟩)) (some 46) (exec_indexAt 24 (.tmp 4) (.tmp 41) (by kernel_rfl) _ _ _ (by kernel_rfl) (by kernel_rfl) (run_at_dgB (q + 1) 0 k (by omega) _)) ?_
        have RD0 : Hid (Blk wr (q + 1) 24 (ints .u8 (fzZ l)) ∧ 0 + k < (ints .u8 (fzZ l)).length) := ⟨RD.out, by rw [ints_length, FL.out]; omega⟩
        refine lin_cellD 6 5 (.tmp 46) (.tmp 45) (q + 1) (0 + k) 24 (ints .u8 (fzZ l)) (.int .u8 (16 * v1 + v2)) (by kernel_rfl) (by kernel_rfl) (by kernel_rfl) (by kernel_rfl) (by kernel_rfl) RD0.out.1 RD0.out.2 sizeByte rfl rfl ?_
        intro w4 b4 u4w
        refine lin_done 7 (by kernel_rfl) ?_
        generalize hact : Act.put _ none _ = act
        simp only [Act.put, List.setIfInBounds_toArray, List.set_cons_succ, List.set_cons_zero] at hact
        subst hact
        have RD4 : Hid (Blk w4 (q + 1) 24 (ints .u8 (fzZ (l ++ [16 * v1 + v2])))) := by have h := b4; rw [Nat.zero_add, ints_set, FN.out] at h; exact h
        have RQ4 : Hid (Blk w4 q 24 (ints .u8 z32N)) := u4w.blk RQ.out (by omega)
        have BW4 : Hid (Below q w w4) := u4w.below BW.out (by omega) (by have := RQ.out.lt; omega)
        clear b4 u4w RD0 RQ RD BW DA DB IA IB KY KN hva hvb FN FL JN
        go_wp2
        go_roundw
        case rel => exact ⟨k + 1, _, by omega, by go_num, HK2, RQ4, RD4, BW4⟩
        case measure => simp [intOf]; omega
set_option maxHeartbeats 4000000 in
theorem rfromhex_all (xs : List Int) (hb : isBytes xs) (w : World) : Calls Tryd.prog 7 #[.string (strOfNums xs)] w fun e w' => e = .returned (fhRes (hxV xs)) ∧ Below w.heap.size w w' := by
  obtain ⟨q, hq⟩ : ∃ q, Hid (w.heap.size = q) := ⟨_, rfl⟩
  have HAT := Lib.hid (fun j x hj hx w => run_str_at xs j x hj hx w)
  have HB := Lib.hid hb
  obtain ⟨N, hN⟩ : ∃ N, Hid (xs.length = N) := ⟨_, rfl⟩
  have HSZ : Hid ((strOfNums xs).size = N) := (strOfNums_size xs).trans hN.out
  obtain ⟨s, hs⟩ : ∃ s, Hid (strOfNums xs = s) := ⟨_, rfl⟩
  rw [hs.out] at HAT HSZ ⊢
  obtain ⟨R, hR⟩ : ∃ R, Hid (hxV xs = R) := ⟨_, rfl⟩
  rw [hR.out, hq.out]
  clear hb
  go_enter Tryd.func7, Tryd.ntmps7
  go_upto_region 0 with (fail)
  refine lin_begin (opsOf Tryd.f7 0) (by kernel_rfl) ?_
  refine lin_alloc 0 24 (ints .u8 z32N) (q) (some 2) (by kernel_rfl) (by kernel_rfl) (by kernel_rfl) (by kernel_rfl) hq ?_
  intro w1 b1 be1 hs1
  refine lnow 1 (.bool false) (some 3) ?_
  refine lin_done 2 (by kernel_rfl) ?_
  generalize hact : Act.put _ (some 3) _ = act
  simp only [Act.put, List.setIfInBounds_toArray, List.set_cons_succ, List.set_cons_zero] at hact
  subst hact
  go_upto_region 1 with (fail)
  refine lin_begin (opsOf Tryd.f7 1) (by kernel_rfl) ?_
  refine lnow 0 (.agg (ints .u8 z32N).toArray) (some 8) ?_
  refine lin_alloc 1 24 (ints .u8 z32N) (q + 1) (some 4) (by kernel_rfl) (by kernel_rfl) (by kernel_rfl) (by kernel_rfl) hs1 ?_
  intro w2 b2 be2 hs2
  refine lin_put 2 24 (.tmp 4) (.tmp 8) (q + 1) _ (ints .u8 z32N) (ints .u8 z32N) (by kernel_rfl) (by kernel_rfl) (by kernel_rfl) (by kernel_rfl) (by kernel_rfl) b2 (len2D z32N_len z32N_len) (sizeD z32N_len) (ints_oneCell _ _) ?_
  intro w3 bw3 uw3
  refine lin_done 3 (by kernel_rfl) ?_
  generalize hact : Act.put _ none _ = act
  simp only [Act.put, List.setIfInBounds_toArray, List.set_cons_succ, List.set_cons_zero] at hact
  subst hact
  have S3 : Hid (Blk w3 q 24 (ints .u8 z32N) ∧ Blk w3 (q + 1) 24 (ints .u8 z32N) ∧ Below q w w3) := ⟨uw3.blk (b1.below be2 (by omega)) (by omega), bw3, uw3.below (be1.trans (be2.mono (by omega))) (by omega) (by have := hs2.out; omega)⟩
  clear b1 be1 hs1 b2 be2 hs2 bw3 uw3
  by_cases h64 : (N : Int) = 64
  rotate_left
  · skip
    go_upto_region 2 with (fail)
    refine lin_begin (opsOf Tryd.f7 2) (by kernel_rfl) ?_
    refine lnow 0 (.string s) (some 9) ?_
    refine lnow 1 (.int .i64 (s.size : Int)) (some 10) ?_
    rw [HSZ.out]
    refine lnow 2 (.bool (!decide ((N : Int) = 64))) (some 11) ?_
    rw [decide_eq_false (h64)]
    rw [show (!false) = true from rfl]
    refine lin_done 3 (by kernel_rfl) ?_
    generalize hact : Act.put _ (some 11) _ = act
    simp only [Act.put, List.setIfInBounds_toArray, List.set_cons_succ, List.set_cons_zero] at hact
    subst hact
    have RN : Hid (R = none) := by rw [Hid, ← hR.out]; unfold hxV; rw [if_neg (by rw [hN.out]; omega)]
    go_upto_region 3 with (fail)
    refine lin_begin (opsOf Tryd.f7 3) (by kernel_rfl) ?_
    refine lnowP 0 (.agg (ints .u8 z32N).toArray) (some 12) (exec_load_mid 24 (.tmp 4) (by kernel_rfl) (q + 1) 0 (by kernel_rfl) (ints .u8 z32N) _ S3.out.2.1.whole Tryd.underlying24 rfl (sizeD z32N_len)) ?_
    refine lin_put 1 24 (.tmp 2) (.tmp 12) (q) _ (ints .u8 z32N) (ints .u8 z32N) (by kernel_rfl) (by kernel_rfl) (by kernel_rfl) (by kernel_rfl) (by kernel_rfl) S3.out.1 (len2D z32N_len z32N_len) (sizeD z32N_len) (ints_oneCell _ _) ?_
    intro w4 bw4 uw4
    refine lnow 2 (.bool false) (some 3) ?_
    refine lin_done 3 (by kernel_rfl) ?_
    generalize hact : Act.put _ (some 3) _ = act
    simp only [Act.put, List.setIfInBounds_toArray, List.set_cons_succ, List.set_cons_zero] at hact
    subst hact
    have BF : Below q w w4 := uw4.below S3.out.2.2 (Nat.le_refl _) (Nat.le_of_lt S3.out.1.lt)
    go_wp2
    refine bodyPost_ret (v := .tuple #[.agg (ints .u8 z32N).toArray, .bool false]) ?_ rfl ⟨by rw [RN.out]; rfl, BF⟩
    exact results_cell_tmp Tryd.results7 _ _ q 24 (ints .u8 z32N).toArray (0, 0) _ _ rfl rfl bw4 Tryd.underlying24 rfl (hb_size _ z32N_len)
  go_upto_region 2 with (fail)
  refine lin_begin (opsOf Tryd.f7 2) (by kernel_rfl) ?_
  refine lnow 0 (.string s) (some 9) ?_
  refine lnow 1 (.int .i64 (s.size : Int)) (some 10) ?_
  rw [HSZ.out]
  refine lnow 2 (.bool (!decide ((N : Int) = 64))) (some 11) ?_
  rw [decide_eq_true (h64)]
  rw [show (!true) = false from rfl]
  refine lin_done 3 (by kernel_rfl) ?_
  generalize hact : Act.put _ (some 11) _ = act
  simp only [Act.put, List.setIfInBounds_toArray, List.set_cons_succ, List.set_cons_zero] at hact
  subst hact
  have X64 : Hid (xs.length = 64) := by rw [Hid, hN.out]; omega
  clear h64
  go_upto_region 4 with (fail)
  refine lin_begin (opsOf Tryd.f7 4) (by kernel_rfl) ?_
  refine lnow 0 (.int .i64 0) (some 5) ?_
  refine lin_done 1 (by kernel_rfl) ?_
  generalize hact : Act.put _ (some 5) _ = act
  simp only [Act.put, List.setIfInBounds_toArray, List.set_cons_succ, List.set_cons_zero] at hact
  subst hact
  go_wp2
  go_loopw [5] (fun kv wr => ∃ (k : Nat) (l : List Int), k ≤ 32 ∧ kv = .int .i64 (k : Int) ∧ Hid (hxK xs k = some l) ∧ Hid (Blk wr q 24 (ints .u8 z32N)) ∧ Hid (Blk wr (q + 1) 24 (ints .u8 (fzZ l))) ∧ Hid (Below q w wr)) (fun kv _ => 32 - (intOf kv).toNat)
  case atStart => exact ⟨0, [], Nat.zero_le _, rfl, rfl, S3.out.1, S3.out.2.1, S3.out.2.2⟩
  case round =>
    obtain ⟨k, l, hk, rfl, HK, RQ, RD, BW⟩ := hrel
    clear S3
    have LK : Hid (l.length = k) := hxK_len HK.out
    by_cases hlt : (k : Int) < 32
    rotate_left
    · skip
      go_upto_region 5 with (fail)
      refine lin_begin (opsOf Tryd.f7 5) (by kernel_rfl) ?_
      refine lnow 0 (.int .i64 (k : Int)) (some 13) ?_
      refine lnow 1 (.bool (decide ((k : Int) < 32))) (some 14) ?_
      rw [decide_eq_false (hlt)]
      refine lin_done 2 (by kernel_rfl) ?_
      generalize hact : Act.put _ (some 14) _ = act
      simp only [Act.put, List.setIfInBounds_toArray, List.set_cons_succ, List.set_cons_zero] at hact
      subst hact
      obtain rfl : k = 32 := by omega
      have RS : Hid (R = some l) := by rw [Hid, ← hR.out]; unfold hxV; rw [if_pos X64.out]; exact HK.out
      have FZ : Hid (fzZ l = l) := by rw [Hid]; unfold fzZ; rw [LK.out, Nat.sub_self, List.replicate_zero, List.append_nil]
      rw [FZ.out] at RD
      go_upto_region 12 with (fail)
      refine lin_begin (opsOf Tryd.f7 12) (by kernel_rfl) ?_
      refine lnowP 0 (.agg (ints .u8 l).toArray) (some 42) (exec_load_mid 24 (.tmp 4) (by kernel_rfl) (q + 1) 0 (by kernel_rfl) (ints .u8 l) _ RD.out.whole Tryd.underlying24 rfl (sizeD LK.out)) ?_
      refine lin_put 1 24 (.tmp 2) (.tmp 42) (q) _ (ints .u8 z32N) (ints .u8 l) (by kernel_rfl) (by kernel_rfl) (by kernel_rfl) (by kernel_rfl) (by kernel_rfl) RQ.out (len2D LK.out z32N_len) (sizeD LK.out) (ints_oneCell _ _) ?_
      intro w4 bw4 uw4
      refine lnow 2 (.bool true) (some 3) ?_
      refine lin_done 3 (by kernel_rfl) ?_
      generalize hact : Act.put _ (some 3) _ = act
      simp only [Act.put, List.setIfInBounds_toArray, List.set_cons_succ, List.set_cons_zero] at hact
      subst hact
      have BF : Below q w w4 := uw4.below BW.out (Nat.le_refl _) (Nat.le_of_lt RQ.out.lt)
      go_wp2
      refine bodyPost_ret (v := .tuple #[.agg (ints .u8 l).toArray, .bool true]) ?_ rfl ⟨by rw [RS.out]; rfl, BF⟩
      exact results_cell_tmp Tryd.results7 _ _ q 24 (ints .u8 l).toArray (0, 0) _ _ rfl rfl bw4 Tryd.underlying24 rfl (hb_size _ LK.out)
    go_upto_region 5 with (fail)
    refine lin_begin (opsOf Tryd.f7 5) (by kernel_rfl) ?_
    refine lnow 0 (.int .i64 (k : Int)) (some 13) ?_
    refine lnow 1 (.bool (decide ((k : Int) < 32))) (some 14) ?_
    rw [decide_eq_true (hlt)]
    refine lin_done 2 (by kernel_rfl) ?_
    generalize hact : Act.put _ (some 14) _ = act
    simp only [Act.put, List.setIfInBounds_toArray, List.set_cons_succ, List.set_cons_zero] at hact
    subst hact
    obtain ⟨a, ha⟩ : ∃ a, Hid (xs[2 * k]? = some a) := ⟨_, List.getElem?_eq_getElem (by rw [X64.out]; omega)⟩
    obtain ⟨b, hb⟩ : ∃ b, Hid (xs[2 * k + 1]? = some b) := ⟨_, List.getElem?_eq_getElem (by rw [X64.out]; omega)⟩
    have AB : Hid (0 ≤ a ∧ a ≤ 255) := HB.out a (List.mem_of_getElem? ha.out)
    have BB : Hid (0 ≤ b ∧ b ≤ 255) := HB.out b (List.mem_of_getElem? hb.out)
    have IA : Hid (∀ W, (Instr.index 9 (.string s) (.int .i64 ((2 * k : Nat) : Int))).run Tryd.prog W = .ok (.int .u8 a) W) := fun W => HAT.out (2 * k) a ha.out AB.out W
    have IB : Hid (∀ W, (Instr.index 9 (.string s) (.int .i64 ((2 * k + 1 : Nat) : Int))).run Tryd.prog W = .ok (.int .u8 b) W) := fun W => HAT.out (2 * k + 1) b hb.out BB.out W
    have GA : Hid (xs.getD (2 * k) 0 = a) := by rw [Hid, List.getD_eq_getElem?_getD, ha.out]; rfl
    have GB : Hid (xs.getD (2 * k + 1) 0 = b) := by rw [Hid, List.getD_eq_getElem?_getD, hb.out]; rfl
    have KY : Hid (∀ v1 v2, valC a = some v1 → valC b = some v2 → hxK xs (k + 1) = some (l ++ [16 * v1 + v2])) := fun v1 v2 h1 h2 => hxK_yes HK.out (by rw [GA.out]; exact h1) (by rw [GB.out]; exact h2)
    have KN : Hid (valC a = none ∨ valC b = none → R = none) := fun h => by
      rw [← hR.out]
      refine hxV_no X64.out (k := k) (by omega) ?_
      rcases h with h | h
      · exact hxK_no1 (by rw [GA.out]; exact h)
      · exact hxK_no2 (by rw [GB.out]; exact h)
    have DA := Lib.hid (rvalue_walk a)
    have DB := Lib.hid (rvalue_walk b)
    clear ha hb GA GB HK
    cases hva : valC a with
    | none =>
      rw [hva] at DA
      cases hvb : valC b with
      | none =>
        rw [hvb] at DB
        go_upto_region 7 with (fail)
        refine lin_begin (opsOf Tryd.f7 7) (by kernel_rfl) ?_
        refine lnow 0 (.string s) (some 17) ?_
        refine lnow 1 (.int .i64 (k : Int)) (some 18) ?_
        refine lnow 2 (.int .i64 (IntKind.i64.wrap (2 * (k : Int)))) (some 19) ?_
        rw [show IntKind.i64.wrap (2 * (k : Int)) = ((2 * k : Nat) : Int) from (IntWalk.i64_in _ (by omega)).trans (by omega)]
        refine lnowP 3 (.int .u8 a) (some 20) (exec_of (Instr.index 9 (.string s) (.int .i64 ((2 * k : Nat) : Int))) _ (by kernel_rfl) (IA.out _)) ?_
        refine lin_call 4 25 #[.int .u8 a] (some 21) _ (by kernel_rfl) (by kernel_rfl) (by kernel_rfl) (DA.out _) ?_
        rintro e0 wx ⟨rfl, hwx⟩
        subst hwx
        refine ⟨_, rfl, ?_⟩
        refine lnow 5 (.int .i64 (-1)) (some 6) ?_
        refine lin_done 6 (by kernel_rfl) ?_
        generalize hact : Act.put _ (some 6) _ = act
        simp only [Act.put, List.setIfInBounds_toArray, List.set_cons_succ, List.set_cons_zero] at hact
        subst hact
        go_upto_region 8 with (fail)
        refine lin_begin (opsOf Tryd.f7 8) (by kernel_rfl) ?_
        refine lnow 0 (.string s) (some 22) ?_
        refine lnow 1 (.int .i64 (k : Int)) (some 23) ?_
        refine lnow 2 (.int .i64 (IntKind.i64.wrap (2 * (k : Int)))) (some 24) ?_
        rw [show IntKind.i64.wrap (2 * (k : Int)) = ((2 * k : Nat) : Int) from (IntWalk.i64_in _ (by omega)).trans (by omega)]
        refine lnow 3 (.int .i64 (IntKind.i64.wrap (((2 * k : Nat) : Int) + 1))) (some 25) ?_
        rw [show IntKind.i64.wrap (((2 * k : Nat) : Int) + 1) = ((2 * k + 1 : Nat) : Int) from (IntWalk.i64_in _ (by omega)).trans (by omega)]
        refine lnowP 4 (.int .u8 b) (some 26) (exec_of (Instr.index 9 (.string s) (.int .i64 ((2 * k + 1 : Nat) : Int))) _ (by kernel_rfl) (IB.out _)) ?_
        refine lin_call 5 25 #[.int .u8 b] (some 27) _ (by kernel_rfl) (by kernel_rfl) (by kernel_rfl) (DB.out _) ?_
        rintro e0 wx ⟨rfl, hwx⟩
        subst hwx
        refine ⟨_, rfl, ?_⟩
        refine lnow 6 (.int .i64 (-1)) (some 7) ?_
        refine lin_done 7 (by kernel_rfl) ?_
        generalize hact : Act.put _ (some 7) _ = act
        simp only [Act.put, List.setIfInBounds_toArray, List.set_cons_succ, List.set_cons_zero] at hact
        subst hact
        go_upto_region 9 with (fail)
        refine lin_begin (opsOf Tryd.f7 9) (by kernel_rfl) ?_
        refine lnow 0 (.int .i64 (-1)) (some 28) ?_
        refine lnow 1 (.bool true) (some 29) ?_
        refine lnow 2 (.bool true) (some 30) ?_
        refine lpas 3 (some 31) ?_
        refine lpas 4 (some 32) ?_
        refine lnow 5 (.bool true) (some 33) ?_
        refine lin_done 6 (by kernel_rfl) ?_
        generalize hact : Act.put _ (some 33) _ = act
        simp only [Act.put, List.setIfInBounds_toArray, List.set_cons_succ, List.set_cons_zero] at hact
        subst hact
        have RN : Hid (R = none) := KN.out (.inl hva)
        go_upto_region 10 with (fail)
        refine lin_begin (opsOf Tryd.f7 10) (by kernel_rfl) ?_
        refine lnow 0 (.agg (ints .u8 z32N).toArray) (some 34) ?_
        refine lin_put 1 24 (.tmp 2) (.tmp 34) (q) _ (ints .u8 z32N) (ints .u8 z32N) (by kernel_rfl) (by kernel_rfl) (by kernel_rfl) (by kernel_rfl) (by kernel_rfl) RQ.out (len2D z32N_len z32N_len) (sizeD z32N_len) (ints_oneCell _ _) ?_
        intro w4 bw4 uw4
        refine lnow 2 (.bool false) (some 3) ?_
        refine lin_done 3 (by kernel_rfl) ?_
        generalize hact : Act.put _ (some 3) _ = act
        simp only [Act.put, List.setIfInBounds_toArray, List.set_cons_succ, List.set_cons_zero] at hact
        subst hact
        have BF : Below q w w4 := uw4.below BW.out (Nat.le_refl _) (Nat.le_of_lt RQ.out.lt)
        go_wp2
        refine bodyPost_ret (v := .tuple #[.agg (ints .u8 z32N).toArray, .bool false]) ?_ rfl ⟨by rw [RN.out]; rfl, BF⟩
        exact results_cell_tmp Tryd.results7 _ _ q 24 (ints .u8 z32N).toArray (0, 0) _ _ rfl rfl bw4 Tryd.underlying24 rfl (hb_size _ z32N_len)
      | some v2 =>
        rw [hvb] at DB
        have V2 := Lib.hid (valC_range hvb)
        go_upto_region 7 with (fail)
        refine lin_begin (opsOf Tryd.f7 7) (by kernel_rfl) ?_
        refine lnow 0 (.string s) (some 17) ?_
        refine lnow 1 (.int .i64 (k : Int)) (some 18) ?_
        refine lnow 2 (.int .i64 (IntKind.i64.wrap (2 * (k : Int)))) (some 19) ?_
        rw [show IntKind.i64.wrap (2 * (k : Int)) = ((2 * k : Nat) : Int) from (IntWalk.i64_in _ (by omega)).trans (by omega)]
        refine lnowP 3 (.int .u8 a) (some 20) (exec_of (Instr.index 9 (.string s) (.int .i64 ((2 * k : Nat) : Int))) _ (by kernel_rfl) (IA.out _)) ?_
        refine lin_call 4 25 #[.int .u8 a] (some 21) _ (by kernel_rfl) (by kernel_rfl) (by kernel_rfl) (DA.out _) ?_
        rintro e0 wx ⟨rfl, hwx⟩
        subst hwx
        refine ⟨_, rfl, ?_⟩
        refine lnow 5 (.int .i64 (-1)) (some 6) ?_
        refine lin_done 6 (by kernel_rfl) ?_
        generalize hact : Act.put _ (some 6) _ = act
        simp only [Act.put, List.setIfInBounds_toArray, List.set_cons_succ, List.set_cons_zero] at hact
        subst hact
        go_upto_region 8 with (fail)
        refine lin_begin (opsOf Tryd.f7 8) (by kernel_rfl) ?_
        refine lnow 0 (.string s) (some 22) ?_
        refine lnow 1 (.int .i64 (k : Int)) (some 23) ?_
        refine lnow 2 (.int .i64 (IntKind.i64.wrap (2 * (k : Int)))) (some 24) ?_
        rw [show IntKind.i64.wrap (2 * (k : Int)) = ((2 * k : Nat) : Int) from (IntWalk.i64_in _ (by omega)).trans (by omega)]
        refine lnow 3 (.int .i64 (IntKind.i64.wrap (((2 * k : Nat) : Int) + 1))) (some 25) ?_
        rw [show IntKind.i64.wrap (((2 * k : Nat) : Int) + 1) = ((2 * k + 1 : Nat) : Int) from (IntWalk.i64_in _ (by omega)).trans (by omega)]
        refine lnowP 4 (.int .u8 b) (some 26) (exec_of (Instr.index 9 (.string s) (.int .i64 ((2 * k + 1 : Nat) : Int))) _ (by kernel_rfl) (IB.out _)) ?_
        refine lin_call 5 25 #[.int .u8 b] (some 27) _ (by kernel_rfl) (by kernel_rfl) (by kernel_rfl) (DB.out _) ?_
        rintro e0 wx ⟨rfl, hwx⟩
        subst hwx
        refine ⟨_, rfl, ?_⟩
        refine lnow 6 (.int .i64 v2) (some 7) ?_
        refine lin_done 7 (by kernel_rfl) ?_
        generalize hact : Act.put _ (some 7) _ = act
        simp only [Act.put, List.setIfInBounds_toArray, List.set_cons_succ, List.set_cons_zero] at hact
        subst hact
        go_upto_region 9 with (fail)
        refine lin_begin (opsOf Tryd.f7 9) (by kernel_rfl) ?_
        refine lnow 0 (.int .i64 (-1)) (some 28) ?_
        refine lnow 1 (.bool true) (some 29) ?_
        refine lnow 2 (.bool true) (some 30) ?_
        refine lpas 3 (some 31) ?_
        refine lpas 4 (some 32) ?_
        refine lnow 5 (.bool true) (some 33) ?_
        refine lin_done 6 (by kernel_rfl) ?_
        generalize hact : Act.put _ (some 33) _ = act
        simp only [Act.put, List.setIfInBounds_toArray, List.set_cons_succ, List.set_cons_zero] at hact
        subst hact
        have RN : Hid (R = none) := KN.out (.inl hva)
        go_upto_region 10 with (fail)
        refine lin_begin (opsOf Tryd.f7 10) (by kernel_rfl) ?_
        refine lnow 0 (.agg (ints .u8 z32N).toArray) (some 34) ?_
        refine lin_put 1 24 (.tmp 2) (.tmp 34) (q) _ (ints .u8 z32N) (ints .u8 z32N) (by kernel_rfl) (by kernel_rfl) (by kernel_rfl) (by kernel_rfl) (by kernel_rfl) RQ.out (len2D z32N_len z32N_len) (sizeD z32N_len) (ints_oneCell _ _) ?_
        intro w4 bw4 uw4
        refine lnow 2 (.bool false) (some 3) ?_
        refine lin_done 3 (by kernel_rfl) ?_
        generalize hact : Act.put _ (some 3) _ = act
        simp only [Act.put, List.setIfInBounds_toArray, List.set_cons_succ, List.set_cons_zero] at hact
        subst hact
        have BF : Below q w w4 := uw4.below BW.out (Nat.le_refl _) (Nat.le_of_lt RQ.out.lt)
        go_wp2
        refine bodyPost_ret (v := .tuple #[.agg (ints .u8 z32N).toArray, .bool false]) ?_ rfl ⟨by rw [RN.out]; rfl, BF⟩
        exact results_cell_tmp Tryd.results7 _ _ q 24 (ints .u8 z32N).toArray (0, 0) _ _ rfl rfl bw4 Tryd.underlying24 rfl (hb_size _ z32N_len)
    | some v1 =>
      rw [hva] at DA
      have V1 := Lib.hid (valC_range hva)
      cases hvb : valC b with
      | none =>
        rw [hvb] at DB
        go_upto_region 7 with (fail)
        refine lin_begin (opsOf Tryd.f7 7) (by kernel_rfl) ?_
        refine lnow 0 (.string s) (some 17) ?_
        refine lnow 1 (.int .i64 (k : Int)) (some 18) ?_
        refine lnow 2 (.int .i64 (IntKind.i64.wrap (2 * (k : Int)))) (some 19) ?_
        rw [show IntKind.i64.wrap (2 * (k : Int)) = ((2 * k : Nat) : Int) from (IntWalk.i64_in _ (by omega)).trans (by omega)]
        refine lnowP 3 (.int .u8 a) (some 20) (exec_of (Instr.index 9 (.string s) (.int .i64 ((2 * k : Nat) : Int))) _ (by kernel_rfl) (IA.out _)) ?_
        refine lin_call 4 25 #[.int .u8 a] (some 21) _ (by kernel_rfl) (by kernel_rfl) (by kernel_rfl) (DA.out _) ?_
        rintro e0 wx ⟨rfl, hwx⟩
        subst hwx
        refine ⟨_, rfl, ?_⟩
        refine lnow 5 (.int .i64 v1) (some 6) ?_
        refine lin_done 6 (by kernel_rfl) ?_
        generalize hact : Act.put _ (some 6) _ = act
        simp only [Act.put, List.setIfInBounds_toArray, List.set_cons_succ, List.set_cons_zero] at hact
        subst hact
        go_upto_region 8 with (fail)
        refine lin_begin (opsOf Tryd.f7 8) (by kernel_rfl) ?_
        refine lnow 0 (.string s) (some 22) ?_
        refine lnow 1 (.int .i64 (k : Int)) (some 23) ?_
        refine lnow 2 (.int .i64 (IntKind.i64.wrap (2 * (k : Int)))) (some 24) ?_
        rw [show IntKind.i64.wrap (2 * (k : Int)) = ((2 * k : Nat) : Int) from (IntWalk.i64_in _ (by omega)).trans (by omega)]
        refine lnow 3 (.int .i64 (IntKind.i64.wrap (((2 * k : Nat) : Int) + 1))) (some 25) ?_
        rw [show IntKind.i64.wrap (((2 * k : Nat) : Int) + 1) = ((2 * k + 1 : Nat) : Int) from (IntWalk.i64_in _ (by omega)).trans (by omega)]
        refine lnowP 4 (.int .u8 b) (some 26) (exec_of (Instr.index 9 (.string s) (.int .i64 ((2 * k + 1 : Nat) : Int))) _ (by kernel_rfl) (IB.out _)) ?_
        refine lin_call 5 25 #[.int .u8 b] (some 27) _ (by kernel_rfl) (by kernel_rfl) (by kernel_rfl) (DB.out _) ?_
        rintro e0 wx ⟨rfl, hwx⟩
        subst hwx
        refine ⟨_, rfl, ?_⟩
        refine lnow 6 (.int .i64 (-1)) (some 7) ?_
        refine lin_done 7 (by kernel_rfl) ?_
        generalize hact : Act.put _ (some 7) _ = act
        simp only [Act.put, List.setIfInBounds_toArray, List.set_cons_succ, List.set_cons_zero] at hact
        subst hact
        go_upto_region 9 with (fail)
        refine lin_begin (opsOf Tryd.f7 9) (by kernel_rfl) ?_
        refine lnow 0 (.int .i64 v1) (some 28) ?_
        refine lnow 1 (.bool (decide (v1 < 0))) (some 29) ?_
        rw [decide_eq_false (by have := V1.out; omega)]
        refine lnow 2 (.bool false) (some 30) ?_
        refine lnow 3 (.int .i64 (-1)) (some 31) ?_
        refine lnow 4 (.bool true) (some 32) ?_
        refine lnow 5 (.bool true) (some 33) ?_
        refine lin_done 6 (by kernel_rfl) ?_
        generalize hact : Act.put _ (some 33) _ = act
        simp only [Act.put, List.setIfInBounds_toArray, List.set_cons_succ, List.set_cons_zero] at hact
        subst hact
        have RN : Hid (R = none) := KN.out (.inr hvb)
        go_upto_region 10 with (fail)
        refine lin_begin (opsOf Tryd.f7 10) (by kernel_rfl) ?_
        refine lnow 0 (.agg (ints .u8 z32N).toArray) (some 34) ?_
        refine lin_put 1 24 (.tmp 2) (.tmp 34) (q) _ (ints .u8 z32N) (ints .u8 z32N) (by kernel_rfl) (by kernel_rfl) (by kernel_rfl) (by kernel_rfl) (by kernel_rfl) RQ.out (len2D z32N_len z32N_len) (sizeD z32N_len) (ints_oneCell _ _) ?_
        intro w4 bw4 uw4
        refine lnow 2 (.bool false) (some 3) ?_
        refine lin_done 3 (by kernel_rfl) ?_
        generalize hact : Act.put _ (some 3) _ = act
        simp only [Act.put, List.setIfInBounds_toArray, List.set_cons_succ, List.set_cons_zero] at hact
        subst hact
        have BF : Below q w w4 := uw4.below BW.out (Nat.le_refl _) (Nat.le_of_lt RQ.out.lt)
        go_wp2
        refine bodyPost_ret (v := .tuple #[.agg (ints .u8 z32N).toArray, .bool false]) ?_ rfl ⟨by rw [RN.out]; rfl, BF⟩
        exact results_cell_tmp Tryd.results7 _ _ q 24 (ints .u8 z32N).toArray (0, 0) _ _ rfl rfl bw4 Tryd.underlying24 rfl (hb_size _ z32N_len)
      | some v2 =>
        rw [hvb] at DB
        have V2 := Lib.hid (valC_range hvb)
        have HK2 := Lib.hid (KY.out v1 v2 hva hvb)
        have FN : Hid ((fzZ l).set k (16 * v1 + v2) = fzZ (l ++ [16 * v1 + v2])) := fzZ_next LK.out (by omega) _
        have FL : Hid ((fzZ l).length = 32) := fzZ_len (by rw [LK.out]; omega)
        have JN := Lib.hid (join16v v1 v2 (by have := V1.out; omega) (by have := V2.out; omega))
        have u1 := V1.out.1
        have u2 := V1.out.2.1
        have u3 := V2.out.1
        have u4 := V2.out.2.1
        go_upto_region 7 with (fail)
        refine lin_begin (opsOf Tryd.f7 7) (by kernel_rfl) ?_
        refine lnow 0 (.string s) (some 17) ?_
        refine lnow 1 (.int .i64 (k : Int)) (some 18) ?_
        refine lnow 2 (.int .i64 (IntKind.i64.wrap (2 * (k : Int)))) (some 19) ?_
        rw [show IntKind.i64.wrap (2 * (k : Int)) = ((2 * k : Nat) : Int) from (IntWalk.i64_in _ (by omega)).trans (by omega)]
        refine lnowP 3 (.int .u8 a) (some 20) (exec_of (Instr.index 9 (.string s) (.int .i64 ((2 * k : Nat) : Int))) _ (by kernel_rfl) (IA.out _)) ?_
        refine lin_call 4 25 #[.int .u8 a] (some 21) _ (by kernel_rfl) (by kernel_rfl) (by kernel_rfl) (DA.out _) ?_
        rintro e0 wx ⟨rfl, hwx⟩
        subst hwx
        refine ⟨_, rfl, ?_⟩
        refine lnow 5 (.int .i64 v1) (some 6) ?_
        refine lin_done 6 (by kernel_rfl) ?_
        generalize hact : Act.put _ (some 6) _ = act
        simp only [Act.put, List.setIfInBounds_toArray, List.set_cons_succ, List.set_cons_zero] at hact
        subst hact
        go_upto_region 8 with (fail)
        refine lin_begin (opsOf Tryd.f7 8) (by kernel_rfl) ?_
        refine lnow 0 (.string s) (some 22) ?_
        refine lnow 1 (.int .i64 (k : Int)) (some 23) ?_
        refine lnow 2 (.int .i64 (IntKind.i64.wrap (2 * (k : Int)))) (some 24) ?_
        rw [show IntKind.i64.wrap (2 * (k : Int)) = ((2 * k : Nat) : Int) from (IntWalk.i64_in _ (by omega)).trans (by omega)]
        refine lnow 3 (.int .i64 (IntKind.i64.wrap (((2 * k : Nat) : Int) + 1))) (some 25) ?_
        rw [show IntKind.i64.wrap (((2 * k : Nat) : Int) + 1) = ((2 * k + 1 : Nat) : Int) from (IntWalk.i64_in _ (by omega)).trans (by omega)]
        refine lnowP 4 (.int .u8 b) (some 26) (exec_of (Instr.index 9 (.string s) (.int .i64 ((2 * k + 1 : Nat) : Int))) _ (by kernel_rfl) (IB.out _)) ?_
        refine lin_call 5 25 #[.int .u8 b] (some 27) _ (by kernel_rfl) (by kernel_rfl) (by kernel_rfl) (DB.out _) ?_
        rintro e0 wx ⟨rfl, hwx⟩
        subst hwx
        refine ⟨_, rfl, ?_⟩
        refine lnow 6 (.int .i64 v2) (some 7) ?_
        refine lin_done 7 (by kernel_rfl) ?_
        generalize hact : Act.put _ (some 7) _ = act
        simp only [Act.put, List.setIfInBounds_toArray, List.set_cons_succ, List.set_cons_zero] at hact
        subst hact
        go_upto_region 9 with (fail)
        refine lin_begin (opsOf Tryd.f7 9) (by kernel_rfl) ?_
        refine lnow 0 (.int .i64 v1) (some 28) ?_
        refine lnow 1 (.bool (decide (v1 < 0))) (some 29) ?_
        rw [decide_eq_false (by have := V1.out; omega)]
        refine lnow 2 (.bool false) (some 30) ?_
        refine lnow 3 (.int .i64 v2) (some 31) ?_
        refine lnow 4 (.bool (decide (v2 < 0))) (some 32) ?_
        rw [decide_eq_false (by have := V2.out; omega)]
        refine lnow 5 (.bool false) (some 33) ?_
        refine lin_done 6 (by kernel_rfl) ?_
        generalize hact : Act.put _ (some 33) _ = act
        simp only [Act.put, List.setIfInBounds_toArray, List.set_cons_succ, List.set_cons_zero] at hact
        subst hact
        go_upto_region 11 with (fail)
        refine lin_begin (opsOf Tryd.f7 11) (by kernel_rfl) ?_
        refine lnow 0 (.int .i64 (k : Int)) (some 35) ?_
        refine lnow 1 (.int .i64 v1) (some 36) ?_
        refine lnow 2 (.int .i64 (IntKind.i64.wrap (16 * v1))) (some 37) ?_
        rw [show IntKind.i64.wrap (16 * v1) = 16 * v1 from IntWalk.i64_in _ (by omega)]
        refine lnow 3 (.int .i64 v2) (some 38) ?_
        refine lnow 4 (.int .i64 (IntKind.i64.wrap ((16 * v1) + v2))) (some 39) ?_
        rw [show IntKind.i64.wrap ((16 * v1) + v2) = (16 * v1) + v2 from IntWalk.i64_in _ (by omega)]
        refine lnow 5 (.int .u8 (IntKind.u8.wrap (16 * v1 + v2))) (some 40) ?_
        rw [show IntKind.u8.wrap (16 * v1 + v2) = 16 * v1 + v2 from IntWalk.u8_in _ (by omega)]
        refine lnowP 6 (.pointer (some ⟨q + 1, 0 + k, none⟩)) (some 41) (exec_indexAt 24 (.tmp 4) (.tmp 35) (by kernel_rfl) _ _ _ (by kernel_rfl) (by kernel_rfl) (run_at_dgB (q + 1) 0 k (by omega) _)) ?_
        have RD0 : Hid (Blk wr (q + 1) 24 (ints .u8 (fzZ l)) ∧ 0 + k < (ints .u8 (fzZ l)).length) := ⟨RD.out, by rw [ints_length, FL.out]; omega⟩
        refine lin_cellD 7 5 (.tmp 41) (.tmp 40) (q + 1) (0 + k) 24 (ints .u8 (fzZ l)) (.int .u8 (16 * v1 + v2)) (by kernel_rfl) (by kernel_rfl) (by kernel_rfl) (by kernel_rfl) (by kernel_rfl) RD0.out.1 RD0.out.2 sizeByte rfl rfl ?_
        intro w4 b4 u4w
        refine lin_done 8 (by kernel_rfl) ?_
        generalize hact : Act.put _ none _ = act
        simp only [Act.put, List.setIfInBounds_toArray, List.set_cons_succ, List.set_cons_zero] at hact
        subst hact
        have RD4 : Hid (Blk w4 (q + 1) 24 (ints .u8 (fzZ (l ++ [16 * v1 + v2])))) := by have h := b4; rw [Nat.zero_add, ints_set, FN.out] at h; exact h
        have RQ4 : Hid (Blk w4 q 24 (ints .u8 z32N)) := u4w.blk RQ.out (by omega)
        have BW4 : Hid (Below q w w4) := u4w.below BW.out (by omega) (by have := RQ.out.lt; omega)
        clear b4 u4w RD0 RQ RD BW DA DB IA IB KY KN hva hvb FN FL JN
        go_wp2
        go_roundw
        case rel => exact ⟨k + 1, _, by omega, by go_num, HK2, RQ4, RD4, BW4⟩
        case measure => simp [intOf]; omega
end Go.Proofs.YtoeilaedpibboaaDoor
/- The document's Hex. -/
namespace Go.Proofs.YtoeilaedpibboaaDoor
open Go Go.RowKit
set_option maxRecDepth 100000

theorem run_app2 {w : World} {base q2 : Nat} {v : Value} {l : List Int} {x y : Int} (hown : w.ownsRow base 5 1 v l.length (ints .u8 l)) (hq : Blk w q2 5 (ints .u8 [x, y])) (hb : l.length + 2 ≤ 100000) (hbase : base ≤ w.heap.size) :
    ∃ v' w', (Builtin.append_ #[36, 36] 36 #[v, .slice (some ⟨q2, 0, none⟩) 2 2]).run Tryd.prog w = .ok v' w' ∧ w'.ownsRow base 5 1 v' (l ++ [x, y]).length (ints .u8 (l ++ [x, y])) ∧ w.grownBy w' v.ownBlock := by
  obtain ⟨i0, hi0, hz0, hz1, hz2⟩ := info_parts infoByte5
  obtain ⟨v', w', h1, h2, h3, -, -⟩ := run_append_own_at (P := Tryd.prog) w base 36 36 5 i0 (.int .u8 0) 1 1 Tryd.underlying36 hi0 hz0 hz1 hz2 rfl (by decide) v _ _ hown ⟨q2, 0, none⟩ 2 2 (ints .u8 [x, y]) rfl (fun j u hu => by rw [Addr.add_mid, Nat.zero_add]; exact hq.cell hu) (ints_one _ _) (by unfold maxLen; omega) (by omega) hbase
  exact ⟨v', w', h1, by rw [List.length_append]; simpa [ints] using h2, h3⟩
theorem run_build2 (x y : Int) (w : World) : (Instr.buildSlice 36 2 #[(0, .int .u8 x), (1, .int .u8 y)]).run Tryd.prog w = .ok (.slice (some ⟨w.heap.size, 0, none⟩) 2 2) (w.alloc (.cells (ints .u8 [x, y]).toArray 5)) := by kernel_rfl
theorem run_build0 (w : World) : (Instr.buildSlice 36 0 #[]).run Tryd.prog w = .ok (.slice (some ⟨w.heap.size, 0, none⟩) 0 0) (w.alloc (.cells #[] 5)) := by kernel_rfl
theorem run_str64 (v : Value) (zs : List Int) (w : World) (h : BytesIn w v zs) (h0 : 0 < zs.length) : (convert 36 9 v).run Tryd.prog w = .ok (.string (strOfNums zs)) w := by
  obtain ⟨a, c, rfl, -, hp⟩ := h
  obtain ⟨pb, po, rfl, _, hr⟩ := hp h0
  exact run_convert_bytes_arg w 36 5 Tryd.underlying36 Tryd.underlying5 pb po _ c zs rfl (fun i hi => hr i _ (ints_getD hi)) 9 Tryd.underlying9
theorem hexL_snoc {ds : List Int} {k : Nat} {x : Int} (h : ds[k]? = some x) : hexL (ds.take (k + 1)) = hexL (ds.take k) ++ [hexD (x / 16), hexD (x % 16)] := by
  rw [List.take_add_one, h, hexL_append]
  rfl
set_option maxHeartbeats 1000000 in
theorem rhex_walk (ds : List Int) (hd : ds.length = 32) (hb : isBytes ds) (w : World) :
    Calls Tryd.prog 9 #[.agg (ints .u8 ds).toArray] w fun e w' => e = .returned (.string (strOfNums (hexL ds))) ∧ Below w.heap.size w w' := by
  obtain ⟨q, hq⟩ : ∃ q, Hid (w.heap.size = q) := ⟨_, rfl⟩
  have HD := Lib.hid hd
  have HB := Lib.hid hb
  clear hd hb
  obtain ⟨s, hs⟩ : ∃ s, Hid (strOfNums (hexL ds) = s) := ⟨_, rfl⟩
  rw [hs.out, hq.out]
  go_enter Tryd.func9, Tryd.ntmps9
  go_upto_region 0 with (fail)
  refine lin_begin (opsOf Tryd.f9 0) (by kernel_rfl) ?_
  refine lin_box 0 24 (.tmp 0) (ints .u8 ds) q (some 1) (by kernel_rfl) (by kernel_rfl) (by kernel_rfl) (by kernel_rfl) hq ?_
  intro w1 b1 be1 hs1
  refine lnow 1 (.string ⟨#[]⟩) (some 2) ?_
  refine lin_done 2 (by kernel_rfl) ?_
  generalize hact : Act.put _ (some 2) _ = act
  simp only [Act.put, List.setIfInBounds_toArray, List.set_cons_succ, List.set_cons_zero] at hact
  subst hact
  have hmk := run_build0 w1
  have O2 : Hid ((w1.alloc (.cells #[] 5)).ownsRow w1.heap.size 5 1 (.slice (some ⟨w1.heap.size, 0, none⟩) 0 0) 0 []) := owns_empty w1 _ (Nat.le_refl _)
  have B2 : Hid (Below w1.heap.size w1 (w1.alloc (.cells #[] 5))) := (Below.refl _ _).alloc (Nat.le_refl _) _
  rw [hs1.out] at hmk O2 B2
  go_upto_region 1 with (fail)
  refine lin_begin (opsOf Tryd.f9 1) (by kernel_rfl) ?_
  generalize w1.alloc (.cells #[] 5) = w2 at hmk O2 B2
  refine lin_value 0 (.slice (some ⟨q + 1, 0, none⟩) 0 0) (some 5) w2 (by kernel_rfl) (by kernel_rfl) (exec_of (Instr.buildSlice 36 0 #[]) _ (by kernel_rfl) hmk) ?_
  refine lnow 1 (.slice (some ⟨q + 1, 0, none⟩) 0 0) (some 3) ?_
  refine lin_done 2 (by kernel_rfl) ?_
  generalize hact : Act.put _ (some 3) _ = act
  simp only [Act.put, List.setIfInBounds_toArray, List.set_cons_succ, List.set_cons_zero] at hact
  subst hact
  have D2 : Hid (Blk w2 q 24 (ints .u8 ds)) := b1.below B2.out (by omega)
  have BE2 : Hid (Below q w w2) := be1.trans (B2.out.mono (by omega))
  have s2 : Hid (q + 1 ≤ w2.heap.size) := by have h := B2.out.size; rw [hs1.out] at h; exact h
  clear b1 be1 hmk B2 hs1
  go_upto_region 2 with (fail)
  refine lin_begin (opsOf Tryd.f9 2) (by kernel_rfl) ?_
  refine lnow 0 (.int .i64 0) (some 4) ?_
  refine lin_done 1 (by kernel_rfl) ?_
  generalize hact : Act.put _ (some 4) _ = act
  simp only [Act.put, List.setIfInBounds_toArray, List.set_cons_succ, List.set_cons_zero] at hact
  subst hact
  go_wp2
  go_loopw [3, 4] (fun ov iv wr => ∃ (pv : Value) (k : Nat), pv = ov ∧ k ≤ 32 ∧ iv = .int .i64 (k : Int) ∧ Hid (wr.ownsRow (q + 1) 5 1 pv (hexL (ds.take k)).length (ints .u8 (hexL (ds.take k)))) ∧ Hid (Blk wr q 24 (ints .u8 ds)) ∧ Hid (Below q w wr) ∧ Hid (q + 1 ≤ wr.heap.size)) (fun _ iv _ => 32 - (intOf iv).toNat)
  case atStart => exact ⟨_, 0, rfl, Nat.zero_le _, rfl, O2, D2, BE2, s2⟩
  case round =>
    obtain ⟨pv, k, hpv, hk, rfl, OW, DR, BW, SW⟩ := hrel
    subst hpv
    clear O2 D2 BE2 s2
    by_cases hlt : (k : Int) < 32
    rotate_left
    · skip
      go_upto_region 3 with (fail)
      refine lin_begin (opsOf Tryd.f9 3) (by kernel_rfl) ?_
      refine lnow 0 (.int .i64 (k : Int)) (some 6) ?_
      refine lnow 1 (.bool (decide ((k : Int) < 32))) (some 7) ?_
      rw [decide_eq_false (hlt)]
      refine lin_done 2 (by kernel_rfl) ?_
      generalize hact : Act.put _ (some 7) _ = act
      simp only [Act.put, List.setIfInBounds_toArray, List.set_cons_succ, List.set_cons_zero] at hact
      subst hact
      have K32 : Hid (ds.take k = ds) := List.take_of_length_le (by rw [HD.out]; omega)
      rw [K32.out] at OW
      have HCV := Lib.hid (run_str64 pv (hexL ds) wr (owns_bytes OW.out) (by rw [hexL_length, HD.out]; omega))
      rw [hs.out] at HCV
      clear OW DR SW K32
      go_upto_region 6 with (fail)
      refine lin_begin (opsOf Tryd.f9 6) (by kernel_rfl) ?_
      refine lnow 0 (pv) (some 23) ?_
      refine lnowP 1 (.string s) (some 24) (exec_of (convert 36 9 pv) _ (by kernel_rfl) HCV.out) ?_
      refine lnow 2 (.string s) (some 2) ?_
      refine lin_done 3 (by kernel_rfl) ?_
      generalize hact : Act.put _ (some 2) _ = act
      simp only [Act.put, List.setIfInBounds_toArray, List.set_cons_succ, List.set_cons_zero] at hact
      subst hact
      go_wp2
      go_ret
      exact ⟨rfl, BW.out⟩
    go_upto_region 3 with (fail)
    refine lin_begin (opsOf Tryd.f9 3) (by kernel_rfl) ?_
    refine lnow 0 (.int .i64 (k : Int)) (some 6) ?_
    refine lnow 1 (.bool (decide ((k : Int) < 32))) (some 7) ?_
    rw [decide_eq_true (hlt)]
    refine lin_done 2 (by kernel_rfl) ?_
    generalize hact : Act.put _ (some 7) _ = act
    simp only [Act.put, List.setIfInBounds_toArray, List.set_cons_succ, List.set_cons_zero] at hact
    subst hact
    obtain ⟨x, hx⟩ : ∃ x, Hid (ds[k]? = some x) := ⟨_, List.getElem?_eq_getElem (by rw [HD.out]; omega)⟩
    have XB : Hid (0 ≤ x ∧ x ≤ 255) := HB.out x (List.mem_of_getElem? hx.out)
    have xb := XB.out
    have QD : Hid (IntKind.u8.wrap (x.tdiv 16) = x / 16) := by rw [Hid, Int.tdiv_eq_ediv_of_nonneg xb.1]; exact IntWalk.u8_in _ (by omega)
    have QR : Hid (x.tmod 16 = x % 16) := Int.tmod_eq_emod_of_nonneg xb.1
    have I1 := Lib.hid (fun W => run_digit (x / 16) (by omega) (by omega) W)
    have I2 := Lib.hid (fun W => run_digit (x % 16) (by omega) (by omega) W)
    have HN := Lib.hid (hexL_snoc hx.out)
    have HL : Hid ((hexL (ds.take k)).length ≤ 64) := by rw [Hid, hexL_length, List.length_take, HD.out]; omega
    have CX : Hid (∀ W, Blk W q 24 (ints .u8 ds) → W.cell? ⟨q, 0 + k, none⟩ = some (.int .u8 x)) := fun W h => by rw [Nat.zero_add]; exact h.cell (ints_get hx.out)
    generalize hexL (ds.take k) = l at *
    generalize hexD (x / 16) = h1 at *
    generalize hexD (x % 16) = h2 at *
    clear hx XB
    go_upto_region 5 with (fail)
    refine region_begin (opsOf Tryd.f9 5) (fun w' => Blk w' q 24 (ints .u8 ds)) (by kernel_rfl) (by kernel_rfl) 14 (by kernel_rfl) ?_
    intro Q' hQN hN
    have HS : Blk (World.drew wr) q 24 (ints .u8 ds) := DR.out
    have OD : Hid (World.ownsRow (World.drew wr) (q + 1) 5 1 pv l.length (ints .u8 l)) := OW.out
    have BD : Hid (Below q w (World.drew wr)) := BW.out.drew
    have SD : Hid (q + 1 ≤ (World.drew wr).heap.size) := SW.out
    clear DR OW BW SW
    generalize World.drew wr = w5 at HS OD BD SD ⊢
    refine reg_now 0 (pv) (some 10) hQN HS (by kernel_rfl) (by kernel_rfl) (fun w => by kernel_rfl) ?_
    refine reg_now 1 (.int .i64 (k : Int)) (some 11) hQN HS (by kernel_rfl) (by kernel_rfl) (fun w => by kernel_rfl) ?_
    refine reg_now 2 (.pointer (some ⟨q, 0 + k, none⟩)) (some 12) hQN HS (by kernel_rfl) (by kernel_rfl) (fun w' => exec_indexAt 24 (.tmp 1) (.tmp 11) (by kernel_rfl) _ _ _ (by kernel_rfl) (by kernel_rfl) (run_at_dgB q 0 k (by omega) _)) ?_
    refine reg_nowIf 3 (.int .u8 x) (some 13) hQN HS (by kernel_rfl) (by kernel_rfl) (fun w' hw => exec_load_cell 5 (.tmp 12) (by kernel_rfl) q (0 + k) (by kernel_rfl) _ (CX.out w' hw) _ Tryd.underlying5 rfl) ?_
    refine reg_now 4 (.int .u8 (IntKind.u8.wrap (x.tdiv 16))) (some 14) hQN HS (by kernel_rfl) (by kernel_rfl) (fun w => by kernel_rfl) ?_
    rw [QD.out]
    refine reg_now 5 (.int .u8 h1) (some 15) hQN HS (by kernel_rfl) (by kernel_rfl) (fun w' => exec_of (Instr.index 9 (.string ⟨#[48, 49, 50, 51, 52, 53, 54, 55, 56, 57, 97, 98, 99, 100, 101, 102]⟩) (.int .u8 (x / 16))) _ (by kernel_rfl) (I1.out _)) ?_
    refine reg_now 6 (.int .i64 (k : Int)) (some 16) hQN HS (by kernel_rfl) (by kernel_rfl) (fun w => by kernel_rfl) ?_
    refine reg_now 7 (.pointer (some ⟨q, 0 + k, none⟩)) (some 17) hQN HS (by kernel_rfl) (by kernel_rfl) (fun w' => exec_indexAt 24 (.tmp 1) (.tmp 16) (by kernel_rfl) _ _ _ (by kernel_rfl) (by kernel_rfl) (run_at_dgB q 0 k (by omega) _)) ?_
    refine reg_nowIf 8 (.int .u8 x) (some 18) hQN HS (by kernel_rfl) (by kernel_rfl) (fun w' hw => exec_load_cell 5 (.tmp 17) (by kernel_rfl) q (0 + k) (by kernel_rfl) _ (CX.out w' hw) _ Tryd.underlying5 rfl) ?_
    refine reg_now 9 (.int .u8 (x.tmod 16)) (some 19) hQN HS (by kernel_rfl) (by kernel_rfl) (fun w => by kernel_rfl) ?_
    rw [QR.out]
    refine reg_now 10 (.int .u8 h2) (some 20) hQN HS (by kernel_rfl) (by kernel_rfl) (fun w' => exec_of (Instr.index 9 (.string ⟨#[48, 49, 50, 51, 52, 53, 54, 55, 56, 57, 97, 98, 99, 100, 101, 102]⟩) (.int .u8 (x % 16))) _ (by kernel_rfl) (I2.out _)) ?_
    have HS6 : Blk (w5.alloc (.cells (ints .u8 [h1, h2]).toArray 5)) q 24 (ints .u8 ds) := HS.alloc _
    refine reg_value 11 (.slice (some ⟨w5.heap.size, 0, none⟩) 2 2) (some 21) (w5.alloc (.cells (ints .u8 [h1, h2]).toArray 5)) (by kernel_rfl) (by kernel_rfl) (exec_of (Instr.buildSlice 36 2 #[(0, .int .u8 h1), (1, .int .u8 h2)]) _ (by kernel_rfl) (run_build2 h1 h2 w5)) HS6 ?_
    have N6 : Blk (w5.alloc (.cells (ints .u8 [h1, h2]).toArray 5)) w5.heap.size 5 (ints .u8 [h1, h2]) := Blk.new _ _ _
    have B6 : Below w5.heap.size w5 (w5.alloc (.cells (ints .u8 [h1, h2]).toArray 5)) := (Below.refl _ _).alloc (Nat.le_refl _) _
    have O6 := own_step (F := []) (F' := []) OD.out (Step.of_below B6 (Nat.le_refl _)) (fun g _ => by simp)
    have s6 : (w5.alloc (.cells (ints .u8 [h1, h2]).toArray 5)).heap.size = w5.heap.size + 1 := by simp
    generalize hB5 : w5.heap.size = B5 at *
    generalize w5.alloc (.cells (ints .u8 [h1, h2]).toArray 5) = w6 at *
    obtain ⟨v7, w7, r7, o7, g7⟩ := run_app2 O6 N6 (by have := HL.out; omega) (by have := SD.out; omega)
    have GB : ∀ g, pv.ownBlock = some g → q + 1 ≤ g := fun g hg => by
      rcases O6.2 with ⟨e1, -⟩ | ⟨g2, cap2, cur2, e1, hb2, -⟩
      · rw [e1] at hg; cases hg
      · rw [e1] at hg; simp [Value.ownBlock] at hg; omega
    have HS7 : Blk w7 q 24 (ints .u8 ds) := (g7.block q HS6.lt (fun h => by have := GB q h.symm; omega)).trans HS6
    have B7 : Hid (Below q w w7) := (BD.out.trans (B6.mono (by have := SD.out; omega))).grown g7 (by have := SD.out; omega) (fun g hg => by have := GB g hg; omega)
    have S7 : Hid (q + 1 ≤ w7.heap.size) := by rw [Hid]; have := g7.size; have := SD.out; omega
    have O7 : Hid (w7.ownsRow (q + 1) 5 1 v7 (hexL (ds.take (k + 1))).length (ints .u8 (hexL (ds.take (k + 1))))) := by rw [HN.out]; exact o7
    refine reg_value 12 v7 (some 22) w7 (by kernel_rfl) (by kernel_rfl) (exec_of (Builtin.append_ #[36, 36] 36 #[pv, .slice (some ⟨B5, 0, none⟩) 2 2]) _ (by kernel_rfl) r7) HS7 ?_
    refine reg_now 13 (v7) (some 3) hQN HS7 (by kernel_rfl) (by kernel_rfl) (fun w => by kernel_rfl) ?_
    refine reg_done (by kernel_rfl) (hN _ _ ?_)
    generalize hact : Act.put _ (some 3) _ = act
    simp only [Act.put, List.setIfInBounds_toArray, List.set_cons_succ, List.set_cons_zero] at hact
    subst hact
    have D7 := Lib.hid HS7
    clear HS7 HS6 HS o7 r7 g7 GB O6 N6 B6 s6 OD BD SD I1 I2 CX HN hQN hN
    go_wp2
    go_roundw
    case rel => exact ⟨_, k + 1, rfl, by omega, by go_num, O7, D7, B7, S7⟩
    case measure => simp [intOf]; omega
end Go.Proofs.YtoeilaedpibboaaDoor
