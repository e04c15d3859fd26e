/- The library's Compact over whatever digests. -/
import Derived.Test.YtoeilaedpibboaaDoorTagCpt
import Derived.Test.YtoeilaedpibboaaDoorTagOrd
import Derived.Test.YtoeilaedpibboaaDoorGenT
import Derived.Deep.LoopGhost
namespace Go.Proofs.YtoeilaedpibboaaDoor
open Go Go.RowKit
set_option maxRecDepth 100000

theorem ints_zero (n : Nat) : ints .u8 (List.replicate n 0) = List.replicate n (.int .u8 0) := by simp [ints]
theorem zeroCells_dig (m : Nat) : (Builtin.zeroCells (Value.agg (ints .u8 (List.replicate 32 0)).toArray).cells m).toList = ints .u8 (List.replicate (32 * m) 0) := by
  rw [ints_zero (32 * m), ints_zero 32]
  show (Builtin.zeroCells (List.replicate 32 (Value.int .u8 0)).toArray m).toList = _
  unfold Builtin.zeroCells
  rw [List.eq_replicate_iff]
  refine ⟨by simp [Nat.mul_comm], fun b hb => ?_⟩
  simp only [Array.toList_map, List.mem_map] at hb
  obtain ⟨a, -, rfl⟩ := hb
  have h : a % (List.replicate 32 (Value.int .u8 0)).toArray.size < (List.replicate 32 (Value.int .u8 0)).toArray.size := Nat.mod_lt _ (by decide)
  rw [getElem!_pos (List.replicate 32 (Value.int .u8 0)).toArray _ h, List.getElem_toArray, List.getElem_replicate]
theorem run_clear_digs (D o m c : Nat) (hm : 0 < m) (w : World) (ht : w.there D o (32 * m)) : (Builtin.clear_ #[22] 0 #[.slice (some ⟨D, o, none⟩) m c]).run Tryd.prog w = .ok (.tuple #[]) (w.setCells D o (ints .u8 (List.replicate (32 * m) 0))) := by
  have h := run_storeCells_cells (P := Tryd.prog) D o (ints .u8 (List.replicate (32 * m) 0)) 0 w (fun j hj => by have := ht j (by rw [ints_length, List.length_replicate] at hj; exact hj); simpa using this.1) (fun j hj => by have := ht j (by rw [ints_length, List.length_replicate] at hj; exact hj); simpa using this.2) (ints_one _ _)
  rw [Nat.add_zero] at h
  have hu : (underlying 22).run Tryd.prog w = .ok (.slice 24) w := by kernel_rfl
  have hz : (zeroValue 24).run Tryd.prog w = .ok (.agg (ints .u8 (List.replicate 32 0)).toArray) w := by kernel_rfl
  have hc := zeroCells_dig m
  simp only [Value.cells] at hc
  generalize ints .u8 (List.replicate (32 * m) 0) = zz at *
  generalize ints .u8 (List.replicate 32 0) = z at *
  obtain ⟨m, rfl⟩ : ∃ m', m = m' + 1 := ⟨m - 1, by omega⟩
  simp [Builtin.clear_, hu, hz, hc, h, Value.cells]
theorem run_at_dig0 (D n cap m : Nat) (hm : m < n) (w : World) : (Instr.indexAt 22 (.slice (some ⟨D, 0, none⟩) n cap) (.int .i64 (m : Int))).run Tryd.prog w = .ok (.pointer (some ⟨D, 32 * m, none⟩)) w := by
  have h := run_at_digest D 0 n cap m hm w
  rwa [Nat.zero_add] at h
theorem run_at_digO (D k n cap m : Nat) (hm : m < n) (w : World) : (Instr.indexAt 22 (.slice (some ⟨D, 32 * k, none⟩) n cap) (.int .i64 (m : Int))).run Tryd.prog w = .ok (.pointer (some ⟨D, 32 * (k + m), none⟩)) w := by
  have h := run_at_digest D (32 * k) n cap m hm w
  rwa [← Nat.mul_add] at h
theorem run_tailA (D n cap k : Nat) (hk : k < cap) (hkn : k ≤ n) (w : World) : (Instr.sliceAt 22 (.slice (some ⟨D, 0, none⟩) n cap) (some (.int .i64 (k : Int))) none none).run Tryd.prog w = .ok (.slice (some ⟨D, 32 * k, none⟩) (n - k) (cap - k)) w := by
  rw [run_sliceAt_slice w 22 _ _ _ _ elemDigests]
  exact run_cut_tail D n cap k hk hkn w
theorem run_headA (D n cap k : Nat) (hk : k ≤ cap) (w : World) : (Instr.sliceAt 22 (.slice (some ⟨D, 0, none⟩) n cap) none (some (.int .i64 (k : Int))) none).run Tryd.prog w = .ok (.slice (some ⟨D, 0, none⟩) k cap) w := by
  have hz : (sizeOf (Tryd.prog.elem 22)).run Tryd.prog w = .ok 32 w := by kernel_rfl
  rw [run_sliceAt_slice w 22 _ _ _ _ elemDigests, run_slice_h w 22 _ _ cap elemDigests .i64 (k : Int) (by omega) (by omega), hz]
  simp only [Result.andThen_ok, sliced, Int.toNat_natCast, Nat.sub_zero, Nat.zero_mul]
  split <;> rfl
theorem cpt_step {ds : List (List Int)} {k : Nat} {x y : List Int} (hk : 1 ≤ k) (hx : ds[k]? = some x) (hy : ds[k - 1]? = some y) : cpt (ds.take (k + 1)) = if x = y then cpt (ds.take k) else cpt (ds.take k) ++ [x] := by
  have hl : k < ds.length := (List.getElem?_eq_some_iff.1 hx).1
  have e1 : ds.take (k + 1) = ds.take k ++ [x] := by rw [List.take_add_one, hx]; rfl
  have hne : ds.take k ≠ [] := fun e => by have := congrArg List.length e; rw [List.length_take, List.length_nil] at this; omega
  have e2 : (ds.take k).getLast hne = y := by
    rw [List.getLast_eq_getElem]
    have h1 : (ds.take k)[(ds.take k).length - 1]? = some y := by
      rw [List.length_take, List.getElem?_take, if_pos (by omega), show min k ds.length - 1 = k - 1 by omega]; exact hy
    exact (List.getElem?_eq_some_iff.1 h1).2
  rw [e1, cpt_snoc hne, e2]
theorem sizeD {x : List Int} (h : x.length = 32) : (Tryd.prog.info? 24).map (·.size) = some (ints .u8 x).length := by rw [ints_length, h]; exact sizeDigest
theorem Dg.zeros {w : World} {D : Nat} {l : List (List Int)} {rest : List Value} (h : Dg w D 24 l rest) (h32 : all32 l) {c : Nat} (hc : c ≤ l.length) : ∃ rest', Dg (w.setCells D (32 * c) (ints .u8 (List.replicate (32 * (l.length - c)) 0))) D 24 (l.take c) rest' := by
  have hs := Blk.setCells (ints .u8 (List.replicate (32 * (l.length - c)) 0)) h (32 * c) (by rw [List.length_append, ints_length, ints_length, List.length_replicate, flat32_length h32]; omega)
  unfold splice at hs
  rw [List.take_append_of_le_length (by rw [ints_length, flat32_length h32]; omega), ints_take, flat32_take h32, List.append_assoc] at hs
  exact ⟨_, hs⟩
theorem one_of {ds : List (List Int)} {n : Nat} (h : ds.length = n) (h1 : 1 ≤ n) (h2 : (n : Int) < 2) : cpt ds = ds := by
  match ds, h with
  | [x], _ => rfl
  | [], h => rw [List.length_nil] at h; omega
  | _ :: _ :: _, h => rw [List.length_cons, List.length_cons] at h; omega
theorem cpt_one {ds : List (List Int)} {n : Nat} (h : ds.length = n) (h1 : 1 ≤ n) : cpt (ds.take 1) = ds.take 1 := by
  match ds, h with
  | x :: l, _ => rfl
  | [], h => rw [List.length_nil] at h; omega

set_option maxHeartbeats 4000000 in
theorem scompact_all (D n cap : Nat) (ds : List (List Int)) (rest : List Value) (hn : ds.length = n) (hok : okD ds) (h1 : 1 ≤ n) (hn' : n ≤ 1000) (hcap : n ≤ cap) (w : World) (hD : Dg w D 24 ds rest) :
    Calls Tryd.prog 29 #[.slice (some ⟨D, 0, none⟩) n cap] w (CptPost D (cpt ds) w) := by
  have HD := Lib.hid hD
  have HOK := Lib.hid hok
  have HN := Lib.hid hn
  clear hD hok hn
  obtain ⟨C, hC⟩ : ∃ C, Hid (cpt ds = C) := ⟨_, rfl⟩
  rw [hC.out]
  go_enter Tryd.func29, Tryd.ntmps29
  go_upto_region 0 with (fail)
  refine lin_begin (opsOf Tryd.f29 0) (by kernel_rfl) ?_
  refine lnow 0 (.slice none 0 0) (some 2) ?_
  refine lin_done 1 (by kernel_rfl) ?_
  generalize hact : Act.put _ (some 2) _ = act
  simp only [Act.put, List.setIfInBounds_toArray, List.set_cons_succ, List.set_cons_zero] at hact
  subst hact
  by_cases h2 : (n : Int) < 2
  · skip
    go_upto_region 1 with (fail)
    refine lin_begin (opsOf Tryd.f29 1) (by kernel_rfl) ?_
    refine lnow 0 (.slice (some ⟨D, 0, none⟩) n cap) (some 6) ?_
    refine lnow 1 (.int .i64 (n : Int)) (some 7) ?_
    refine lnow 2 (.bool (decide ((n : Int) < 2))) (some 8) ?_
    rw [decide_eq_true (h2)]
    refine lin_done 3 (by kernel_rfl) ?_
    generalize hact : Act.put _ (some 8) _ = act
    simp only [Act.put, List.setIfInBounds_toArray, List.set_cons_succ, List.set_cons_zero] at hact
    subst hact
    have EC : C = ds := by rw [← hC.out]; exact one_of HN.out h1 h2
    have CL : C.length = n := by rw [EC, HN.out]
    have DC : Dg w D 24 C rest := by rw [EC]; exact HD.out
    clear EC hC
    go_wp2
    go_ret
    exact ⟨cap, rest, by rw [CL]; rfl, by omega, DC, Upd.refl _ _⟩
  go_upto_region 1 with (fail)
  refine lin_begin (opsOf Tryd.f29 1) (by kernel_rfl) ?_
  refine lnow 0 (.slice (some ⟨D, 0, none⟩) n cap) (some 6) ?_
  refine lnow 1 (.int .i64 (n : Int)) (some 7) ?_
  refine lnow 2 (.bool (decide ((n : Int) < 2))) (some 8) ?_
  rw [decide_eq_false (h2)]
  refine lin_done 3 (by kernel_rfl) ?_
  generalize hact : Act.put _ (some 8) _ = act
  simp only [Act.put, List.setIfInBounds_toArray, List.set_cons_succ, List.set_cons_zero] at hact
  subst hact
  go_upto_region 3 with (fail)
  refine lin_begin (opsOf Tryd.f29 3) (by kernel_rfl) ?_
  refine lnow 0 (.int .i64 1) (some 3) ?_
  refine lin_done 1 (by kernel_rfl) ?_
  generalize hact : Act.put _ (some 3) _ = act
  simp only [Act.put, List.setIfInBounds_toArray, List.set_cons_succ, List.set_cons_zero] at hact
  subst hact
  go_wp2
  go_loopw [3] (fun kv wr => ∃ k : Nat, 1 ≤ k ∧ k ≤ n ∧ kv = .int .i64 (k : Int) ∧ Hid (cpt (ds.take k) = ds.take k) ∧ Hid (Sg D ds rest w wr)) (fun kv _ => n - (intOf kv).toNat)
  case atStart => exact ⟨1, Nat.le_refl _, by omega, rfl, cpt_one HN.out h1, ⟨HD.out, Upd.refl _ _⟩⟩
  case round =>
    obtain ⟨k, hk1, hkn, rfl, CP, SG⟩ := hrel
    by_cases hlt : (k : Int) < (n : Int)
    rotate_left
    · skip
      go_upto_region 4 with (fail)
      refine lin_begin (opsOf Tryd.f29 4) (by kernel_rfl) ?_
      refine lnow 0 (.int .i64 (k : Int)) (some 10) ?_
      refine lnow 1 (.slice (some ⟨D, 0, none⟩) n cap) (some 11) ?_
      refine lnow 2 (.int .i64 (n : Int)) (some 12) ?_
      refine lnow 3 (.bool (decide ((k : Int) < (n : Int)))) (some 13) ?_
      rw [decide_eq_false (hlt)]
      refine lin_done 4 (by kernel_rfl) ?_
      generalize hact : Act.put _ (some 13) _ = act
      simp only [Act.put, List.setIfInBounds_toArray, List.set_cons_succ, List.set_cons_zero] at hact
      subst hact
      have ET : ds.take k = ds := List.take_of_length_le (by have := HN.out; omega)
      have EC : C = ds := by rw [← hC.out]; have h := CP.out; rw [ET] at h; exact h
      have CL : Hid (C.length = n) := by rw [Hid, EC, HN.out]
      have DC : Hid (Dg wr D 24 C rest ∧ Upd D w wr) := by rw [EC]; exact ⟨SG.out.d, SG.out.u⟩
      clear ET EC CP SG hC
      go_wp2
      go_ret
      exact ⟨cap, rest, by rw [CL.out]; rfl, by rw [CL.out]; exact hcap, DC.out.1, DC.out.2⟩
    go_upto_region 4 with (fail)
    refine lin_begin (opsOf Tryd.f29 4) (by kernel_rfl) ?_
    refine lnow 0 (.int .i64 (k : Int)) (some 10) ?_
    refine lnow 1 (.slice (some ⟨D, 0, none⟩) n cap) (some 11) ?_
    refine lnow 2 (.int .i64 (n : Int)) (some 12) ?_
    refine lnow 3 (.bool (decide ((k : Int) < (n : Int)))) (some 13) ?_
    rw [decide_eq_true (hlt)]
    refine lin_done 4 (by kernel_rfl) ?_
    generalize hact : Act.put _ (some 13) _ = act
    simp only [Act.put, List.setIfInBounds_toArray, List.set_cons_succ, List.set_cons_zero] at hact
    subst hact
    obtain ⟨x, hx⟩ : ∃ x, Hid (ds[k]? = some x) := ⟨_, List.getElem?_eq_getElem (by rw [HN.out]; omega)⟩
    obtain ⟨y, hy⟩ : ∃ y, Hid (ds[k - 1]? = some y) := ⟨_, List.getElem?_eq_getElem (by rw [HN.out]; omega)⟩
    have OX : Hid (x.length = 32) := (HOK.out x (List.mem_of_getElem? hx.out)).1
    have OY : Hid (y.length = 32) := (HOK.out y (List.mem_of_getElem? hy.out)).1
    have CS := Lib.hid (cpt_step hk1 hx.out hy.out)
    have RX := Lib.hid (SG.out.d.range HOK.out.a hx.out)
    have RY := Lib.hid (SG.out.d.range HOK.out.a hy.out)
    go_upto_region 6 with (fail)
    refine region_begin (opsOf Tryd.f29 6) (fun w' => ∀ p, w'.cell? p = World.cell? wr p) (by kernel_rfl) (by kernel_rfl) 10 (by kernel_rfl) ?_
    intro Q' hQN hN
    have HS : ∀ p, World.cell? (World.drew wr) p = World.cell? wr p := fun _ => rfl
    refine reg_now 0 (.slice (some ⟨D, 0, none⟩) n cap) (some 16) hQN HS (by kernel_rfl) (by kernel_rfl) (fun w => by kernel_rfl) ?_
    refine reg_now 1 (.int .i64 (k : Int)) (some 17) hQN HS (by kernel_rfl) (by kernel_rfl) (fun w => by kernel_rfl) ?_
    refine reg_now 2 (.pointer (some ⟨D, 32 * k, none⟩)) (some 18) hQN HS (by kernel_rfl) (by kernel_rfl) (fun w' => exec_indexAt 22 (.tmp 16) (.tmp 17) (by kernel_rfl) _ _ _ (by kernel_rfl) (by kernel_rfl) (run_at_dig0 D n cap k (by omega) _)) ?_
    refine reg_nowIf 3 (.agg (ints .u8 x).toArray) (some 19) hQN HS (by kernel_rfl) (by kernel_rfl) (fun w' hw => exec_load_mid 24 (.tmp 18) (by kernel_rfl) D (32 * k) (by kernel_rfl) (ints .u8 x) _ (fun j y hy => (hw _).trans (RX.out j y hy)) Tryd.underlying24 rfl (sizeD OX.out)) ?_
    refine reg_now 4 (.slice (some ⟨D, 0, none⟩) n cap) (some 20) hQN HS (by kernel_rfl) (by kernel_rfl) (fun w => by kernel_rfl) ?_
    refine reg_now 5 (.int .i64 (k : Int)) (some 21) hQN HS (by kernel_rfl) (by kernel_rfl) (fun w => by kernel_rfl) ?_
    refine reg_now 6 (.int .i64 (IntKind.i64.wrap ((k : Int) - 1))) (some 22) hQN HS (by kernel_rfl) (by kernel_rfl) (fun w => by kernel_rfl) ?_
    rw [show IntKind.i64.wrap ((k : Int) - 1) = ((k - 1 : Nat) : Int) from (IntWalk.i64_in _ (by omega)).trans (by omega)]
    refine reg_now 7 (.pointer (some ⟨D, 32 * (k - 1 : Nat), none⟩)) (some 23) hQN HS (by kernel_rfl) (by kernel_rfl) (fun w' => exec_indexAt 22 (.tmp 20) (.tmp 22) (by kernel_rfl) _ _ _ (by kernel_rfl) (by kernel_rfl) (run_at_dig0 D n cap (k - 1 : Nat) (by omega) _)) ?_
    refine reg_nowIf 8 (.agg (ints .u8 y).toArray) (some 24) hQN HS (by kernel_rfl) (by kernel_rfl) (fun w' hw => exec_load_mid 24 (.tmp 23) (by kernel_rfl) D (32 * (k - 1 : Nat)) (by kernel_rfl) (ints .u8 y) _ (fun j y hy => (hw _).trans (RY.out j y hy)) Tryd.underlying24 rfl (sizeD OY.out)) ?_
    refine reg_now 9 (.bool (decide (x = y))) (some 25) hQN HS (by kernel_rfl) (by kernel_rfl) (fun w' => exec_eql w' (.tmp 19) (.tmp 24) 24 (by kernel_rfl) Tryd.underlying24 Tryd.underlying5 sizeByte guardDigest x y OX.out OY.out (by kernel_rfl) (by kernel_rfl)) ?_
    refine reg_done (by kernel_rfl) (hN _ _ ?_)
    generalize hact : Act.put _ (some 25) _ = act
    simp only [Act.put, List.setIfInBounds_toArray, List.set_cons_succ, List.set_cons_zero] at hact
    subst hact
    have SGd : Hid (Sg D ds rest w (World.drew wr)) := SG.out.next (Below.refl _ _).drew
    clear HS hQN hN SG RX RY
    generalize World.drew wr = w1 at SGd ⊢
    by_cases hxy : x = y
    rotate_left
    · skip
      rw [decide_eq_false hxy]
      have CP2 : Hid (cpt (ds.take (k + 1)) = ds.take (k + 1)) := by rw [Hid, CS.out, if_neg hxy, CP.out, List.take_add_one, hx.out]; rfl
      clear CS CP hxy hx hy OX OY
      generalize ints .u8 x = vx
      generalize ints .u8 y = vy
      go_wp2
      go_roundw
      case rel => exact ⟨k + 1, by omega, by omega, by go_num, CP2, SGd⟩
      case measure => simp [intOf]; omega
    rw [decide_eq_true hxy]
    have CP2 : Hid (cpt (ds.take (k + 1)) = ds.take k) := by rw [Hid, CS.out, if_pos hxy, CP.out]
    clear CS CP hxy hx hy OX OY
    generalize ints .u8 x = vx
    generalize ints .u8 y = vy
    go_upto_region 7 with (fail)
    refine lin_begin (opsOf Tryd.f29 7) (by kernel_rfl) ?_
    refine lnow 0 (.slice (some ⟨D, 0, none⟩) n cap) (some 26) ?_
    refine lnow 1 (.int .i64 (k : Int)) (some 27) ?_
    refine lnowP 2 (.slice (some ⟨D, 32 * k, none⟩) (n - k) (cap - k)) (some 28) (exec_of (Instr.sliceAt 22 (.slice (some ⟨D, 0, none⟩) n cap) (some (.int .i64 (k : Int))) none none) _ (by kernel_rfl) (run_tailA D n cap k (by omega) (by omega) _)) ?_
    refine lnow 3 (.slice (some ⟨D, 32 * k, none⟩) (n - k) (cap - k)) (some 4) ?_
    refine lin_done 4 (by kernel_rfl) ?_
    generalize hact : Act.put _ (some 4) _ = act
    simp only [Act.put, List.setIfInBounds_toArray, List.set_cons_succ, List.set_cons_zero] at hact
    subst hact
    go_upto_region 8 with (fail)
    refine lin_begin (opsOf Tryd.f29 8) (by kernel_rfl) ?_
    refine lnow 0 (.int .i64 1) (some 5) ?_
    refine lin_done 1 (by kernel_rfl) ?_
    generalize hact : Act.put _ (some 5) _ = act
    simp only [Act.put, List.setIfInBounds_toArray, List.set_cons_succ, List.set_cons_zero] at hact
    subst hact
    go_wp2
    go_loopw [3, 5] (fun cv jv wr => ∃ (c j : Nat) (l : List (List Int)), 1 ≤ j ∧ j ≤ n - k ∧ c + 1 ≤ k + j ∧ cv = .int .i64 (c : Int) ∧ jv = .int .i64 (j : Int) ∧ Hid (l.length = n) ∧ Hid (okD l) ∧ Hid (l.take c = cpt (ds.take (k + j))) ∧ Hid (l.drop (k + j - 1) = ds.drop (k + j - 1)) ∧ Hid (Sg D l rest w wr)) (fun _ jv _ => n - (intOf jv).toNat)
    case atStart => exact ⟨k, 1, ds, Nat.le_refl _, by omega, by omega, rfl, rfl, HN.out, HOK.out, CP2.out.symm, rfl, SGd.out⟩
    case round =>
      obtain ⟨c, j, l, hj1, hjn, hcj, rfl, rfl, LL, LK, LT, LD, SG⟩ := hrel
      by_cases hjl : (j : Int) < ((n - k : Nat) : Int)
      rotate_left
      · skip
        go_upto_region 9 with (fail)
        refine lin_begin (opsOf Tryd.f29 9) (by kernel_rfl) ?_
        refine lnow 0 (.int .i64 (j : Int)) (some 29) ?_
        refine lnow 1 (.slice (some ⟨D, 32 * k, none⟩) (n - k) (cap - k)) (some 30) ?_
        refine lnow 2 (.int .i64 ((n - k : Nat) : Int)) (some 31) ?_
        refine lnow 3 (.bool (decide ((j : Int) < ((n - k : Nat) : Int)))) (some 32) ?_
        rw [decide_eq_false (hjl)]
        refine lin_done 4 (by kernel_rfl) ?_
        generalize hact : Act.put _ (some 32) _ = act
        simp only [Act.put, List.setIfInBounds_toArray, List.set_cons_succ, List.set_cons_zero] at hact
        subst hact
        have ej : k + j = n := by omega
        have LC : Hid (l.take c = C) := by rw [Hid, LT.out, ej, List.take_of_length_le (by rw [HN.out]; exact Nat.le_refl _), hC.out]
        have CL : Hid (C.length = c) := by rw [Hid, ← LC.out, List.length_take, LL.out]; omega
        obtain ⟨rest', hrest⟩ := Dg.zeros SG.out.d LK.out.a (c := c) (by rw [LL.out]; omega)
        have hclr := run_clear_digs D (32 * c) (n - c) (cap - c) (by omega) wr (Blk.there SG.out.d _ _ (by rw [List.length_append, ints_length, flat32_length LK.out.a, LL.out]; omega))
        rw [LL.out, LC.out] at hrest
        have UW : Hid (Upd D w (wr.setCells D (32 * c) (ints .u8 (List.replicate (32 * (n - c)) 0)))) := SG.out.u.setCells _ _
        generalize wr.setCells D (32 * c) (ints .u8 (List.replicate (32 * (n - c)) 0)) = w3 at hclr hrest UW
        have RS := Lib.hid hrest
        clear hrest SG LT LD LC hC LL LK CP2 SGd
        go_upto_region 14 with (fail)
        refine lin_begin (opsOf Tryd.f29 14) (by kernel_rfl) ?_
        refine lnow 0 (.slice (some ⟨D, 0, none⟩) n cap) (some 54) ?_
        refine lnow 1 (.int .i64 (c : Int)) (some 55) ?_
        refine lnowP 2 (.slice (some ⟨D, 32 * c, none⟩) (n - c) (cap - c)) (some 56) (exec_of (Instr.sliceAt 22 (.slice (some ⟨D, 0, none⟩) n cap) (some (.int .i64 (c : Int))) none none) _ (by kernel_rfl) (run_tailA D n cap c (by omega) (by omega) _)) ?_
        refine lin_value 3 (.tuple #[]) none w3 (by kernel_rfl) (by kernel_rfl) (exec_of (Builtin.clear_ #[22] 0 #[.slice (some ⟨D, 32 * c, none⟩) (n - c) (cap - c)]) _ (by kernel_rfl) hclr) ?_
        refine lin_done 4 (by kernel_rfl) ?_
        generalize hact : Act.put _ none _ = act
        simp only [Act.put, List.setIfInBounds_toArray, List.set_cons_succ, List.set_cons_zero] at hact
        subst hact
        go_upto_region 15 with (fail)
        refine lin_begin (opsOf Tryd.f29 15) (by kernel_rfl) ?_
        refine lnow 0 (.slice (some ⟨D, 0, none⟩) n cap) (some 57) ?_
        refine lnow 1 (.int .i64 (c : Int)) (some 58) ?_
        refine lnowP 2 (.slice (some ⟨D, 0, none⟩) c cap) (some 59) (exec_of (Instr.sliceAt 22 (.slice (some ⟨D, 0, none⟩) n cap) none (some (.int .i64 (c : Int))) none) _ (by kernel_rfl) (run_headA D n cap c (by omega) _)) ?_
        refine lnow 3 (.slice (some ⟨D, 0, none⟩) c cap) (some 2) ?_
        refine lin_done 4 (by kernel_rfl) ?_
        generalize hact : Act.put _ (some 2) _ = act
        simp only [Act.put, List.setIfInBounds_toArray, List.set_cons_succ, List.set_cons_zero] at hact
        subst hact
        go_wp2
        go_ret
        exact ⟨cap, rest', by rw [CL.out]; rfl, by rw [CL.out]; omega, RS.out, UW.out⟩
      go_upto_region 9 with (fail)
      refine lin_begin (opsOf Tryd.f29 9) (by kernel_rfl) ?_
      refine lnow 0 (.int .i64 (j : Int)) (some 29) ?_
      refine lnow 1 (.slice (some ⟨D, 32 * k, none⟩) (n - k) (cap - k)) (some 30) ?_
      refine lnow 2 (.int .i64 ((n - k : Nat) : Int)) (some 31) ?_
      refine lnow 3 (.bool (decide ((j : Int) < ((n - k : Nat) : Int)))) (some 32) ?_
      rw [decide_eq_true (hjl)]
      refine lin_done 4 (by kernel_rfl) ?_
      generalize hact : Act.put _ (some 32) _ = act
      simp only [Act.put, List.setIfInBounds_toArray, List.set_cons_succ, List.set_cons_zero] at hact
      subst hact
      have AT : ∀ i z, k + j - 1 ≤ i → ds[i]? = some z → l[i]? = some z := fun i z h1 h2 => by have h := congrArg (fun q : List (List Int) => q[i - (k + j - 1)]?) LD.out; simp only [List.getElem?_drop] at h; rw [show k + j - 1 + (i - (k + j - 1)) = i by omega] at h; rw [h]; exact h2
      obtain ⟨u, hu⟩ : ∃ u, Hid (ds[k + j]? = some u) := ⟨_, List.getElem?_eq_getElem (by rw [HN.out]; omega)⟩
      obtain ⟨v, hv⟩ : ∃ v, Hid (ds[k + j - 1]? = some v) := ⟨_, List.getElem?_eq_getElem (by rw [HN.out]; omega)⟩
      have OU : Hid (u.length = 32 ∧ isBytes u) := HOK.out u (List.mem_of_getElem? hu.out)
      have OV : Hid (v.length = 32) := (HOK.out v (List.mem_of_getElem? hv.out)).1
      have CS := Lib.hid (cpt_step (by omega) hu.out hv.out)
      have RU := Lib.hid (SG.out.d.range LK.out.a (AT _ _ (by omega) hu.out))
      have RV : Hid (wr.rangeAt D (32 * (k + (j - 1))) (ints .u8 v)) := by rw [show k + (j - 1) = k + j - 1 by omega]; exact SG.out.d.range LK.out.a (AT _ _ (Nat.le_refl _) hv.out)
      clear AT
      go_upto_region 11 with (fail)
      refine region_begin (opsOf Tryd.f29 11) (fun w' => ∀ p, w'.cell? p = World.cell? wr p) (by kernel_rfl) (by kernel_rfl) 10 (by kernel_rfl) ?_
      intro Q' hQN hN
      have HS : ∀ p, World.cell? (World.drew wr) p = World.cell? wr p := fun _ => rfl
      refine reg_now 0 (.slice (some ⟨D, 32 * k, none⟩) (n - k) (cap - k)) (some 35) hQN HS (by kernel_rfl) (by kernel_rfl) (fun w => by kernel_rfl) ?_
      refine reg_now 1 (.int .i64 (j : Int)) (some 36) hQN HS (by kernel_rfl) (by kernel_rfl) (fun w => by kernel_rfl) ?_
      refine reg_now 2 (.pointer (some ⟨D, 32 * (k + j), none⟩)) (some 37) hQN HS (by kernel_rfl) (by kernel_rfl) (fun w' => exec_indexAt 22 (.tmp 35) (.tmp 36) (by kernel_rfl) _ _ _ (by kernel_rfl) (by kernel_rfl) (run_at_digO D k (n - k) (cap - k) j (by omega) _)) ?_
      refine reg_nowIf 3 (.agg (ints .u8 u).toArray) (some 38) hQN HS (by kernel_rfl) (by kernel_rfl) (fun w' hw => exec_load_mid 24 (.tmp 37) (by kernel_rfl) D (32 * (k + j)) (by kernel_rfl) (ints .u8 u) _ (fun j y hy => (hw _).trans (RU.out j y hy)) Tryd.underlying24 rfl (sizeD OU.out.1)) ?_
      refine reg_now 4 (.slice (some ⟨D, 32 * k, none⟩) (n - k) (cap - k)) (some 39) hQN HS (by kernel_rfl) (by kernel_rfl) (fun w => by kernel_rfl) ?_
      refine reg_now 5 (.int .i64 (j : Int)) (some 40) hQN HS (by kernel_rfl) (by kernel_rfl) (fun w => by kernel_rfl) ?_
      refine reg_now 6 (.int .i64 (IntKind.i64.wrap ((j : Int) - 1))) (some 41) hQN HS (by kernel_rfl) (by kernel_rfl) (fun w => by kernel_rfl) ?_
      rw [show IntKind.i64.wrap ((j : Int) - 1) = ((j - 1 : Nat) : Int) from (IntWalk.i64_in _ (by omega)).trans (by omega)]
      refine reg_now 7 (.pointer (some ⟨D, 32 * (k + (j - 1 : Nat)), none⟩)) (some 42) hQN HS (by kernel_rfl) (by kernel_rfl) (fun w' => exec_indexAt 22 (.tmp 39) (.tmp 41) (by kernel_rfl) _ _ _ (by kernel_rfl) (by kernel_rfl) (run_at_digO D k (n - k) (cap - k) (j - 1 : Nat) (by omega) _)) ?_
      refine reg_nowIf 8 (.agg (ints .u8 v).toArray) (some 43) hQN HS (by kernel_rfl) (by kernel_rfl) (fun w' hw => exec_load_mid 24 (.tmp 42) (by kernel_rfl) D (32 * (k + (j - 1 : Nat))) (by kernel_rfl) (ints .u8 v) _ (fun j y hy => (hw _).trans (RV.out j y hy)) Tryd.underlying24 rfl (sizeD OV.out)) ?_
      refine reg_now 9 (.bool (!decide (u = v))) (some 44) hQN HS (by kernel_rfl) (by kernel_rfl) (fun w' => exec_neq w' (.tmp 38) (.tmp 43) 24 (by kernel_rfl) Tryd.underlying24 Tryd.underlying5 sizeByte guardDigest u v OU.out.1 OV.out (by kernel_rfl) (by kernel_rfl)) ?_
      refine reg_done (by kernel_rfl) (hN _ _ ?_)
      generalize hact : Act.put _ (some 44) _ = act
      simp only [Act.put, List.setIfInBounds_toArray, List.set_cons_succ, List.set_cons_zero] at hact
      subst hact
      have SGe : Hid (Sg D l rest w (World.drew wr)) := SG.out.next (Below.refl _ _).drew
      have RUe : Hid (World.rangeAt (World.drew wr) D (32 * (k + j)) (ints .u8 u)) := RU.out
      clear HS hQN hN SG RU RV SGd
      generalize World.drew wr = w4 at SGe RUe ⊢
      have LD2 : Hid (l.drop (k + (j + 1) - 1) = ds.drop (k + (j + 1) - 1)) := by have h := congrArg (List.drop 1) LD.out; rw [List.drop_drop, List.drop_drop] at h; rw [Hid, show k + (j + 1) - 1 = k + j - 1 + 1 by omega]; exact h
      by_cases huv : u = v
      · skip
        rw [decide_eq_true huv]
        have LT2 : Hid (l.take c = cpt (ds.take (k + (j + 1)))) := by rw [Hid, ← Nat.add_assoc, CS.out, if_pos huv, LT.out]
        clear CS LT LD hu hv OU OV huv RUe
        generalize ints .u8 u = vu
        generalize ints .u8 v = vv
        go_wp2
        go_roundw
        case rel => exact ⟨c, j + 1, l, by omega, by omega, by omega, rfl, by go_num, LL, LK, LT2, LD2, SGe⟩
        case measure => simp [intOf]; omega
      rw [decide_eq_false huv]
      have hcl : c < l.length := by rw [LL.out]; omega
      have LT2 : Hid ((l.set c u).take (c + 1) = cpt (ds.take (k + (j + 1)))) := by rw [Hid, ← Nat.add_assoc, CS.out, if_neg huv, ← LT.out, List.take_add_one, List.getElem?_set_self hcl, List.take_set_of_le (Nat.le_refl _)]; rfl
      have LD3 : Hid ((l.set c u).drop (k + (j + 1) - 1) = ds.drop (k + (j + 1) - 1)) := by rw [Hid, List.drop_set_of_lt (by omega)]; exact LD2.out
      have LL2 : Hid ((l.set c u).length = n) := by rw [Hid, List.length_set, LL.out]
      have LK2 : Hid (okD (l.set c u)) := LK.out.set c OU.out
      have SG2 : Hid (Sg D (l.set c u) rest w (w4.setCells D (32 * c) (ints .u8 u))) := ⟨SGe.out.d.store LK.out.a hcl u OU.out.1, SGe.out.u.setCells _ _⟩
      have TH := SGe.out.d.there LK.out.a hcl
      clear CS LT LD hu hv huv LD2
      generalize ints .u8 v = vv
      go_upto_region 12 with (fail)
      refine lin_begin (opsOf Tryd.f29 12) (by kernel_rfl) ?_
      refine lnow 0 (.slice (some ⟨D, 0, none⟩) n cap) (some 45) ?_
      refine lnow 1 (.int .i64 (c : Int)) (some 46) ?_
      refine lnow 2 (.slice (some ⟨D, 32 * k, none⟩) (n - k) (cap - k)) (some 47) ?_
      refine lnow 3 (.int .i64 (j : Int)) (some 48) ?_
      refine lnowP 4 (.pointer (some ⟨D, 32 * (k + j), none⟩)) (some 49) (exec_indexAt 22 (.tmp 47) (.tmp 48) (by kernel_rfl) _ _ _ (by kernel_rfl) (by kernel_rfl) (run_at_digO D k (n - k) (cap - k) j (by omega) _)) ?_
      refine lnowP 5 (.agg (ints .u8 u).toArray) (some 50) (exec_load_mid 24 (.tmp 49) (by kernel_rfl) D (32 * (k + j)) (by kernel_rfl) (ints .u8 u) _ RUe.out Tryd.underlying24 rfl (sizeD OU.out.1)) ?_
      refine lnowP 6 (.pointer (some ⟨D, 32 * c, none⟩)) (some 51) (exec_indexAt 22 (.tmp 45) (.tmp 46) (by kernel_rfl) _ _ _ (by kernel_rfl) (by kernel_rfl) (run_at_dig0 D n cap c (by omega) _)) ?_
      refine lin_store 7 (w4.setCells D (32 * c) (ints .u8 u)) (by kernel_rfl) (by kernel_rfl) (exec_store_mid 24 (.tmp 51) (.tmp 50) (by kernel_rfl) D (32 * c) (ints .u8 u) (by kernel_rfl) (by kernel_rfl) (by rw [ints_length, OU.out.1]; exact TH) (sizeD OU.out.1) (ints_oneCell _ _)) ?_
      refine lin_done 8 (by kernel_rfl) ?_
      generalize hact : Act.put _ none _ = act
      simp only [Act.put, List.setIfInBounds_toArray, List.set_cons_succ, List.set_cons_zero] at hact
      subst hact
      clear TH RUe SGe hcl
      generalize w4.setCells D (32 * c) (ints .u8 u) = w5 at SG2 ⊢
      generalize l.set c u = l2 at *
      clear OU
      generalize ints .u8 u = vu
      go_wp2
      go_roundw
      case rel => exact ⟨c + 1, j + 1, l2, by omega, by omega, by omega, by go_num, by go_num, LL2, LK2, LT2, LD3, SG2⟩
      case measure => simp [intOf]; omega
end Go.Proofs.YtoeilaedpibboaaDoor
