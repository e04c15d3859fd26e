/- The reference of layer 6: Need, Get. -/
import Derived.Test.YtngpmilojfbpmaaGreatDoorVltU
import Derived.Test.YtngpmilojfbpmaaGreatDoorSealU
namespace Go.Proofs.YtngpmilojfbpmaaGreatDoor
open Go Go.RowKit
set_option maxRecDepth 100000

set_option maxHeartbeats 2000000 in
theorem r6need_walk (v : Value) (es : List Ent) (w : World) (h : EntsOff [] w v es) (hg : ∀ e ∈ es, goodK e.1 ∧ e.2.length ≤ 1000) (hm : es.length ≤ 1000000) (hb : cntE es ≤ 1000000) : Calls Tryz.prog 19 #[v] w fun e w' => e = .returned (.int .i64 ((cntE es : Nat) : Int)) ∧ w = w' := by
  obtain ⟨a1, c1, rfl, -, hp1⟩ := h
  obtain ⟨n, hn⟩ : ∃ n, Hid (es.length = n) := ⟨_, rfl⟩
  rw [hn.out] at hp1 hm ⊢
  have HP1 := Lib.hid hp1
  have HG := Lib.hid hg
  clear hp1 hg
  go_enter Tryz.func19, Tryz.ntmps19
  go_wp2
  go_loopw [4, 3] (fun iv nv wr => ∃ (i s : Nat), i ≤ n ∧ iv = .int .i64 (i : Int) ∧ nv = .int .i64 (s : Int) ∧ Hid (wr = w) ∧ Hid (cntE (es.take i) = s)) (fun iv _ _ => n - (intOf iv).toNat)
  case atStart => exact ⟨0, 0, Nat.zero_le _, rfl, rfl, rfl, rfl⟩
  case round =>
    obtain ⟨i, s, hi, rfl, rfl, hwr, hs⟩ := hrel
    obtain rfl := hwr.out
    by_cases hlt : i < n
    · have r1 : (i : Int) < (n : Int) := by omega
      obtain ⟨p1, o1, rfl, -, hb1, hr1⟩ := HP1.out (by omega)
      obtain ⟨e, he⟩ : ∃ e, es[i]? = some e := ⟨_, List.getElem?_eq_getElem (by rw [hn.out]; exact hlt)⟩
      obtain ⟨k1, u1, cu1, bu1, nu1⟩ := hr1 i e he
      obtain ⟨k, zs⟩ := e
      obtain ⟨hgk, hgl⟩ := HG.out (k, zs) (List.mem_of_getElem? he)
      simp only at k1 bu1 hgk hgl
      obtain ⟨x1, y1, rfl, -⟩ := id bu1
      obtain ⟨m, hm2⟩ : ∃ m, Hid (zs.length = m) := ⟨_, rfl⟩
      rw [hm2.out] at cu1 bu1 hgl
      have CU1 := Lib.hid cu1
      have HS : cntE (es.take (i + 1)) = s + needN (32 + m) := by
        rw [List.take_add_one, he, Option.toList_some, cntE_snoc _ _ _ hgk.1, hs.out, hm2.out]
      have hcb : cntE (es.take (i + 1)) ≤ cntE es := cntE_take es (i + 1) (by rw [hn.out]; omega)
      clear hb1 hr1 k1 cu1 bu1 nu1 he
      go_upto_region 5 with (fail)
      refine lin_begin (opsOf Tryz.f19 5) (by kernel_rfl) ?_
      refine lin_now 0 (.int .i64 (s : Int)) (some 11) (by kernel_rfl) (by kernel_rfl) (by kernel_rfl) ?_
      refine lin_now 1 (.slice (some ⟨p1, o1, none⟩) n c1) (some 12) (by kernel_rfl) (by kernel_rfl) (by kernel_rfl) ?_
      refine lin_now 2 (.int .i64 (i : Int)) (some 13) (by kernel_rfl) (by kernel_rfl) (by kernel_rfl) ?_
      refine lin_now 3 (.pointer (some ⟨p1, o1 + 33 * i, none⟩)) (some 14) (by kernel_rfl) (by kernel_rfl) (exec_indexAt 32 (.tmp 12) (.tmp 13) (by kernel_rfl) _ _ _ (by kernel_rfl) (by kernel_rfl) (run_at_ent p1 o1 n c1 i hlt _)) ?_
      refine lin_now 4 (.pointer (some ⟨p1, o1 + 33 * i + 32, none⟩)) (some 15) (by kernel_rfl) (by kernel_rfl) (by kernel_rfl) ?_
      refine lin_now 5 (.slice x1 m y1) (some 16) (by kernel_rfl) (by kernel_rfl) (exec_load_cell 36 (.tmp 15) (by kernel_rfl) p1 (o1 + 33 * i + 32) (by kernel_rfl) _ CU1.out _ Tryz.underlying36 rfl) ?_
      refine lin_now 6 (.int .i64 (m : Int)) (some 17) (by kernel_rfl) (by kernel_rfl) (by kernel_rfl) ?_
      refine lin_now 7 (.int .i64 (IntKind.i64.wrap (32 + (m : Int)))) (some 18) (by kernel_rfl) (by kernel_rfl) (by kernel_rfl) ?_
      rw [show IntKind.i64.wrap (32 + (m : Int)) = ((32 + m : Nat) : Int) by rw [IntWalk.i64_in _ (by omega)]; omega]
      refine lin_call 8 11 #[.int .i64 ((32 + m : Nat) : Int)] (some 19) _ (by kernel_rfl) (by kernel_rfl) (by kernel_rfl) (rlneed_walk _ _) ?_
      rintro e w5 ⟨rfl, rfl⟩
      rw [needI_nat _ (by omega)]
      refine ⟨_, rfl, ?_⟩
      refine lin_now 9 (.int .i64 (IntKind.i64.wrap ((s : Int) + ((needN (32 + m) : Nat) : Int)))) (some 20) (by kernel_rfl) (by kernel_rfl) (by kernel_rfl) ?_
      rw [show IntKind.i64.wrap ((s : Int) + ((needN (32 + m) : Nat) : Int)) = ((s + needN (32 + m) : Nat) : Int) by rw [IntWalk.i64_in _ (by omega)]; omega]
      refine lin_now 10 (.int .i64 ((s + needN (32 + m) : Nat) : Int)) (some 3) (by kernel_rfl) (by kernel_rfl) (by kernel_rfl) ?_
      refine lin_done 11 (by kernel_rfl) ?_
      generalize hact : Act.put _ (some 3) _ = act
      simp only [Act.put, List.setIfInBounds_toArray, List.set_cons_succ, List.set_cons_zero] at hact
      subst hact
      have HS' := Lib.hid HS
      clear HS hcb
      go_wp2
      exact ⟨⟨i + 1, s + needN (32 + m), by omega, by go_num, rfl, by first | exact rfl | exact True.intro, HS'⟩, by simp [intOf]; omega⟩
    · have r1 : ¬ (i : Int) < (n : Int) := by omega
      obtain rfl : i = n := by omega
      have HE : Hid (s = cntE es) := by rw [Hid, ← hs.out, List.take_of_length_le (Nat.le_of_eq hn.out)]
      go_wp2
      go_ret
      exact ⟨by rw [HE.out]; rfl, rfl⟩
def GetPost (es : List Ent) (k : List Int) (w : World) (e : Ending) (w' : World) : Prop :=
  ∃ r, e = .returned r ∧ Below w.heap.size w w' ∧ (((∀ e ∈ es, e.1 ≠ k) ∧ r = .tuple #[.slice none 0 0, .bool false]) ∨ ∃ (i : Nat) (zs : List Int) (u : Value), es[i]? = some (k, zs) ∧ r = .tuple #[u, .bool true] ∧ BytesIn w u zs ∧ NilOk u)
set_option maxHeartbeats 2000000 in
theorem r6get_walk (v : Value) (es : List Ent) (k : List Int) (w : World) (h : EntsOff [] w v es) (hk : goodK k) (hg : ∀ e ∈ es, goodK e.1 ∧ e.2.length ≤ 1000) (hm : es.length ≤ 1000000) : Calls Tryz.prog 12 #[v, kval k] w (GetPost es k w) := by
  obtain ⟨a1, c1, rfl, -, hp1⟩ := h
  obtain ⟨n, hn⟩ : ∃ n, Hid (es.length = n) := ⟨_, rfl⟩
  rw [hn.out] at hp1 hm ⊢
  have HP1 := Lib.hid hp1
  have HG := Lib.hid hg
  have KL : Hid (k.length = 32) := hk.1
  have KS : Hid ((Tryz.prog.info? 34).map (·.size) = some (ints .u8 k).length) := blk_goodK hk.1
  obtain ⟨q, hq⟩ : ∃ q, Hid (w.heap.size = q) := ⟨_, rfl⟩
  clear hp1 hg
  go_enter Tryz.func12, Tryz.ntmps12
  go_upto_region 0 with (fail)
  refine lin_begin (opsOf Tryz.f12 0) (by kernel_rfl) ?_
  refine lin_box 0 34 (.tmp 1) (ints .u8 k) (q) (some 3) (by kernel_rfl) (by kernel_rfl) (by kernel_rfl) (by kernel_rfl) hq ?_
  intro w1 b1 be1 hs1
  refine lin_now 1 (.slice none 0 0) (some 4) (by kernel_rfl) (by kernel_rfl) (by kernel_rfl) ?_
  refine lin_now 2 (.bool false) (some 5) (by kernel_rfl) (by kernel_rfl) (by kernel_rfl) ?_
  refine lin_done 3 (by kernel_rfl) ?_
  generalize hact : Act.put _ (some 5) _ = act
  simp only [Act.put, List.setIfInBounds_toArray, List.set_cons_succ, List.set_cons_zero] at hact
  subst hact
  have C1 := Lib.hid b1
  have BE := Lib.hid be1
  clear b1 be1 hs1
  go_wp2
  go_loopw [6, 19] (fun iv _ wr => ∃ (i d : Nat), i ≤ n ∧ iv = .int .i64 (i : Int) ∧ Hid (wr = w1.drewN d) ∧ Hid (∀ j e, j < i → es[j]? = some e → e.1 ≠ k)) (fun iv _ _ => n - (intOf iv).toNat)
  case atStart => exact ⟨0, 0, Nat.zero_le _, rfl, rfl, fun j e h => absurd h (by omega)⟩
  case round =>
    obtain ⟨i, d, hi, rfl, hwr, hno⟩ := hrel
    obtain rfl := hwr.out
    by_cases hlt : i < n
    · have r1 : (i : Int) < (n : Int) := by omega
      obtain ⟨p1, o1, rfl, -, hb1, hr1⟩ := HP1.out (by omega)
      obtain ⟨e, he⟩ : ∃ e, es[i]? = some e := ⟨_, List.getElem?_eq_getElem (by rw [hn.out]; exact hlt)⟩
      obtain ⟨k1, u1, cu1, bu1, nu1⟩ := hr1 i e he
      obtain ⟨k', zs⟩ := e
      obtain ⟨hgk, hgl⟩ := HG.out (k', zs) (List.mem_of_getElem? he)
      simp only at k1 bu1 hgk hgl
      have HE := Lib.hid he
      obtain ⟨x1, y1, rfl, -⟩ := id bu1
      obtain ⟨m, hm2⟩ : ∃ m, Hid (zs.length = m) := ⟨_, rfl⟩
      rw [hm2.out] at cu1 bu1 nu1
      have KL' : Hid (k'.length = 32) := hgk.1
      have KS' : Hid ((Tryz.prog.info? 34).map (·.size) = some (ints .u8 k').length) := blk_goodK hgk.1
      have R1 : Hid (w1.rangeAt p1 (o1 + 33 * i) (ints .u8 k')) := fun j v hv => by
        rw [BE.out.cell (p := ⟨p1, o1 + 33 * i + j, none⟩) (by rw [← hq.out]; exact hb1)]; exact k1 j v hv
      have CU1 : Hid (w1.cell? ⟨p1, o1 + 33 * i + 32, none⟩ = some (.slice x1 m y1)) := by
        rw [Hid, BE.out.cell (p := ⟨p1, o1 + 33 * i + 32, none⟩) (by rw [← hq.out]; exact hb1)]; exact cu1
      have BU1 : Hid (BytesIn w (.slice x1 m y1) zs ∧ NilOk (.slice x1 m y1)) := ⟨bu1.in, nu1⟩
      clear hb1 hr1 k1 cu1 bu1 nu1 he
      go_upto_region 4 with (fail)
      refine region_begin (opsOf Tryz.f12 4) (fun w' => ∃ m, w' = w1.drewN m) (by kernel_rfl) (by kernel_rfl) 7 (by kernel_rfl) ?_
      intro Q' hQN hN
      have hS : ∃ m, (w1.drewN d).drew = w1.drewN m := ⟨d + 1, rfl⟩
      refine reg_now 0 (.slice (some ⟨p1, o1, none⟩) n c1) (some 13) hQN hS (by kernel_rfl) (by kernel_rfl) (fun w => by kernel_rfl) ?_
      refine reg_now 1 (.int .i64 (i : Int)) (some 14) hQN hS (by kernel_rfl) (by kernel_rfl) (fun w => by kernel_rfl) ?_
      refine reg_now 2 (.pointer (some ⟨p1, o1 + 33 * i, none⟩)) (some 15) hQN hS (by kernel_rfl) (by kernel_rfl) (fun w' => exec_indexAt 32 (.tmp 13) (.tmp 14) (by kernel_rfl) _ _ _ (by kernel_rfl) (by kernel_rfl) (run_at_ent p1 o1 n c1 i hlt w')) ?_
      refine reg_now 3 (.pointer (some ⟨p1, o1 + 33 * i, none⟩)) (some 16) hQN hS (by kernel_rfl) (by kernel_rfl) (fun w => by kernel_rfl) ?_
      refine reg_nowIf 4 (.agg (ints .u8 k').toArray) (some 17) hQN hS (by kernel_rfl) (by kernel_rfl) (fun w' hw => by obtain ⟨m, rfl⟩ := hw; exact exec_load_mid 34 (.tmp 16) (by kernel_rfl) p1 (o1 + 33 * i) (by kernel_rfl) (ints .u8 k') _ R1.out digUnder rfl KS'.out) ?_
      refine reg_nowIf 5 (.agg (ints .u8 k).toArray) (some 18) hQN hS (by kernel_rfl) (by kernel_rfl) (fun w' hw => by obtain ⟨m, rfl⟩ := hw; exact exec_load_mid 34 (.tmp 3) (by kernel_rfl) q 0 (by kernel_rfl) (ints .u8 k) _ C1.out.whole digUnder rfl KS.out) ?_
      refine reg_now 6 (.bool (decide (k' = k))) (some 19) hQN hS (by kernel_rfl) (by kernel_rfl) (fun w' => exec_eql w' (.tmp 17) (.tmp 18) 34 (by kernel_rfl) digUnder byteUnder size1Byte eqGuardDig k' k KL'.out KL.out (by kernel_rfl) (by kernel_rfl)) ?_
      refine reg_done (by kernel_rfl) (hN _ _ ?_)
      obtain ⟨dd, hdd⟩ := hS
      rw [hdd]
      obtain ⟨bb, hbb⟩ : ∃ b, Hid (decide (k' = k) = b) := ⟨_, rfl⟩
      rw [hbb.out]
      clear hQN hN
      generalize hact : Act.put _ (some 19) _ = act
      simp only [Act.put, List.setIfInBounds_toArray, List.set_cons_succ, List.set_cons_zero] at hact
      subst hact
      cases bb with
      | true =>
        have CU2 : Hid ((w1.drewN dd).cell? ⟨p1, o1 + 33 * i + 32, none⟩ = some (.slice x1 m y1)) := CU1.out
        go_upto_region 5 with (fail)
        refine lin_begin (opsOf Tryz.f12 5) (by kernel_rfl) ?_
        refine lin_now 0 (.slice (some ⟨p1, o1, none⟩) n c1) (some 20) (by kernel_rfl) (by kernel_rfl) (by kernel_rfl) ?_
        refine lin_now 1 (.int .i64 (i : Int)) (some 21) (by kernel_rfl) (by kernel_rfl) (by kernel_rfl) ?_
        refine lin_now 2 (.pointer (some ⟨p1, o1 + 33 * i, none⟩)) (some 22) (by kernel_rfl) (by kernel_rfl) (exec_indexAt 32 (.tmp 20) (.tmp 21) (by kernel_rfl) _ _ _ (by kernel_rfl) (by kernel_rfl) (run_at_ent p1 o1 n c1 i hlt _)) ?_
        refine lin_now 3 (.pointer (some ⟨p1, o1 + 33 * i + 32, none⟩)) (some 23) (by kernel_rfl) (by kernel_rfl) (by kernel_rfl) ?_
        refine lin_now 4 (.slice x1 m y1) (some 24) (by kernel_rfl) (by kernel_rfl) (exec_load_cell 36 (.tmp 23) (by kernel_rfl) p1 (o1 + 33 * i + 32) (by kernel_rfl) _ CU2.out _ Tryz.underlying36 rfl) ?_
        refine lin_now 5 (.slice x1 m y1) (some 4) (by kernel_rfl) (by kernel_rfl) (by kernel_rfl) ?_
        refine lin_now 6 (.bool true) (some 5) (by kernel_rfl) (by kernel_rfl) (by kernel_rfl) ?_
        refine lin_done 7 (by kernel_rfl) ?_
        generalize hact : Act.put _ (some 5) _ = act
        simp only [Act.put, List.setIfInBounds_toArray, List.set_cons_succ, List.set_cons_zero] at hact
        subst hact
        go_wp2
        go_ret2
        exact ⟨_, rfl, (by rw [hq.out]; exact BE.out.trans ((below_drewN w1 dd).mono (by have := BE.out.size; have := hq.out; omega))), .inr ⟨i, zs, _, by rw [HE.out, of_decide_eq_true hbb.out], rfl, BU1.out.1, BU1.out.2⟩⟩
      | false =>
        have HNO : Hid (∀ j e, j < i + 1 → es[j]? = some e → e.1 ≠ k) := fun j e hj hje => by
          by_cases hji : j < i
          · exact hno.out j e hji hje
          · obtain rfl : j = i := by omega
            rw [HE.out] at hje
            obtain rfl := Option.some.inj hje
            exact of_decide_eq_false hbb.out
        go_wp2
        exact ⟨⟨i + 1, dd, by omega, by go_num, rfl, HNO⟩, by simp [intOf]; omega⟩
    · have r1 : ¬ (i : Int) < (n : Int) := by omega
      obtain rfl : i = n := by omega
      go_wp2
      go_ret2
      exact ⟨_, rfl, (by rw [hq.out]; exact BE.out.trans ((below_drewN w1 d).mono (by have := BE.out.size; have := hq.out; omega))), .inl ⟨fun e he => by
        obtain ⟨j, hj⟩ := List.getElem?_of_mem he
        exact hno.out j e (by have := (List.getElem?_eq_some_iff.1 hj).1; have := hn.out; omega) hj, rfl⟩⟩
end Go.Proofs.YtngpmilojfbpmaaGreatDoor
