/- DiskCalls answers true at sizes 1 to 32. -/
import Derived.Test.YtpbilngjjlabiaaDskBo
namespace Go.Proofs.Ytpbilngjjlabiaa
open Go Go.RowKit
set_option maxRecDepth 100000

theorem wcells_ccl {c : Cl} {pv : Value} (h : pv.oneCell' = true) : (ccl c pv).toArray.all (·.oneCell') = true := all_oneCell_toArray (fun v hv => by
  simp only [ccl, List.mem_cons, List.mem_append, List.not_mem_nil, or_false] at hv
  rcases hv with rfl | rfl | hv | rfl
  · rfl
  · rfl
  · exact ints_one .u8 _ v hv
  · exact h)
theorem Step.left {F F' G : List Nat} {w w' : World} (h : Step F w F' w') : Step (F ++ G) w (F' ++ G) w' :=
  ⟨h.os, h.tape, h.output, h.size, fun k hk hF => h.block k hk (fun hc => hF (List.mem_append.2 (.inl hc))), fun k hk => by
    rcases List.mem_append.1 hk with h1 | h1
    · rcases h.fresh k h1 with h2 | h2
      · exact .inl (List.mem_append.2 (.inl h2))
      · exact .inr h2
    · exact .inl (List.mem_append.2 (.inr h1))⟩
theorem Step.right {F G G' : List Nat} {w w' : World} (h : Step G w G' w') : Step (F ++ G) w (F ++ G') w' :=
  ⟨h.os, h.tape, h.output, h.size, fun k hk hF => h.block k hk (fun hc => hF (List.mem_append.2 (.inr hc))), fun k hk => by
    rcases List.mem_append.1 hk with h1 | h1
    · exact .inl (List.mem_append.2 (.inl h1))
    · rcases h.fresh k h1 with h2 | h2
      · exact .inl (List.mem_append.2 (.inr h2))
      · exact .inr h2⟩
theorem BytesOff.sub {F G : List Nat} {w : World} {v : Value} {zs : List Int} (h : BytesOff F w v zs) (hG : ∀ k ∈ G, k ∈ F) : BytesOff G w v zs := by
  obtain ⟨a, cap, h1, h2, h3⟩ := h
  refine ⟨a, cap, h1, h2, fun hp => ?_⟩
  obtain ⟨pb, po, h4, h5, h6⟩ := h3 hp
  exact ⟨pb, po, h4, fun hc => h5 (hG _ hc), h6⟩
theorem newb_in {w : World} {g cap : Nat} {l : List Int} {rs : List Value} (h : Blk w g 5 (ints .u8 l ++ rs)) (hc : l.length ≤ cap) : BytesIn w (.slice (some ⟨g, 0, none⟩) l.length cap) l :=
  ⟨_, cap, rfl, hc, fun _ => ⟨g, 0, rfl, h.lt, fun j v hv => h.cell (by rw [Nat.zero_add, List.getElem?_append_left (List.getElem?_eq_some_iff.1 hv).1]; exact hv)⟩⟩
theorem Pr.below {F G : List Nat} {d r sz : Nat} {S : List Int} {P : List Wr} {l : Int} {w0 w w' : World} (h : Pr F G d r sz S P l w0 w) (hb : Below w.heap.size w w') : Pr F G d r sz S P l w0 w' := Pq.below h hb
theorem crash_pr {F G : List Nat} {d r sz : Nat} {C : List Int} {w0 w : World} (h : Pq F G d r sz C C [] (-1) C [] (-1) w0 w) : Pr F G d r sz C [] (-1) w0 w := h
set_option maxHeartbeats 8000000 in
theorem calls_in (sz : Nat) (at' : Int) (v : Value) (cs : List Cl) (w : World) (hv : CallsIn w v cs) (h1 : 1 ≤ sz) (h32 : sz ≤ 32) :
    Calls Try.prog 3 #[.int .i64 (sz : Int), v, .int .i64 at'] w fun e w' => e = .returned (.bool true) ∧ Below w.heap.size w w' := by
  obtain ⟨a, cap, rfl, hml, -⟩ := id hv
  have HV := Lib.hid hv
  obtain ⟨m, hm⟩ : ∃ m, Hid (cs.length = m) := ⟨_, rfl⟩
  rw [hm.out] at HV hml ⊢
  clear hv
  go_enter Try.func3, Try.ntmps3
  go_wp2_with fail
  refine (dalive_walk _).mono ?_
  rintro e w1 ⟨rfl, hb1⟩
  have BE1 := Lib.hid hb1
  clear hb1
  go_wp2_with fail
  refine (great_walk _ cs _ (HV.out.below BE1.out)).mono ?_
  rintro e w2 ⟨gb, rfl, hgb, rfl⟩
  have HG := Lib.hid hgb
  clear hgb
  cases gb with
  | true =>
    go_wp2
    go_ret
    exact ⟨rfl, BE1.out⟩
  | false =>
    have hm60 : m ≤ 60 := by have := (HG.out rfl).1; rw [hm.out] at this; exact this
    have HPA : Hid (∀ c ∈ cs, c.picks.length ≤ 2000) := (HG.out rfl).2
    clear HG
    have s1 : ¬ ((32 : Int) < (sz : Int)) := by omega
    go_wp2_with fail
    refine (new_yes sz h1 (by omega) _).mono ?_
    rintro e w3 ⟨d, F3, rfl, hd3, hs3⟩
    have D3 := Lib.hid hd3
    have S3 : Hid (Step [] w F3 w3) := (Step.of_below BE1.out (Nat.le_refl _)).trans hs3
    clear hd3 hs3
    go_wp2_with fail
    refine (rnew_yes sz h1 (by omega) _).mono ?_
    rintro e w4 ⟨r, G4, rfl, hr4, hs4⟩
    have P4 : Hid (Pr F3 G4 d r sz (zeros (64 * sz)) [] (-1) w w4) := pq_new D3.out S3.out hr4 hs4
    clear hr4 hs4 D3 S3 BE1
    go_wp2
    go_loopw [11] (fun i wr => ∃ (k : Nat) (F G : List Nat) (S : List Int) (P : List Wr) (l : Int), k ≤ m ∧ i = .int .i64 (k : Int) ∧ P.length ≤ k ∧ l ≤ 9223372036854775807 ∧ Pr F G d r sz S P l w wr) (fun i _ => m - (intOf i).toNat)
    case atStart => exact ⟨0, F3, G4, _, [], -1, by omega, rfl, by simp, by decide, P4.out⟩
    case round =>
      obtain ⟨k, F, G, S, P, l, hk, rfl, hpl, hll, hpr⟩ := hrel
      have PK := Lib.hid hpr
      have HPL := Lib.hid hpl
      clear hpr hpl P4
      by_cases hlt : k < m
      · have q1 : (k : Int) < (m : Int) := by omega
        obtain ⟨a', cap', he, -, hq'⟩ := HV.out
        rw [hm.out] at he hq'
        obtain ⟨e1, -, e3⟩ := Value.slice.inj he
        obtain ⟨qb, qo, hae, hqb, hcl⟩ := hq' (by omega)
        obtain ⟨c, hck⟩ : ∃ c, cs[k]? = some c := ⟨_, List.getElem?_eq_getElem (by rw [hm.out]; exact hlt)⟩
        have hcw := hcl k c hck
        obtain ⟨pv, hp0, hp2, hp3⟩ := hcw.picks
        have hc := hcw.below hqb PK.out.st.below
        have hp1 := (PK.out.st.below.cell (p := ⟨qb, qo + 67 * k + 66, none⟩) hqb).trans hp0
        have HPI := Lib.hid hp2
        have HPN := Lib.hid hp3
        have HPL2 : Hid (c.picks.length ≤ 2000) := HPA.out c (List.mem_of_getElem? hck)
        rw [hae] at e1
        subst e1
        clear hcw hp0
        have HC := Lib.hid hc
        have HRG : Hid (wr.rangeAt qb (qo + 67 * k) (ccl c pv)) := ccl_range hc.what hc.n hc.block hc.len hp1
        have HPV : Hid (pv.oneCell' = true) := by obtain ⟨_, _, e, _⟩ := hp2; subst e; rfl
        have IC : Hid ((Try.prog.info? 36).map (·.size) = some (ccl c pv).length) := infoCall hc.len pv
        have BX := Lib.hid (boxed wr 36 zC (ccl c pv) (by rw [ccl_length hc.len, zC_length]))
        have TH : Hid (World.there (wr.alloc (.cells zC.toArray 36)) wr.heap.size 0 (ccl c pv).length) := (Blk.new wr 36 zC).there 0 _ (by rw [ccl_length hc.len, zC_length]; omega)
        have XF : Hid (wr.heap.size ∉ F) := fun h => Nat.lt_irrefl _ (PK.out.dk.lt _ h)
        have XG : Hid (wr.heap.size ∉ G) := fun h => Nat.lt_irrefl _ (PK.out.rk.lt _ h)
        clear he hq' hcl hc hp1 hp2 hp3 e3 hck
        go_upto_region 12 with (fail)
        refine lin_begin (opsOf Try.f3 12) (by kernel_rfl) ?_
        refine lin_now 0 (.slice (some ⟨qb, qo, none⟩) m cap) (some 64) (by kernel_rfl) (by kernel_rfl) (by kernel_rfl) ?_
        refine lin_now 1 (.int .i64 (k : Int)) (some 65) (by kernel_rfl) (by kernel_rfl) (by kernel_rfl) ?_
        refine lin_now 2 (.pointer (some ⟨qb, qo + 67 * k, none⟩)) (some 66) (by kernel_rfl) (by kernel_rfl) (exec_indexAt 22 (.tmp 64) (.tmp 65) (by kernel_rfl) _ _ _ (by kernel_rfl) (by kernel_rfl) (run_at_call qb qo m cap k hlt _)) ?_
        refine lin_now 3 (.agg (ccl c pv).toArray) (some 67) (by kernel_rfl) (by kernel_rfl) (exec_load_mid 36 (.tmp 66) (by kernel_rfl) qb (qo + 67 * k) (by kernel_rfl) (ccl c pv) _ HRG.out Try.underlying36 rfl IC.out) ?_
        refine lin_value 4 (.pointer (some ⟨wr.heap.size, 0, none⟩)) (some 12) (wr.alloc (.cells zC.toArray 36)) (by kernel_rfl) (by kernel_rfl) (exec_alloc 36 (by kernel_rfl) (.agg zC.toArray) zeroCall) ?_
        refine lin_store 5 ((wr.alloc (.cells zC.toArray 36)).setCells wr.heap.size 0 (ccl c pv)) (by kernel_rfl) (by kernel_rfl) (exec_store_mid 36 (.tmp 12) (.tmp 67) (by kernel_rfl) wr.heap.size 0 (ccl c pv) (by kernel_rfl) (by kernel_rfl) TH.out IC.out (wcells_ccl HPV.out)) ?_
        refine lin_done 6 (by kernel_rfl) ?_
        have P5 : Hid (Pr F G d r sz S P l w _) := PK.out.below BX.out.2.1
        have BC := Lib.hid BX.out.1
        clear TH HRG PK BX IC
        generalize (wr.alloc (.cells zC.toArray 36)).setCells wr.heap.size 0 (ccl c pv) = W5 at *
        generalize wr.heap.size = X at *
        generalize hact : Act.put _ none undef = act
        simp only [Act.put, List.setIfInBounds_toArray, List.set_cons_succ, List.set_cons_zero] at hact
        subst hact
        have cw := ccl_what BC.out
        have cn := ccl_n BC.out
        by_cases hw0 : c.what = 0
        · have k0 : (c.what == 0) = true := by simpa using hw0
          clear cn
          obtain ⟨e6, P', l', hpl', hll', hwd, hwr⟩ := write_both d r sz S P l c.n c.block HC.out.len hll (by have := HPL.out; omega)
          have HWD := Lib.hid hwd
          have HWR := Lib.hid hwr
          have HQL : Hid (P'.length ≤ k + 1) := by have := HPL.out; unfold Hid; omega
          have HLL := Lib.hid hll'
          have IBC : Hid ((Try.prog.info? 33).map (·.size) = some (ints .u8 c.block).length) := infoBlk c.block HC.out.len
          clear hwd hwr hpl' hll'
          go_upto_region 15 with (fail)
          refine region_begin (opsOf Try.f3 15) (fun w' => Blk w' X 36 (ccl c pv)) (by kernel_rfl) (by kernel_rfl) 13 (by kernel_rfl) ?_
          intro Q' hQN hN
          have hS : Blk W5.drew X 36 (ccl c pv) := BC.out
          refine reg_now 0 (.pointer (some ⟨d, 0, none⟩)) (some 72) hQN hS (by kernel_rfl) (by kernel_rfl) (fun w => by kernel_rfl) ?_
          refine reg_now 1 (.pointer (some ⟨X, 1, none⟩)) (some 73) hQN hS (by kernel_rfl) (by kernel_rfl) (fun w => by kernel_rfl) ?_
          refine reg_nowIf 2 (.int .i64 c.n) (some 74) hQN hS (by kernel_rfl) (by kernel_rfl) (fun w' hw => exec_load_cell 3 (.tmp 73) (by kernel_rfl) X 1 (by kernel_rfl) _ (ccl_n hw) _ Try.underlying3 rfl) ?_
          refine reg_now 3 (.pointer (some ⟨X, 2, none⟩)) (some 75) hQN hS (by kernel_rfl) (by kernel_rfl) (fun w => by kernel_rfl) ?_
          refine reg_nowIf 4 (.agg (ints .u8 c.block).toArray) (some 76) hQN hS (by kernel_rfl) (by kernel_rfl) (fun w' hw => exec_load_mid 33 (.tmp 75) (by kernel_rfl) X 2 (by kernel_rfl) (ints .u8 c.block) _ (ccl_block hw) Try.underlying33 rfl IBC.out) ?_
          refine reg_now 6 (.pointer (some ⟨r, 0, none⟩)) (some 78) hQN hS (by kernel_rfl) (by kernel_rfl) (fun w => by kernel_rfl) ?_
          refine reg_now 7 (.pointer (some ⟨X, 1, none⟩)) (some 79) hQN hS (by kernel_rfl) (by kernel_rfl) (fun w => by kernel_rfl) ?_
          refine reg_nowIf 8 (.int .i64 c.n) (some 80) hQN hS (by kernel_rfl) (by kernel_rfl) (fun w' hw => exec_load_cell 3 (.tmp 79) (by kernel_rfl) X 1 (by kernel_rfl) _ (ccl_n hw) _ Try.underlying3 rfl) ?_
          refine reg_now 9 (.pointer (some ⟨X, 2, none⟩)) (some 81) hQN hS (by kernel_rfl) (by kernel_rfl) (fun w => by kernel_rfl) ?_
          refine reg_nowIf 10 (.agg (ints .u8 c.block).toArray) (some 82) hQN hS (by kernel_rfl) (by kernel_rfl) (fun w' hw => exec_load_mid 33 (.tmp 81) (by kernel_rfl) X 2 (by kernel_rfl) (ints .u8 c.block) _ (ccl_block hw) Try.underlying33 rfl IBC.out) ?_
          refine reg_call 5 8 #[.pointer (some ⟨d, 0, none⟩), .int .i64 c.n, .agg (ints .u8 c.block).toArray] (some 77) _ (by kernel_rfl) (by kernel_rfl) (by kernel_rfl) (HWD.out F _ (P5.out.dk.below (Below.refl _ _).drew)) ?_
          rintro e W6 ⟨rfl, F6, hd6, hs6⟩
          have hS6 : Blk W6 X 36 (ccl c pv) := hs6.blk hS XF.out
          refine ⟨_, rfl, hS6, ?_⟩
          have P6 := Lib.hid (Pq.stepD (P5.out.below (Below.refl _ _).drew) hd6 hs6)
          refine reg_call 11 9 #[.pointer (some ⟨r, 0, none⟩), .int .i64 c.n, .agg (ints .u8 c.block).toArray] (some 83) _ (by kernel_rfl) (by kernel_rfl) (by kernel_rfl) (HWR.out G _ P6.out.rk) ?_
          rintro e W7 ⟨rfl, G7, hr7, hs7⟩
          have hS7 : Blk W7 X 36 (ccl c pv) := hs7.blk hS6 XG.out
          refine ⟨_, rfl, hS7, ?_⟩
          have PT : Hid (Pr F6 G7 d r sz S P' l' w W7) := P6.out.stepR hr7 hs7
          refine reg_now 12 (.bool (e6 != e6)) (some 84) hQN hS7 (by kernel_rfl) (by kernel_rfl) (fun w => by kernel_rfl) ?_
          rw [show (e6 != e6) = false by simp]
          refine reg_done (by kernel_rfl) (hN _ _ ?_)
          clear hQN hN hS hS6 hS7 hd6 hs6 hr7 hs7 P5 P6 HWD HWR BC XF XG cw
          generalize hact : Act.put _ (some 84) _ = act
          simp only [Act.put, List.setIfInBounds_toArray, List.set_cons_succ, List.set_cons_zero] at hact
          subst hact
          have HSP : Hid (S.length = 64 * sz ∧ okW sz P') := by obtain ⟨_, _, _, _, _, hx⟩ := PT.out.rk; exact ⟨hx.ls, hx.ok⟩
          obtain ⟨bb, ee, hbb, hrd, hrr⟩ := read_both d r sz S P' at' l' (lim l') HSP.out.1 HSP.out.2 (by have := HQL.out; omega)
          have HBB := Lib.hid hbb
          have HRD := Lib.hid hrd
          have HRR := Lib.hid hrr
          have IBB : Hid ((Try.prog.info? 33).map (·.size) = some (ints .u8 bb).length) := infoBlk bb hbb
          clear hbb hrd hrr
          go_upto_region 27 with (fail)
          refine lin_begin (opsOf Try.f3 27) (by kernel_rfl) ?_
          refine lin_now 0 (.pointer (some ⟨d, 0, none⟩)) (some 122) (by kernel_rfl) (by kernel_rfl) (by kernel_rfl) ?_
          refine lin_now 1 (.int .i64 at') (some 123) (by kernel_rfl) (by kernel_rfl) (by kernel_rfl) ?_
          refine lin_call 2 18 #[.pointer (some ⟨d, 0, none⟩), .int .i64 at'] (some 124) _ (by kernel_rfl) (by kernel_rfl) (by kernel_rfl) (HRD.out F6 _ PT.out.dk) ?_
          rintro e W16 ⟨rfl, hbW⟩
          refine ⟨_, rfl, ?_⟩
          refine lin_now 3 (.tuple #[.agg (ints .u8 bb).toArray, .int .i64 ee]) (some 121) (by kernel_rfl) (by kernel_rfl) (by kernel_rfl) ?_
          refine lin_now 4 (.agg (ints .u8 bb).toArray) (some 125) (by kernel_rfl) (by kernel_rfl) (by kernel_rfl) ?_
          refine lin_now 5 (.int .i64 ee) (some 126) (by kernel_rfl) (by kernel_rfl) (by kernel_rfl) ?_
          have BX := Lib.hid (boxed W16 33 (ints .u8 zB) (ints .u8 bb) (by rw [ints_length, ints_length, HBB.out, zB_length]))
          have TH : Hid (World.there (W16.alloc (.cells (ints .u8 zB).toArray 33)) W16.heap.size 0 (ints .u8 bb).length) := (Blk.new W16 33 (ints .u8 zB)).there 0 _ (by rw [ints_length, ints_length, HBB.out, zB_length]; omega)
          refine lin_value 6 (.pointer (some ⟨W16.heap.size, 0, none⟩)) (some 14) (W16.alloc (.cells (ints .u8 zB).toArray 33)) (by kernel_rfl) (by kernel_rfl) (exec_alloc 33 (by kernel_rfl) (.agg (ints .u8 zB).toArray) zeroBlk) ?_
          refine lin_store 7 ((W16.alloc (.cells (ints .u8 zB).toArray 33)).setCells W16.heap.size 0 (ints .u8 bb)) (by kernel_rfl) (by kernel_rfl) (exec_store_mid 33 (.tmp 14) (.tmp 125) (by kernel_rfl) W16.heap.size 0 (ints .u8 bb) (by kernel_rfl) (by kernel_rfl) TH.out IBB.out (ints_oneCell _ _)) ?_
          refine lin_now 8 (.int .i64 ee) (some 15) (by kernel_rfl) (by kernel_rfl) (by kernel_rfl) ?_
          refine lin_done 9 (by kernel_rfl) ?_
          have PX16 : Hid (Pr F6 G7 d r sz S P' l' w _) := (PT.out.below hbW).below BX.out.2.1
          have BYa := Lib.hid BX.out.1
          clear TH BX hbW PT
          generalize (W16.alloc (.cells (ints .u8 zB).toArray 33)).setCells W16.heap.size 0 (ints .u8 bb) = V16 at *
          generalize W16.heap.size = Ya at *
          generalize hact : Act.put _ (some 15) _ = act
          simp only [Act.put, List.setIfInBounds_toArray, List.set_cons_succ, List.set_cons_zero] at hact
          subst hact
          go_upto_region 28 with (fail)
          refine lin_begin (opsOf Try.f3 28) (by kernel_rfl) ?_
          refine lin_now 0 (.pointer (some ⟨r, 0, none⟩)) (some 128) (by kernel_rfl) (by kernel_rfl) (by kernel_rfl) ?_
          refine lin_now 1 (.int .i64 at') (some 129) (by kernel_rfl) (by kernel_rfl) (by kernel_rfl) ?_
          refine lin_call 2 19 #[.pointer (some ⟨r, 0, none⟩), .int .i64 at'] (some 130) _ (by kernel_rfl) (by kernel_rfl) (by kernel_rfl) (HRR.out G7 _ PX16.out.rk) ?_
          rintro e W17 ⟨rfl, hbW⟩
          refine ⟨_, rfl, ?_⟩
          refine lin_now 3 (.tuple #[.agg (ints .u8 bb).toArray, .int .i64 ee]) (some 127) (by kernel_rfl) (by kernel_rfl) (by kernel_rfl) ?_
          refine lin_now 4 (.agg (ints .u8 bb).toArray) (some 131) (by kernel_rfl) (by kernel_rfl) (by kernel_rfl) ?_
          refine lin_now 5 (.int .i64 ee) (some 132) (by kernel_rfl) (by kernel_rfl) (by kernel_rfl) ?_
          have BX := Lib.hid (boxed W17 33 (ints .u8 zB) (ints .u8 bb) (by rw [ints_length, ints_length, HBB.out, zB_length]))
          have TH : Hid (World.there (W17.alloc (.cells (ints .u8 zB).toArray 33)) W17.heap.size 0 (ints .u8 bb).length) := (Blk.new W17 33 (ints .u8 zB)).there 0 _ (by rw [ints_length, ints_length, HBB.out, zB_length]; omega)
          refine lin_value 6 (.pointer (some ⟨W17.heap.size, 0, none⟩)) (some 16) (W17.alloc (.cells (ints .u8 zB).toArray 33)) (by kernel_rfl) (by kernel_rfl) (exec_alloc 33 (by kernel_rfl) (.agg (ints .u8 zB).toArray) zeroBlk) ?_
          refine lin_store 7 ((W17.alloc (.cells (ints .u8 zB).toArray 33)).setCells W17.heap.size 0 (ints .u8 bb)) (by kernel_rfl) (by kernel_rfl) (exec_store_mid 33 (.tmp 16) (.tmp 131) (by kernel_rfl) W17.heap.size 0 (ints .u8 bb) (by kernel_rfl) (by kernel_rfl) TH.out IBB.out (ints_oneCell _ _)) ?_
          refine lin_now 8 (.int .i64 ee) (some 17) (by kernel_rfl) (by kernel_rfl) (by kernel_rfl) ?_
          refine lin_done 9 (by kernel_rfl) ?_
          have PX17 : Hid (Pr F6 G7 d r sz S P' l' w _) := (PX16.out.below hbW).below BX.out.2.1
          have BYb := Lib.hid BX.out.1
          have BYa2 := Lib.hid ((BYa.out.below hbW BYa.out.lt).below BX.out.2.1 (Nat.lt_of_lt_of_le BYa.out.lt hbW.size))
          clear BYa
          clear TH BX hbW PX16
          generalize (W17.alloc (.cells (ints .u8 zB).toArray 33)).setCells W17.heap.size 0 (ints .u8 bb) = V17 at *
          generalize W17.heap.size = Yb at *
          generalize hact : Act.put _ (some 17) _ = act
          simp only [Act.put, List.setIfInBounds_toArray, List.set_cons_succ, List.set_cons_zero] at hact
          subst hact
          obtain ⟨al, hal⟩ : ∃ al, Hid (applyK S P' P'.length = al) := ⟨_, rfl⟩
          have HAL : Hid (al.length = 64 * sz) := by unfold Hid; rw [← hal.out]; exact applyK_length HSP.out.1 HSP.out.2 _ (Nat.le_refl _)
          obtain ⟨pl, hpe⟩ : ∃ pl, Hid (P'.length = pl) := ⟨_, rfl⟩
          obtain ⟨la, lcp, hlc⟩ : ∃ a c, Hid (V17.cell? ⟨r, 1, none⟩ = some (.slice a pl c)) := by
            obtain ⟨lB, lc, rl, pv, -, hx⟩ := PX17.out.rk
            obtain ⟨a, c, e⟩ := hx.pv'
            exact ⟨a, c, by unfold Hid; rw [hx.c1, e, hpe.out]⟩
          have HRL : Hid (r < V17.heap.size) := by obtain ⟨lB, lc, rl, pv, -, hx⟩ := PX17.out.rk; exact hx.hd.lt
          have HPC := Lib.hid (pending_walk d sz F6 _ S P' l' V17.drew (PX17.out.dk.below (Below.refl _ _).drew))
          rw [hpe.out] at HPC
          have HIC := Lib.hid (image_walk d sz F6 _ S P' l' V17.drew (PX17.out.dk.below (Below.refl _ _).drew))
          rw [hal.out] at HIC
          have HRC : Hid (∀ W, Below V17.heap.size V17 W → Calls Try.prog 23 #[.pointer (some ⟨r, 0, none⟩)] W (NewB al W)) := fun W hW => by have h := rimage_walk r sz G7 S P' _ W (PX17.out.rk.below hW) (by have := HQL.out; omega); rw [hal.out] at h; exact h
          have HSC : Hid (∀ v1 v2 W, BytesIn W v1 al → BytesIn W v2 al → Calls Try.prog 15 #[v1, v2] W fun e w' => e = .returned (.bool true) ∧ ∃ n, w' = W.drewN n) := fun v1 v2 W h1 h2 => sameb_true v1 v2 al W h1 h2 (by rw [HAL.out]; omega)
          go_upto_region 29 with (fail)
          refine region_begin (opsOf Try.f3 29) (Below V17.heap.size V17) (by kernel_rfl) (by kernel_rfl) 32 (by kernel_rfl) ?_
          intro Q' hQN hN
          have hS : Below V17.heap.size V17 V17.drew := (Below.refl _ _).drew
          refine reg_nowIf 0 (.agg (ints .u8 bb).toArray) (some 133) hQN hS (by kernel_rfl) (by kernel_rfl) (fun w' hw => exec_load_mid 33 (.tmp 14) (by kernel_rfl) Ya 0 (by kernel_rfl) (ints .u8 bb) _ (BYa2.out.below hw BYa2.out.lt).whole Try.underlying33 rfl IBB.out) ?_
          refine reg_nowIf 1 (.agg (ints .u8 bb).toArray) (some 134) hQN hS (by kernel_rfl) (by kernel_rfl) (fun w' hw => exec_load_mid 33 (.tmp 16) (by kernel_rfl) Yb 0 (by kernel_rfl) (ints .u8 bb) _ (BYb.out.below hw BYb.out.lt).whole Try.underlying33 rfl IBB.out) ?_
          refine reg_now 2 (.bool (!decide (bb = bb))) (some 135) hQN hS (by kernel_rfl) (by kernel_rfl) (fun w' => exec_neq w' (.tmp 133) (.tmp 134) 33 (by kernel_rfl) Try.underlying33 Try.underlying5 sizeByte' guardBlock bb bb HBB.out HBB.out (by kernel_rfl) (by kernel_rfl)) ?_
          rw [show (!decide (bb = bb)) = false by rw [decide_eq_true rfl]; rfl]
          refine reg_now 3 (.bool false) (some 136) hQN hS (by kernel_rfl) (by kernel_rfl) (fun w => by kernel_rfl) ?_
          refine reg_now 4 (.int .i64 ee) (some 137) hQN hS (by kernel_rfl) (by kernel_rfl) (fun w => by kernel_rfl) ?_
          refine reg_now 5 (.int .i64 ee) (some 138) hQN hS (by kernel_rfl) (by kernel_rfl) (fun w => by kernel_rfl) ?_
          refine reg_now 6 (.bool (ee != ee)) (some 139) hQN hS (by kernel_rfl) (by kernel_rfl) (fun w => by kernel_rfl) ?_
          rw [show (ee != ee) = false by simp]
          refine reg_now 7 (.bool false) (some 140) hQN hS (by kernel_rfl) (by kernel_rfl) (fun w => by kernel_rfl) ?_
          refine reg_now 8 (.bool false) (some 141) hQN hS (by kernel_rfl) (by kernel_rfl) (fun w => by kernel_rfl) ?_
          refine reg_now 9 (.pointer (some ⟨d, 0, none⟩)) (some 142) hQN hS (by kernel_rfl) (by kernel_rfl) (fun w => by kernel_rfl) ?_
          refine reg_now 11 (.pointer (some ⟨r, 0, none⟩)) (some 144) hQN hS (by kernel_rfl) (by kernel_rfl) (fun w => by kernel_rfl) ?_
          refine reg_now 12 (.pointer (some ⟨r, 0, none⟩)) (some 145) hQN hS (by kernel_rfl) (by kernel_rfl) (fun w => by kernel_rfl) ?_
          refine reg_now 13 (.pointer (some ⟨r, 1, none⟩)) (some 146) hQN hS (by kernel_rfl) (by kernel_rfl) (fun w => by kernel_rfl) ?_
          refine reg_nowIf 14 (.slice la pl lcp) (some 147) hQN hS (by kernel_rfl) (by kernel_rfl) (fun w' hw => exec_load_cell 45 (.tmp 146) (by kernel_rfl) r 1 (by kernel_rfl) _ ((hw.cell (p := ⟨r, 1, none⟩) HRL.out).trans hlc.out) _ Try.underlying45 rfl) ?_
          refine reg_now 15 (.int .i64 (pl : Int)) (some 148) hQN hS (by kernel_rfl) (by kernel_rfl) (fun w => by kernel_rfl) ?_
          refine reg_call 10 20 #[.pointer (some ⟨d, 0, none⟩)] (some 143) _ (by kernel_rfl) (by kernel_rfl) (by kernel_rfl) (HPC.out) ?_
          rintro e W8 ⟨rfl, rfl⟩
          refine ⟨_, rfl, hS, ?_⟩
          refine reg_now 16 (.bool ((pl : Int) != (pl : Int))) (some 149) hQN hS (by kernel_rfl) (by kernel_rfl) (fun w => by kernel_rfl) ?_
          rw [show ((pl : Int) != (pl : Int)) = false by simp]
          refine reg_now 17 (.bool false) (some 150) hQN hS (by kernel_rfl) (by kernel_rfl) (fun w => by kernel_rfl) ?_
          refine reg_now 18 (.bool false) (some 151) hQN hS (by kernel_rfl) (by kernel_rfl) (fun w => by kernel_rfl) ?_
          refine reg_now 19 (.pointer (some ⟨d, 0, none⟩)) (some 152) hQN hS (by kernel_rfl) (by kernel_rfl) (fun w => by kernel_rfl) ?_
          refine reg_now 21 (.int .i64 (sz : Int)) (some 154) hQN hS (by kernel_rfl) (by kernel_rfl) (fun w => by kernel_rfl) ?_
          refine reg_call 20 21 #[.pointer (some ⟨d, 0, none⟩)] (some 153) _ (by kernel_rfl) (by kernel_rfl) (by kernel_rfl) (size_walk d sz F6 _ S P' l' _ (PX17.out.dk.below (Below.refl _ _).drew)) ?_
          rintro e W8 ⟨rfl, rfl⟩
          refine ⟨_, rfl, hS, ?_⟩
          refine reg_now 22 (.bool ((sz : Int) != (sz : Int))) (some 155) hQN hS (by kernel_rfl) (by kernel_rfl) (fun w => by kernel_rfl) ?_
          rw [show ((sz : Int) != (sz : Int)) = false by simp]
          refine reg_now 23 (.bool false) (some 156) hQN hS (by kernel_rfl) (by kernel_rfl) (fun w => by kernel_rfl) ?_
          refine reg_now 24 (.bool false) (some 157) hQN hS (by kernel_rfl) (by kernel_rfl) (fun w => by kernel_rfl) ?_
          refine reg_now 25 (.pointer (some ⟨d, 0, none⟩)) (some 158) hQN hS (by kernel_rfl) (by kernel_rfl) (fun w => by kernel_rfl) ?_
          refine reg_now 27 (.pointer (some ⟨r, 0, none⟩)) (some 160) hQN hS (by kernel_rfl) (by kernel_rfl) (fun w => by kernel_rfl) ?_
          refine reg_call 26 22 #[.pointer (some ⟨d, 0, none⟩)] (some 159) _ (by kernel_rfl) (by kernel_rfl) (by kernel_rfl) (HIC.out) ?_
          rintro e W8 ⟨iv, rfl, hiv, hb8⟩
          have hS8 : Below V17.heap.size V17 W8 := hS.trans (hb8.mono (Nat.le_refl _))
          refine ⟨_, rfl, hS8, ?_⟩
          refine reg_call 28 23 #[.pointer (some ⟨r, 0, none⟩)] (some 161) _ (by kernel_rfl) (by kernel_rfl) (by kernel_rfl) (HRC.out W8 hS8) ?_
          rintro e W9 ⟨g, gc, gr, rfl, hg9, hbl9, hcap9, hb9⟩
          have hS9 : Below V17.heap.size V17 W9 := hS8.trans (hb9.mono hS8.size)
          refine ⟨_, rfl, hS9, ?_⟩
          refine reg_call 29 15 #[iv, .slice (some ⟨g, 0, none⟩) al.length gc] (some 162) _ (by kernel_rfl) (by kernel_rfl) (by kernel_rfl) (HSC.out _ _ W9 ((owns_bytes hiv).below hb9 (Nat.le_refl _)) (newb_in hbl9 hcap9)) ?_
          rintro e W10 ⟨rfl, n10, rfl⟩
          have hS10 : Below V17.heap.size V17 (W9.drewN n10) := hS9.trans ((below_drewN W9 n10).mono hS9.size)
          refine ⟨_, rfl, hS10, ?_⟩
          refine reg_now 30 (.bool false) (some 163) hQN hS10 (by kernel_rfl) (by kernel_rfl) (fun w => by kernel_rfl) ?_
          refine reg_now 31 (.bool false) (some 164) hQN hS10 (by kernel_rfl) (by kernel_rfl) (fun w => by kernel_rfl) ?_
          refine reg_done (by kernel_rfl) (hN _ _ ?_)
          have PZ : Hid (Pr F6 G7 d r sz S P' l' w _) := PX17.out.below hS10
          clear hQN hN hS hS8 hS9 hS10 hb8 hb9 hbl9 hiv HSC HRC HIC HPC PX17 hlc HRL BYa2 BYb
          generalize W9.drewN n10 = Z at *
          generalize hact : Act.put _ (some 164) _ = act
          simp only [Act.put, List.setIfInBounds_toArray, List.set_cons_succ, List.set_cons_zero] at hact
          subst hact
          go_wp2
          exact ⟨⟨k + 1, F6, G7, S, P', l', by omega, by go_num, HQL.out, HLL.out, PZ.out⟩, by simp [intOf]; omega⟩
        by_cases hw1 : c.what = 1
        · have k0 : (c.what == 0) = false := by simpa using hw0
          have k1 : (c.what == 1) = true := by simpa using hw1
          clear cn
          go_wp2_with fail
          refine (flush_walk d sz F _ S P l _ P5.out.dk (by have := HPL.out; omega)).mono ?_
          rintro e W6 ⟨rfl, F6, hd6, hs6⟩
          have P6 := Lib.hid (Pq.stepD P5.out hd6 hs6)
          clear hd6 hs6 P5
          go_wp2_with fail
          refine (rflush_walk r sz G S P _ _ P6.out.rk (by have := HPL.out; omega)).mono ?_
          rintro e W7 ⟨rfl, G7, hr7, hs7⟩
          obtain ⟨S7, hS7⟩ : ∃ S7, Hid (applyK S P P.length = S7) := ⟨_, rfl⟩
          rw [hS7.out] at hr7 P6
          have PT : Hid (Pr F6 G7 d r sz S7 [] l w W7) := P6.out.stepR hr7 hs7
          have HQL : Hid (([] : List Wr).length ≤ k + 1) := Nat.zero_le _
          have HLL := Lib.hid hll
          clear hr7 hs7 P6 BC XF XG cw
          have HSP : Hid (S7.length = 64 * sz ∧ okW sz []) := by obtain ⟨_, _, _, _, _, hx⟩ := PT.out.rk; exact ⟨hx.ls, hx.ok⟩
          obtain ⟨bb, ee, hbb, hrd, hrr⟩ := read_both d r sz S7 [] at' l (lim l) HSP.out.1 HSP.out.2 (by have := HQL.out; omega)
          have HBB := Lib.hid hbb
          have HRD := Lib.hid hrd
          have HRR := Lib.hid hrr
          have IBB : Hid ((Try.prog.info? 33).map (·.size) = some (ints .u8 bb).length) := infoBlk bb hbb
          clear hbb hrd hrr
          go_upto_region 27 with (fail)
          refine lin_begin (opsOf Try.f3 27) (by kernel_rfl) ?_
          refine lin_now 0 (.pointer (some ⟨d, 0, none⟩)) (some 122) (by kernel_rfl) (by kernel_rfl) (by kernel_rfl) ?_
          refine lin_now 1 (.int .i64 at') (some 123) (by kernel_rfl) (by kernel_rfl) (by kernel_rfl) ?_
          refine lin_call 2 18 #[.pointer (some ⟨d, 0, none⟩), .int .i64 at'] (some 124) _ (by kernel_rfl) (by kernel_rfl) (by kernel_rfl) (HRD.out F6 _ PT.out.dk) ?_
          rintro e W16 ⟨rfl, hbW⟩
          refine ⟨_, rfl, ?_⟩
          refine lin_now 3 (.tuple #[.agg (ints .u8 bb).toArray, .int .i64 ee]) (some 121) (by kernel_rfl) (by kernel_rfl) (by kernel_rfl) ?_
          refine lin_now 4 (.agg (ints .u8 bb).toArray) (some 125) (by kernel_rfl) (by kernel_rfl) (by kernel_rfl) ?_
          refine lin_now 5 (.int .i64 ee) (some 126) (by kernel_rfl) (by kernel_rfl) (by kernel_rfl) ?_
          have BX := Lib.hid (boxed W16 33 (ints .u8 zB) (ints .u8 bb) (by rw [ints_length, ints_length, HBB.out, zB_length]))
          have TH : Hid (World.there (W16.alloc (.cells (ints .u8 zB).toArray 33)) W16.heap.size 0 (ints .u8 bb).length) := (Blk.new W16 33 (ints .u8 zB)).there 0 _ (by rw [ints_length, ints_length, HBB.out, zB_length]; omega)
          refine lin_value 6 (.pointer (some ⟨W16.heap.size, 0, none⟩)) (some 14) (W16.alloc (.cells (ints .u8 zB).toArray 33)) (by kernel_rfl) (by kernel_rfl) (exec_alloc 33 (by kernel_rfl) (.agg (ints .u8 zB).toArray) zeroBlk) ?_
          refine lin_store 7 ((W16.alloc (.cells (ints .u8 zB).toArray 33)).setCells W16.heap.size 0 (ints .u8 bb)) (by kernel_rfl) (by kernel_rfl) (exec_store_mid 33 (.tmp 14) (.tmp 125) (by kernel_rfl) W16.heap.size 0 (ints .u8 bb) (by kernel_rfl) (by kernel_rfl) TH.out IBB.out (ints_oneCell _ _)) ?_
          refine lin_now 8 (.int .i64 ee) (some 15) (by kernel_rfl) (by kernel_rfl) (by kernel_rfl) ?_
          refine lin_done 9 (by kernel_rfl) ?_
          have PX16 : Hid (Pr F6 G7 d r sz S7 [] l w _) := (PT.out.below hbW).below BX.out.2.1
          have BYa := Lib.hid BX.out.1
          clear TH BX hbW PT
          generalize (W16.alloc (.cells (ints .u8 zB).toArray 33)).setCells W16.heap.size 0 (ints .u8 bb) = V16 at *
          generalize W16.heap.size = Ya at *
          generalize hact : Act.put _ (some 15) _ = act
          simp only [Act.put, List.setIfInBounds_toArray, List.set_cons_succ, List.set_cons_zero] at hact
          subst hact
          go_upto_region 28 with (fail)
          refine lin_begin (opsOf Try.f3 28) (by kernel_rfl) ?_
          refine lin_now 0 (.pointer (some ⟨r, 0, none⟩)) (some 128) (by kernel_rfl) (by kernel_rfl) (by kernel_rfl) ?_
          refine lin_now 1 (.int .i64 at') (some 129) (by kernel_rfl) (by kernel_rfl) (by kernel_rfl) ?_
          refine lin_call 2 19 #[.pointer (some ⟨r, 0, none⟩), .int .i64 at'] (some 130) _ (by kernel_rfl) (by kernel_rfl) (by kernel_rfl) (HRR.out G7 _ PX16.out.rk) ?_
          rintro e W17 ⟨rfl, hbW⟩
          refine ⟨_, rfl, ?_⟩
          refine lin_now 3 (.tuple #[.agg (ints .u8 bb).toArray, .int .i64 ee]) (some 127) (by kernel_rfl) (by kernel_rfl) (by kernel_rfl) ?_
          refine lin_now 4 (.agg (ints .u8 bb).toArray) (some 131) (by kernel_rfl) (by kernel_rfl) (by kernel_rfl) ?_
          refine lin_now 5 (.int .i64 ee) (some 132) (by kernel_rfl) (by kernel_rfl) (by kernel_rfl) ?_
          have BX := Lib.hid (boxed W17 33 (ints .u8 zB) (ints .u8 bb) (by rw [ints_length, ints_length, HBB.out, zB_length]))
          have TH : Hid (World.there (W17.alloc (.cells (ints .u8 zB).toArray 33)) W17.heap.size 0 (ints .u8 bb).length) := (Blk.new W17 33 (ints .u8 zB)).there 0 _ (by rw [ints_length, ints_length, HBB.out, zB_length]; omega)
          refine lin_value 6 (.pointer (some ⟨W17.heap.size, 0, none⟩)) (some 16) (W17.alloc (.cells (ints .u8 zB).toArray 33)) (by kernel_rfl) (by kernel_rfl) (exec_alloc 33 (by kernel_rfl) (.agg (ints .u8 zB).toArray) zeroBlk) ?_
          refine lin_store 7 ((W17.alloc (.cells (ints .u8 zB).toArray 33)).setCells W17.heap.size 0 (ints .u8 bb)) (by kernel_rfl) (by kernel_rfl) (exec_store_mid 33 (.tmp 16) (.tmp 131) (by kernel_rfl) W17.heap.size 0 (ints .u8 bb) (by kernel_rfl) (by kernel_rfl) TH.out IBB.out (ints_oneCell _ _)) ?_
          refine lin_now 8 (.int .i64 ee) (some 17) (by kernel_rfl) (by kernel_rfl) (by kernel_rfl) ?_
          refine lin_done 9 (by kernel_rfl) ?_
          have PX17 : Hid (Pr F6 G7 d r sz S7 [] l w _) := (PX16.out.below hbW).below BX.out.2.1
          have BYb := Lib.hid BX.out.1
          have BYa2 := Lib.hid ((BYa.out.below hbW BYa.out.lt).below BX.out.2.1 (Nat.lt_of_lt_of_le BYa.out.lt hbW.size))
          clear BYa
          clear TH BX hbW PX16
          generalize (W17.alloc (.cells (ints .u8 zB).toArray 33)).setCells W17.heap.size 0 (ints .u8 bb) = V17 at *
          generalize W17.heap.size = Yb at *
          generalize hact : Act.put _ (some 17) _ = act
          simp only [Act.put, List.setIfInBounds_toArray, List.set_cons_succ, List.set_cons_zero] at hact
          subst hact
          obtain ⟨al, hal⟩ : ∃ al, Hid (applyK S7 [] [].length = al) := ⟨_, rfl⟩
          have HAL : Hid (al.length = 64 * sz) := by unfold Hid; rw [← hal.out]; exact applyK_length HSP.out.1 HSP.out.2 _ (Nat.le_refl _)
          obtain ⟨pl, hpe⟩ : ∃ pl, Hid ([].length = pl) := ⟨_, rfl⟩
          obtain ⟨la, lcp, hlc⟩ : ∃ a c, Hid (V17.cell? ⟨r, 1, none⟩ = some (.slice a pl c)) := by
            obtain ⟨lB, lc, rl, pv, -, hx⟩ := PX17.out.rk
            obtain ⟨a, c, e⟩ := hx.pv'
            exact ⟨a, c, by unfold Hid; rw [hx.c1, e, hpe.out]⟩
          have HRL : Hid (r < V17.heap.size) := by obtain ⟨lB, lc, rl, pv, -, hx⟩ := PX17.out.rk; exact hx.hd.lt
          have HPC := Lib.hid (pending_walk d sz F6 _ S7 [] l V17.drew (PX17.out.dk.below (Below.refl _ _).drew))
          rw [hpe.out] at HPC
          have HIC := Lib.hid (image_walk d sz F6 _ S7 [] l V17.drew (PX17.out.dk.below (Below.refl _ _).drew))
          rw [hal.out] at HIC
          have HRC : Hid (∀ W, Below V17.heap.size V17 W → Calls Try.prog 23 #[.pointer (some ⟨r, 0, none⟩)] W (NewB al W)) := fun W hW => by have h := rimage_walk r sz G7 S7 [] _ W (PX17.out.rk.below hW) (by have := HQL.out; omega); rw [hal.out] at h; exact h
          have HSC : Hid (∀ v1 v2 W, BytesIn W v1 al → BytesIn W v2 al → Calls Try.prog 15 #[v1, v2] W fun e w' => e = .returned (.bool true) ∧ ∃ n, w' = W.drewN n) := fun v1 v2 W h1 h2 => sameb_true v1 v2 al W h1 h2 (by rw [HAL.out]; omega)
          go_upto_region 29 with (fail)
          refine region_begin (opsOf Try.f3 29) (Below V17.heap.size V17) (by kernel_rfl) (by kernel_rfl) 32 (by kernel_rfl) ?_
          intro Q' hQN hN
          have hS : Below V17.heap.size V17 V17.drew := (Below.refl _ _).drew
          refine reg_nowIf 0 (.agg (ints .u8 bb).toArray) (some 133) hQN hS (by kernel_rfl) (by kernel_rfl) (fun w' hw => exec_load_mid 33 (.tmp 14) (by kernel_rfl) Ya 0 (by kernel_rfl) (ints .u8 bb) _ (BYa2.out.below hw BYa2.out.lt).whole Try.underlying33 rfl IBB.out) ?_
          refine reg_nowIf 1 (.agg (ints .u8 bb).toArray) (some 134) hQN hS (by kernel_rfl) (by kernel_rfl) (fun w' hw => exec_load_mid 33 (.tmp 16) (by kernel_rfl) Yb 0 (by kernel_rfl) (ints .u8 bb) _ (BYb.out.below hw BYb.out.lt).whole Try.underlying33 rfl IBB.out) ?_
          refine reg_now 2 (.bool (!decide (bb = bb))) (some 135) hQN hS (by kernel_rfl) (by kernel_rfl) (fun w' => exec_neq w' (.tmp 133) (.tmp 134) 33 (by kernel_rfl) Try.underlying33 Try.underlying5 sizeByte' guardBlock bb bb HBB.out HBB.out (by kernel_rfl) (by kernel_rfl)) ?_
          rw [show (!decide (bb = bb)) = false by rw [decide_eq_true rfl]; rfl]
          refine reg_now 3 (.bool false) (some 136) hQN hS (by kernel_rfl) (by kernel_rfl) (fun w => by kernel_rfl) ?_
          refine reg_now 4 (.int .i64 ee) (some 137) hQN hS (by kernel_rfl) (by kernel_rfl) (fun w => by kernel_rfl) ?_
          refine reg_now 5 (.int .i64 ee) (some 138) hQN hS (by kernel_rfl) (by kernel_rfl) (fun w => by kernel_rfl) ?_
          refine reg_now 6 (.bool (ee != ee)) (some 139) hQN hS (by kernel_rfl) (by kernel_rfl) (fun w => by kernel_rfl) ?_
          rw [show (ee != ee) = false by simp]
          refine reg_now 7 (.bool false) (some 140) hQN hS (by kernel_rfl) (by kernel_rfl) (fun w => by kernel_rfl) ?_
          refine reg_now 8 (.bool false) (some 141) hQN hS (by kernel_rfl) (by kernel_rfl) (fun w => by kernel_rfl) ?_
          refine reg_now 9 (.pointer (some ⟨d, 0, none⟩)) (some 142) hQN hS (by kernel_rfl) (by kernel_rfl) (fun w => by kernel_rfl) ?_
          refine reg_now 11 (.pointer (some ⟨r, 0, none⟩)) (some 144) hQN hS (by kernel_rfl) (by kernel_rfl) (fun w => by kernel_rfl) ?_
          refine reg_now 12 (.pointer (some ⟨r, 0, none⟩)) (some 145) hQN hS (by kernel_rfl) (by kernel_rfl) (fun w => by kernel_rfl) ?_
          refine reg_now 13 (.pointer (some ⟨r, 1, none⟩)) (some 146) hQN hS (by kernel_rfl) (by kernel_rfl) (fun w => by kernel_rfl) ?_
          refine reg_nowIf 14 (.slice la pl lcp) (some 147) hQN hS (by kernel_rfl) (by kernel_rfl) (fun w' hw => exec_load_cell 45 (.tmp 146) (by kernel_rfl) r 1 (by kernel_rfl) _ ((hw.cell (p := ⟨r, 1, none⟩) HRL.out).trans hlc.out) _ Try.underlying45 rfl) ?_
          refine reg_now 15 (.int .i64 (pl : Int)) (some 148) hQN hS (by kernel_rfl) (by kernel_rfl) (fun w => by kernel_rfl) ?_
          refine reg_call 10 20 #[.pointer (some ⟨d, 0, none⟩)] (some 143) _ (by kernel_rfl) (by kernel_rfl) (by kernel_rfl) (HPC.out) ?_
          rintro e W8 ⟨rfl, rfl⟩
          refine ⟨_, rfl, hS, ?_⟩
          refine reg_now 16 (.bool ((pl : Int) != (pl : Int))) (some 149) hQN hS (by kernel_rfl) (by kernel_rfl) (fun w => by kernel_rfl) ?_
          rw [show ((pl : Int) != (pl : Int)) = false by simp]
          refine reg_now 17 (.bool false) (some 150) hQN hS (by kernel_rfl) (by kernel_rfl) (fun w => by kernel_rfl) ?_
          refine reg_now 18 (.bool false) (some 151) hQN hS (by kernel_rfl) (by kernel_rfl) (fun w => by kernel_rfl) ?_
          refine reg_now 19 (.pointer (some ⟨d, 0, none⟩)) (some 152) hQN hS (by kernel_rfl) (by kernel_rfl) (fun w => by kernel_rfl) ?_
          refine reg_now 21 (.int .i64 (sz : Int)) (some 154) hQN hS (by kernel_rfl) (by kernel_rfl) (fun w => by kernel_rfl) ?_
          refine reg_call 20 21 #[.pointer (some ⟨d, 0, none⟩)] (some 153) _ (by kernel_rfl) (by kernel_rfl) (by kernel_rfl) (size_walk d sz F6 _ S7 [] l _ (PX17.out.dk.below (Below.refl _ _).drew)) ?_
          rintro e W8 ⟨rfl, rfl⟩
          refine ⟨_, rfl, hS, ?_⟩
          refine reg_now 22 (.bool ((sz : Int) != (sz : Int))) (some 155) hQN hS (by kernel_rfl) (by kernel_rfl) (fun w => by kernel_rfl) ?_
          rw [show ((sz : Int) != (sz : Int)) = false by simp]
          refine reg_now 23 (.bool false) (some 156) hQN hS (by kernel_rfl) (by kernel_rfl) (fun w => by kernel_rfl) ?_
          refine reg_now 24 (.bool false) (some 157) hQN hS (by kernel_rfl) (by kernel_rfl) (fun w => by kernel_rfl) ?_
          refine reg_now 25 (.pointer (some ⟨d, 0, none⟩)) (some 158) hQN hS (by kernel_rfl) (by kernel_rfl) (fun w => by kernel_rfl) ?_
          refine reg_now 27 (.pointer (some ⟨r, 0, none⟩)) (some 160) hQN hS (by kernel_rfl) (by kernel_rfl) (fun w => by kernel_rfl) ?_
          refine reg_call 26 22 #[.pointer (some ⟨d, 0, none⟩)] (some 159) _ (by kernel_rfl) (by kernel_rfl) (by kernel_rfl) (HIC.out) ?_
          rintro e W8 ⟨iv, rfl, hiv, hb8⟩
          have hS8 : Below V17.heap.size V17 W8 := hS.trans (hb8.mono (Nat.le_refl _))
          refine ⟨_, rfl, hS8, ?_⟩
          refine reg_call 28 23 #[.pointer (some ⟨r, 0, none⟩)] (some 161) _ (by kernel_rfl) (by kernel_rfl) (by kernel_rfl) (HRC.out W8 hS8) ?_
          rintro e W9 ⟨g, gc, gr, rfl, hg9, hbl9, hcap9, hb9⟩
          have hS9 : Below V17.heap.size V17 W9 := hS8.trans (hb9.mono hS8.size)
          refine ⟨_, rfl, hS9, ?_⟩
          refine reg_call 29 15 #[iv, .slice (some ⟨g, 0, none⟩) al.length gc] (some 162) _ (by kernel_rfl) (by kernel_rfl) (by kernel_rfl) (HSC.out _ _ W9 ((owns_bytes hiv).below hb9 (Nat.le_refl _)) (newb_in hbl9 hcap9)) ?_
          rintro e W10 ⟨rfl, n10, rfl⟩
          have hS10 : Below V17.heap.size V17 (W9.drewN n10) := hS9.trans ((below_drewN W9 n10).mono hS9.size)
          refine ⟨_, rfl, hS10, ?_⟩
          refine reg_now 30 (.bool false) (some 163) hQN hS10 (by kernel_rfl) (by kernel_rfl) (fun w => by kernel_rfl) ?_
          refine reg_now 31 (.bool false) (some 164) hQN hS10 (by kernel_rfl) (by kernel_rfl) (fun w => by kernel_rfl) ?_
          refine reg_done (by kernel_rfl) (hN _ _ ?_)
          have PZ : Hid (Pr F6 G7 d r sz S7 [] l w _) := PX17.out.below hS10
          clear hQN hN hS hS8 hS9 hS10 hb8 hb9 hbl9 hiv HSC HRC HIC HPC PX17 hlc HRL BYa2 BYb
          generalize W9.drewN n10 = Z at *
          generalize hact : Act.put _ (some 164) _ = act
          simp only [Act.put, List.setIfInBounds_toArray, List.set_cons_succ, List.set_cons_zero] at hact
          subst hact
          go_wp2
          exact ⟨⟨k + 1, F6, G7, S7, [], l, by omega, by go_num, HQL.out, HLL.out, PZ.out⟩, by simp [intOf]; omega⟩
        by_cases hw2 : c.what = 2
        · have k0 : (c.what == 0) = false := by simpa using hw0
          have k1 : (c.what == 1) = false := by simpa using hw1
          have k2 : (c.what == 2) = true := by simpa using hw2
          clear cn
          have cp := ccl_picks BC.out HC.out.len
          have HB5 : Hid (BytesIn W5 pv c.picks) := HPI.out.below P5.out.st.below (Nat.le_refl _)
          go_wp2_with fail
          refine (copyb_walk pv c.picks _ HB5.out HPN.out (by have := HPL2.out; omega)).mono ?_
          rintro e W6 ⟨ov, rfl, hov, hb6⟩
          have P6 := Lib.hid (P5.out.below hb6)
          have B6 := Lib.hid (BC.out.below hb6 BC.out.lt)
          have O6 : Hid (BytesOff (F ++ G) W6.drew ov c.picks) := owns_off (w' := W6) hov (fun k hk => by
            rcases List.mem_append.1 hk with h1 | h1
            · exact P5.out.dk.lt k h1
            · exact P5.out.rk.lt k h1)
          have HPB := Lib.hid HC.out.pbytes
          clear hov hb6 P5 BC HB5 cp cw
          go_upto_region 22 with (fail)
          refine region_begin (opsOf Try.f3 22) (fun w' => Blk w' X 36 (ccl c pv)) (by kernel_rfl) (by kernel_rfl) 15 (by kernel_rfl) ?_
          intro Q' hQN hN
          have hS : Blk W6.drew X 36 (ccl c pv) := B6.out
          refine reg_now 0 (.pointer (some ⟨d, 0, none⟩)) (some 96) hQN hS (by kernel_rfl) (by kernel_rfl) (fun w => by kernel_rfl) ?_
          refine reg_now 1 (ov) (some 97) hQN hS (by kernel_rfl) (by kernel_rfl) (fun w => by kernel_rfl) ?_
          refine reg_now 3 (.pointer (some ⟨r, 0, none⟩)) (some 99) hQN hS (by kernel_rfl) (by kernel_rfl) (fun w => by kernel_rfl) ?_
          refine reg_now 4 (.pointer (some ⟨X, 66, none⟩)) (some 100) hQN hS (by kernel_rfl) (by kernel_rfl) (fun w => by kernel_rfl) ?_
          refine reg_nowIf 5 (pv) (some 101) hQN hS (by kernel_rfl) (by kernel_rfl) (fun w' hw => exec_load_cell 34 (.tmp 100) (by kernel_rfl) X 66 (by kernel_rfl) _ (ccl_picks hw HC.out.len) _ Try.underlying34 rfl) ?_
          refine reg_call 2 13 #[.pointer (some ⟨d, 0, none⟩), ov] (some 98) _ (by kernel_rfl) (by kernel_rfl) (by kernel_rfl) (crash_walk d sz F _ S P l ov c.picks _ (P6.out.dk.below (Below.refl _ _).drew) (by have := HPL.out; omega) (O6.out.sub (fun k hk => List.mem_append.2 (.inl hk))) HPB.out (by have := HPL2.out; omega)) ?_
          rintro e W7 ⟨rfl, F7, hd7, hs7⟩
          have hS7 : Blk W7 X 36 (ccl c pv) := hs7.blk hS XF.out
          refine ⟨_, rfl, hS7, ?_⟩
          have P7 := Lib.hid (Pq.stepD (P6.out.below (Below.refl _ _).drew) hd7 hs7)
          have O7 := Lib.hid (O6.out.step hs7.left)
          refine reg_call 6 14 #[.pointer (some ⟨r, 0, none⟩), pv] (some 102) _ (by kernel_rfl) (by kernel_rfl) (by kernel_rfl) (rcrash_walk r sz G S P _ pv c.picks _ P7.out.rk (by have := HPL.out; omega) (P7.out.offR HPI.out) HPB.out (by have := HPL2.out; omega)) ?_
          rintro e W8 ⟨rfl, G8, hr8, hs8⟩
          have hS8 : Blk W8 X 36 (ccl c pv) := hs8.blk hS7 XG.out
          refine ⟨_, rfl, hS8, ?_⟩
          have P8 := Lib.hid (P7.out.stepR hr8 hs8)
          have O8 := Lib.hid (O7.out.step hs8.right)
          refine reg_now 7 (.bool ((keptK c.picks P.length : Int) != (keptK c.picks P.length : Int))) (some 103) hQN hS8 (by kernel_rfl) (by kernel_rfl) (fun w => by kernel_rfl) ?_
          rw [show ((keptK c.picks P.length : Int) != (keptK c.picks P.length : Int)) = false by simp]
          refine reg_now 8 (.bool false) (some 104) hQN hS8 (by kernel_rfl) (by kernel_rfl) (fun w => by kernel_rfl) ?_
          refine reg_now 9 (ov) (some 105) hQN hS8 (by kernel_rfl) (by kernel_rfl) (fun w => by kernel_rfl) ?_
          refine reg_now 10 (.pointer (some ⟨X, 66, none⟩)) (some 106) hQN hS8 (by kernel_rfl) (by kernel_rfl) (fun w => by kernel_rfl) ?_
          refine reg_nowIf 11 (pv) (some 107) hQN hS8 (by kernel_rfl) (by kernel_rfl) (fun w' hw => exec_load_cell 34 (.tmp 106) (by kernel_rfl) X 66 (by kernel_rfl) _ (ccl_picks hw HC.out.len) _ Try.underlying34 rfl) ?_
          refine reg_call 12 15 #[ov, pv] (some 108) _ (by kernel_rfl) (by kernel_rfl) (by kernel_rfl) (sameb_true ov pv c.picks W8 O8.out.in (P8.out.offD HPI.out).in (by have := HPL2.out; omega)) ?_
          rintro e W9 ⟨rfl, n9, rfl⟩
          have hS9 : Blk (W8.drewN n9) X 36 (ccl c pv) := hS8
          refine ⟨_, rfl, hS9, ?_⟩
          refine reg_now 13 (.bool false) (some 109) hQN hS9 (by kernel_rfl) (by kernel_rfl) (fun w => by kernel_rfl) ?_
          refine reg_now 14 (.bool false) (some 110) hQN hS9 (by kernel_rfl) (by kernel_rfl) (fun w => by kernel_rfl) ?_
          refine reg_done (by kernel_rfl) (hN _ _ ?_)
          have HSP0 : Hid (S.length = 64 * sz ∧ okW sz P) := by obtain ⟨_, _, _, _, _, hx⟩ := P6.out.rk; exact ⟨hx.ls, hx.ok⟩
          rw [seen_crash HSP0.out.1 HSP0.out.2 HPB.out] at P8
          obtain ⟨C8, hC8⟩ : ∃ C8, Hid (crashK S P c.picks P.length = C8) := ⟨_, rfl⟩
          rw [hC8.out] at P8
          have PT : Hid (Pr F7 G8 d r sz C8 [] (-1) w (W8.drewN n9)) := (crash_pr P8.out).below (below_drewN W8 n9)
          have HQL : Hid (([] : List Wr).length ≤ k + 1) := Nat.zero_le _
          have HLL : Hid ((-1 : Int) ≤ 9223372036854775807) := (by decide : (-1 : Int) ≤ 9223372036854775807)
          clear hQN hN hS hS7 hS8 hS9 hd7 hs7 hr8 hs8 P6 P7 P8 O6 O7 O8 B6 XF XG HSP0
          generalize W8.drewN n9 = Z8 at *
          generalize hact : Act.put _ (some 110) _ = act
          simp only [Act.put, List.setIfInBounds_toArray, List.set_cons_succ, List.set_cons_zero] at hact
          subst hact
          have HSP : Hid (C8.length = 64 * sz ∧ okW sz []) := by obtain ⟨_, _, _, _, _, hx⟩ := PT.out.rk; exact ⟨hx.ls, hx.ok⟩
          obtain ⟨bb, ee, hbb, hrd, hrr⟩ := read_both d r sz C8 [] at' (-1) (lim (-1)) HSP.out.1 HSP.out.2 (by have := HQL.out; omega)
          have HBB := Lib.hid hbb
          have HRD := Lib.hid hrd
          have HRR := Lib.hid hrr
          have IBB : Hid ((Try.prog.info? 33).map (·.size) = some (ints .u8 bb).length) := infoBlk bb hbb
          clear hbb hrd hrr
          go_upto_region 27 with (fail)
          refine lin_begin (opsOf Try.f3 27) (by kernel_rfl) ?_
          refine lin_now 0 (.pointer (some ⟨d, 0, none⟩)) (some 122) (by kernel_rfl) (by kernel_rfl) (by kernel_rfl) ?_
          refine lin_now 1 (.int .i64 at') (some 123) (by kernel_rfl) (by kernel_rfl) (by kernel_rfl) ?_
          refine lin_call 2 18 #[.pointer (some ⟨d, 0, none⟩), .int .i64 at'] (some 124) _ (by kernel_rfl) (by kernel_rfl) (by kernel_rfl) (HRD.out F7 _ PT.out.dk) ?_
          rintro e W16 ⟨rfl, hbW⟩
          refine ⟨_, rfl, ?_⟩
          refine lin_now 3 (.tuple #[.agg (ints .u8 bb).toArray, .int .i64 ee]) (some 121) (by kernel_rfl) (by kernel_rfl) (by kernel_rfl) ?_
          refine lin_now 4 (.agg (ints .u8 bb).toArray) (some 125) (by kernel_rfl) (by kernel_rfl) (by kernel_rfl) ?_
          refine lin_now 5 (.int .i64 ee) (some 126) (by kernel_rfl) (by kernel_rfl) (by kernel_rfl) ?_
          have BX := Lib.hid (boxed W16 33 (ints .u8 zB) (ints .u8 bb) (by rw [ints_length, ints_length, HBB.out, zB_length]))
          have TH : Hid (World.there (W16.alloc (.cells (ints .u8 zB).toArray 33)) W16.heap.size 0 (ints .u8 bb).length) := (Blk.new W16 33 (ints .u8 zB)).there 0 _ (by rw [ints_length, ints_length, HBB.out, zB_length]; omega)
          refine lin_value 6 (.pointer (some ⟨W16.heap.size, 0, none⟩)) (some 14) (W16.alloc (.cells (ints .u8 zB).toArray 33)) (by kernel_rfl) (by kernel_rfl) (exec_alloc 33 (by kernel_rfl) (.agg (ints .u8 zB).toArray) zeroBlk) ?_
          refine lin_store 7 ((W16.alloc (.cells (ints .u8 zB).toArray 33)).setCells W16.heap.size 0 (ints .u8 bb)) (by kernel_rfl) (by kernel_rfl) (exec_store_mid 33 (.tmp 14) (.tmp 125) (by kernel_rfl) W16.heap.size 0 (ints .u8 bb) (by kernel_rfl) (by kernel_rfl) TH.out IBB.out (ints_oneCell _ _)) ?_
          refine lin_now 8 (.int .i64 ee) (some 15) (by kernel_rfl) (by kernel_rfl) (by kernel_rfl) ?_
          refine lin_done 9 (by kernel_rfl) ?_
          have PX16 : Hid (Pr F7 G8 d r sz C8 [] (-1) w _) := (PT.out.below hbW).below BX.out.2.1
          have BYa := Lib.hid BX.out.1
          clear TH BX hbW PT
          generalize (W16.alloc (.cells (ints .u8 zB).toArray 33)).setCells W16.heap.size 0 (ints .u8 bb) = V16 at *
          generalize W16.heap.size = Ya at *
          generalize hact : Act.put _ (some 15) _ = act
          simp only [Act.put, List.setIfInBounds_toArray, List.set_cons_succ, List.set_cons_zero] at hact
          subst hact
          go_upto_region 28 with (fail)
          refine lin_begin (opsOf Try.f3 28) (by kernel_rfl) ?_
          refine lin_now 0 (.pointer (some ⟨r, 0, none⟩)) (some 128) (by kernel_rfl) (by kernel_rfl) (by kernel_rfl) ?_
          refine lin_now 1 (.int .i64 at') (some 129) (by kernel_rfl) (by kernel_rfl) (by kernel_rfl) ?_
          refine lin_call 2 19 #[.pointer (some ⟨r, 0, none⟩), .int .i64 at'] (some 130) _ (by kernel_rfl) (by kernel_rfl) (by kernel_rfl) (HRR.out G8 _ PX16.out.rk) ?_
          rintro e W17 ⟨rfl, hbW⟩
          refine ⟨_, rfl, ?_⟩
          refine lin_now 3 (.tuple #[.agg (ints .u8 bb).toArray, .int .i64 ee]) (some 127) (by kernel_rfl) (by kernel_rfl) (by kernel_rfl) ?_
          refine lin_now 4 (.agg (ints .u8 bb).toArray) (some 131) (by kernel_rfl) (by kernel_rfl) (by kernel_rfl) ?_
          refine lin_now 5 (.int .i64 ee) (some 132) (by kernel_rfl) (by kernel_rfl) (by kernel_rfl) ?_
          have BX := Lib.hid (boxed W17 33 (ints .u8 zB) (ints .u8 bb) (by rw [ints_length, ints_length, HBB.out, zB_length]))
          have TH : Hid (World.there (W17.alloc (.cells (ints .u8 zB).toArray 33)) W17.heap.size 0 (ints .u8 bb).length) := (Blk.new W17 33 (ints .u8 zB)).there 0 _ (by rw [ints_length, ints_length, HBB.out, zB_length]; omega)
          refine lin_value 6 (.pointer (some ⟨W17.heap.size, 0, none⟩)) (some 16) (W17.alloc (.cells (ints .u8 zB).toArray 33)) (by kernel_rfl) (by kernel_rfl) (exec_alloc 33 (by kernel_rfl) (.agg (ints .u8 zB).toArray) zeroBlk) ?_
          refine lin_store 7 ((W17.alloc (.cells (ints .u8 zB).toArray 33)).setCells W17.heap.size 0 (ints .u8 bb)) (by kernel_rfl) (by kernel_rfl) (exec_store_mid 33 (.tmp 16) (.tmp 131) (by kernel_rfl) W17.heap.size 0 (ints .u8 bb) (by kernel_rfl) (by kernel_rfl) TH.out IBB.out (ints_oneCell _ _)) ?_
          refine lin_now 8 (.int .i64 ee) (some 17) (by kernel_rfl) (by kernel_rfl) (by kernel_rfl) ?_
          refine lin_done 9 (by kernel_rfl) ?_
          have PX17 : Hid (Pr F7 G8 d r sz C8 [] (-1) w _) := (PX16.out.below hbW).below BX.out.2.1
          have BYb := Lib.hid BX.out.1
          have BYa2 := Lib.hid ((BYa.out.below hbW BYa.out.lt).below BX.out.2.1 (Nat.lt_of_lt_of_le BYa.out.lt hbW.size))
          clear BYa
          clear TH BX hbW PX16
          generalize (W17.alloc (.cells (ints .u8 zB).toArray 33)).setCells W17.heap.size 0 (ints .u8 bb) = V17 at *
          generalize W17.heap.size = Yb at *
          generalize hact : Act.put _ (some 17) _ = act
          simp only [Act.put, List.setIfInBounds_toArray, List.set_cons_succ, List.set_cons_zero] at hact
          subst hact
          obtain ⟨al, hal⟩ : ∃ al, Hid (applyK C8 [] [].length = al) := ⟨_, rfl⟩
          have HAL : Hid (al.length = 64 * sz) := by unfold Hid; rw [← hal.out]; exact applyK_length HSP.out.1 HSP.out.2 _ (Nat.le_refl _)
          obtain ⟨pl, hpe⟩ : ∃ pl, Hid ([].length = pl) := ⟨_, rfl⟩
          obtain ⟨la, lcp, hlc⟩ : ∃ a c, Hid (V17.cell? ⟨r, 1, none⟩ = some (.slice a pl c)) := by
            obtain ⟨lB, lc, rl, pv, -, hx⟩ := PX17.out.rk
            obtain ⟨a, c, e⟩ := hx.pv'
            exact ⟨a, c, by unfold Hid; rw [hx.c1, e, hpe.out]⟩
          have HRL : Hid (r < V17.heap.size) := by obtain ⟨lB, lc, rl, pv, -, hx⟩ := PX17.out.rk; exact hx.hd.lt
          have HPC := Lib.hid (pending_walk d sz F7 _ C8 [] (-1) V17.drew (PX17.out.dk.below (Below.refl _ _).drew))
          rw [hpe.out] at HPC
          have HIC := Lib.hid (image_walk d sz F7 _ C8 [] (-1) V17.drew (PX17.out.dk.below (Below.refl _ _).drew))
          rw [hal.out] at HIC
          have HRC : Hid (∀ W, Below V17.heap.size V17 W → Calls Try.prog 23 #[.pointer (some ⟨r, 0, none⟩)] W (NewB al W)) := fun W hW => by have h := rimage_walk r sz G8 C8 [] _ W (PX17.out.rk.below hW) (by have := HQL.out; omega); rw [hal.out] at h; exact h
          have HSC : Hid (∀ v1 v2 W, BytesIn W v1 al → BytesIn W v2 al → Calls Try.prog 15 #[v1, v2] W fun e w' => e = .returned (.bool true) ∧ ∃ n, w' = W.drewN n) := fun v1 v2 W h1 h2 => sameb_true v1 v2 al W h1 h2 (by rw [HAL.out]; omega)
          go_upto_region 29 with (fail)
          refine region_begin (opsOf Try.f3 29) (Below V17.heap.size V17) (by kernel_rfl) (by kernel_rfl) 32 (by kernel_rfl) ?_
          intro Q' hQN hN
          have hS : Below V17.heap.size V17 V17.drew := (Below.refl _ _).drew
          refine reg_nowIf 0 (.agg (ints .u8 bb).toArray) (some 133) hQN hS (by kernel_rfl) (by kernel_rfl) (fun w' hw => exec_load_mid 33 (.tmp 14) (by kernel_rfl) Ya 0 (by kernel_rfl) (ints .u8 bb) _ (BYa2.out.below hw BYa2.out.lt).whole Try.underlying33 rfl IBB.out) ?_
          refine reg_nowIf 1 (.agg (ints .u8 bb).toArray) (some 134) hQN hS (by kernel_rfl) (by kernel_rfl) (fun w' hw => exec_load_mid 33 (.tmp 16) (by kernel_rfl) Yb 0 (by kernel_rfl) (ints .u8 bb) _ (BYb.out.below hw BYb.out.lt).whole Try.underlying33 rfl IBB.out) ?_
          refine reg_now 2 (.bool (!decide (bb = bb))) (some 135) hQN hS (by kernel_rfl) (by kernel_rfl) (fun w' => exec_neq w' (.tmp 133) (.tmp 134) 33 (by kernel_rfl) Try.underlying33 Try.underlying5 sizeByte' guardBlock bb bb HBB.out HBB.out (by kernel_rfl) (by kernel_rfl)) ?_
          rw [show (!decide (bb = bb)) = false by rw [decide_eq_true rfl]; rfl]
          refine reg_now 3 (.bool false) (some 136) hQN hS (by kernel_rfl) (by kernel_rfl) (fun w => by kernel_rfl) ?_
          refine reg_now 4 (.int .i64 ee) (some 137) hQN hS (by kernel_rfl) (by kernel_rfl) (fun w => by kernel_rfl) ?_
          refine reg_now 5 (.int .i64 ee) (some 138) hQN hS (by kernel_rfl) (by kernel_rfl) (fun w => by kernel_rfl) ?_
          refine reg_now 6 (.bool (ee != ee)) (some 139) hQN hS (by kernel_rfl) (by kernel_rfl) (fun w => by kernel_rfl) ?_
          rw [show (ee != ee) = false by simp]
          refine reg_now 7 (.bool false) (some 140) hQN hS (by kernel_rfl) (by kernel_rfl) (fun w => by kernel_rfl) ?_
          refine reg_now 8 (.bool false) (some 141) hQN hS (by kernel_rfl) (by kernel_rfl) (fun w => by kernel_rfl) ?_
          refine reg_now 9 (.pointer (some ⟨d, 0, none⟩)) (some 142) hQN hS (by kernel_rfl) (by kernel_rfl) (fun w => by kernel_rfl) ?_
          refine reg_now 11 (.pointer (some ⟨r, 0, none⟩)) (some 144) hQN hS (by kernel_rfl) (by kernel_rfl) (fun w => by kernel_rfl) ?_
          refine reg_now 12 (.pointer (some ⟨r, 0, none⟩)) (some 145) hQN hS (by kernel_rfl) (by kernel_rfl) (fun w => by kernel_rfl) ?_
          refine reg_now 13 (.pointer (some ⟨r, 1, none⟩)) (some 146) hQN hS (by kernel_rfl) (by kernel_rfl) (fun w => by kernel_rfl) ?_
          refine reg_nowIf 14 (.slice la pl lcp) (some 147) hQN hS (by kernel_rfl) (by kernel_rfl) (fun w' hw => exec_load_cell 45 (.tmp 146) (by kernel_rfl) r 1 (by kernel_rfl) _ ((hw.cell (p := ⟨r, 1, none⟩) HRL.out).trans hlc.out) _ Try.underlying45 rfl) ?_
          refine reg_now 15 (.int .i64 (pl : Int)) (some 148) hQN hS (by kernel_rfl) (by kernel_rfl) (fun w => by kernel_rfl) ?_
          refine reg_call 10 20 #[.pointer (some ⟨d, 0, none⟩)] (some 143) _ (by kernel_rfl) (by kernel_rfl) (by kernel_rfl) (HPC.out) ?_
          rintro e W8 ⟨rfl, rfl⟩
          refine ⟨_, rfl, hS, ?_⟩
          refine reg_now 16 (.bool ((pl : Int) != (pl : Int))) (some 149) hQN hS (by kernel_rfl) (by kernel_rfl) (fun w => by kernel_rfl) ?_
          rw [show ((pl : Int) != (pl : Int)) = false by simp]
          refine reg_now 17 (.bool false) (some 150) hQN hS (by kernel_rfl) (by kernel_rfl) (fun w => by kernel_rfl) ?_
          refine reg_now 18 (.bool false) (some 151) hQN hS (by kernel_rfl) (by kernel_rfl) (fun w => by kernel_rfl) ?_
          refine reg_now 19 (.pointer (some ⟨d, 0, none⟩)) (some 152) hQN hS (by kernel_rfl) (by kernel_rfl) (fun w => by kernel_rfl) ?_
          refine reg_now 21 (.int .i64 (sz : Int)) (some 154) hQN hS (by kernel_rfl) (by kernel_rfl) (fun w => by kernel_rfl) ?_
          refine reg_call 20 21 #[.pointer (some ⟨d, 0, none⟩)] (some 153) _ (by kernel_rfl) (by kernel_rfl) (by kernel_rfl) (size_walk d sz F7 _ C8 [] (-1) _ (PX17.out.dk.below (Below.refl _ _).drew)) ?_
          rintro e W8 ⟨rfl, rfl⟩
          refine ⟨_, rfl, hS, ?_⟩
          refine reg_now 22 (.bool ((sz : Int) != (sz : Int))) (some 155) hQN hS (by kernel_rfl) (by kernel_rfl) (fun w => by kernel_rfl) ?_
          rw [show ((sz : Int) != (sz : Int)) = false by simp]
          refine reg_now 23 (.bool false) (some 156) hQN hS (by kernel_rfl) (by kernel_rfl) (fun w => by kernel_rfl) ?_
          refine reg_now 24 (.bool false) (some 157) hQN hS (by kernel_rfl) (by kernel_rfl) (fun w => by kernel_rfl) ?_
          refine reg_now 25 (.pointer (some ⟨d, 0, none⟩)) (some 158) hQN hS (by kernel_rfl) (by kernel_rfl) (fun w => by kernel_rfl) ?_
          refine reg_now 27 (.pointer (some ⟨r, 0, none⟩)) (some 160) hQN hS (by kernel_rfl) (by kernel_rfl) (fun w => by kernel_rfl) ?_
          refine reg_call 26 22 #[.pointer (some ⟨d, 0, none⟩)] (some 159) _ (by kernel_rfl) (by kernel_rfl) (by kernel_rfl) (HIC.out) ?_
          rintro e W8 ⟨iv, rfl, hiv, hb8⟩
          have hS8 : Below V17.heap.size V17 W8 := hS.trans (hb8.mono (Nat.le_refl _))
          refine ⟨_, rfl, hS8, ?_⟩
          refine reg_call 28 23 #[.pointer (some ⟨r, 0, none⟩)] (some 161) _ (by kernel_rfl) (by kernel_rfl) (by kernel_rfl) (HRC.out W8 hS8) ?_
          rintro e W9 ⟨g, gc, gr, rfl, hg9, hbl9, hcap9, hb9⟩
          have hS9 : Below V17.heap.size V17 W9 := hS8.trans (hb9.mono hS8.size)
          refine ⟨_, rfl, hS9, ?_⟩
          refine reg_call 29 15 #[iv, .slice (some ⟨g, 0, none⟩) al.length gc] (some 162) _ (by kernel_rfl) (by kernel_rfl) (by kernel_rfl) (HSC.out _ _ W9 ((owns_bytes hiv).below hb9 (Nat.le_refl _)) (newb_in hbl9 hcap9)) ?_
          rintro e W10 ⟨rfl, n10, rfl⟩
          have hS10 : Below V17.heap.size V17 (W9.drewN n10) := hS9.trans ((below_drewN W9 n10).mono hS9.size)
          refine ⟨_, rfl, hS10, ?_⟩
          refine reg_now 30 (.bool false) (some 163) hQN hS10 (by kernel_rfl) (by kernel_rfl) (fun w => by kernel_rfl) ?_
          refine reg_now 31 (.bool false) (some 164) hQN hS10 (by kernel_rfl) (by kernel_rfl) (fun w => by kernel_rfl) ?_
          refine reg_done (by kernel_rfl) (hN _ _ ?_)
          have PZ : Hid (Pr F7 G8 d r sz C8 [] (-1) w _) := PX17.out.below hS10
          clear hQN hN hS hS8 hS9 hS10 hb8 hb9 hbl9 hiv HSC HRC HIC HPC PX17 hlc HRL BYa2 BYb
          generalize W9.drewN n10 = Z at *
          generalize hact : Act.put _ (some 164) _ = act
          simp only [Act.put, List.setIfInBounds_toArray, List.set_cons_succ, List.set_cons_zero] at hact
          subst hact
          go_wp2
          exact ⟨⟨k + 1, F7, G8, C8, [], (-1), by omega, by go_num, HQL.out, HLL.out, PZ.out⟩, by simp [intOf]; omega⟩
        by_cases hw3 : c.what = 3
        · have k0 : (c.what == 0) = false := by simpa using hw0
          have k1 : (c.what == 1) = false := by simpa using hw1
          have k2 : (c.what == 2) = false := by simpa using hw2
          have k3 : (c.what == 3) = true := by simpa using hw3
          go_wp2_with fail
          refine (limit_walk d sz F _ S P l c.n _ P5.out.dk).mono ?_
          rintro e W6 ⟨rfl, F6, hd6, hs6⟩
          have P6 := Lib.hid (Pq.stepD P5.out hd6 hs6)
          have B6 := Lib.hid (hs6.blk BC.out XF.out)
          have cn6 := ccl_n B6.out
          clear hd6 hs6 P5 BC cn cw
          go_wp2_with fail
          refine (rlimit_walk r sz G S P _ c.n _ P6.out.rk).mono ?_
          rintro e W7 ⟨rfl, G7, hr7, hs7⟩
          have PT : Hid (Pr F6 G7 d r sz S P c.n w W7) := P6.out.stepR hr7 hs7
          have HQL : Hid (P.length ≤ k + 1) := by have := HPL.out; unfold Hid; omega
          have HLL : Hid (c.n ≤ 9223372036854775807) := by have h := HC.out.wfn; unfold Hid; simp [Lit.wf, IntKind.min, IntKind.max, IntKind.signed, IntKind.bits] at h; omega
          clear hr7 hs7 P6 B6 XF XG cn6
          have HSP : Hid (S.length = 64 * sz ∧ okW sz P) := by obtain ⟨_, _, _, _, _, hx⟩ := PT.out.rk; exact ⟨hx.ls, hx.ok⟩
          obtain ⟨bb, ee, hbb, hrd, hrr⟩ := read_both d r sz S P at' c.n (lim c.n) HSP.out.1 HSP.out.2 (by have := HQL.out; omega)
          have HBB := Lib.hid hbb
          have HRD := Lib.hid hrd
          have HRR := Lib.hid hrr
          have IBB : Hid ((Try.prog.info? 33).map (·.size) = some (ints .u8 bb).length) := infoBlk bb hbb
          clear hbb hrd hrr
          go_upto_region 27 with (fail)
          refine lin_begin (opsOf Try.f3 27) (by kernel_rfl) ?_
          refine lin_now 0 (.pointer (some ⟨d, 0, none⟩)) (some 122) (by kernel_rfl) (by kernel_rfl) (by kernel_rfl) ?_
          refine lin_now 1 (.int .i64 at') (some 123) (by kernel_rfl) (by kernel_rfl) (by kernel_rfl) ?_
          refine lin_call 2 18 #[.pointer (some ⟨d, 0, none⟩), .int .i64 at'] (some 124) _ (by kernel_rfl) (by kernel_rfl) (by kernel_rfl) (HRD.out F6 _ PT.out.dk) ?_
          rintro e W16 ⟨rfl, hbW⟩
          refine ⟨_, rfl, ?_⟩
          refine lin_now 3 (.tuple #[.agg (ints .u8 bb).toArray, .int .i64 ee]) (some 121) (by kernel_rfl) (by kernel_rfl) (by kernel_rfl) ?_
          refine lin_now 4 (.agg (ints .u8 bb).toArray) (some 125) (by kernel_rfl) (by kernel_rfl) (by kernel_rfl) ?_
          refine lin_now 5 (.int .i64 ee) (some 126) (by kernel_rfl) (by kernel_rfl) (by kernel_rfl) ?_
          have BX := Lib.hid (boxed W16 33 (ints .u8 zB) (ints .u8 bb) (by rw [ints_length, ints_length, HBB.out, zB_length]))
          have TH : Hid (World.there (W16.alloc (.cells (ints .u8 zB).toArray 33)) W16.heap.size 0 (ints .u8 bb).length) := (Blk.new W16 33 (ints .u8 zB)).there 0 _ (by rw [ints_length, ints_length, HBB.out, zB_length]; omega)
          refine lin_value 6 (.pointer (some ⟨W16.heap.size, 0, none⟩)) (some 14) (W16.alloc (.cells (ints .u8 zB).toArray 33)) (by kernel_rfl) (by kernel_rfl) (exec_alloc 33 (by kernel_rfl) (.agg (ints .u8 zB).toArray) zeroBlk) ?_
          refine lin_store 7 ((W16.alloc (.cells (ints .u8 zB).toArray 33)).setCells W16.heap.size 0 (ints .u8 bb)) (by kernel_rfl) (by kernel_rfl) (exec_store_mid 33 (.tmp 14) (.tmp 125) (by kernel_rfl) W16.heap.size 0 (ints .u8 bb) (by kernel_rfl) (by kernel_rfl) TH.out IBB.out (ints_oneCell _ _)) ?_
          refine lin_now 8 (.int .i64 ee) (some 15) (by kernel_rfl) (by kernel_rfl) (by kernel_rfl) ?_
          refine lin_done 9 (by kernel_rfl) ?_
          have PX16 : Hid (Pr F6 G7 d r sz S P c.n w _) := (PT.out.below hbW).below BX.out.2.1
          have BYa := Lib.hid BX.out.1
          clear TH BX hbW PT
          generalize (W16.alloc (.cells (ints .u8 zB).toArray 33)).setCells W16.heap.size 0 (ints .u8 bb) = V16 at *
          generalize W16.heap.size = Ya at *
          generalize hact : Act.put _ (some 15) _ = act
          simp only [Act.put, List.setIfInBounds_toArray, List.set_cons_succ, List.set_cons_zero] at hact
          subst hact
          go_upto_region 28 with (fail)
          refine lin_begin (opsOf Try.f3 28) (by kernel_rfl) ?_
          refine lin_now 0 (.pointer (some ⟨r, 0, none⟩)) (some 128) (by kernel_rfl) (by kernel_rfl) (by kernel_rfl) ?_
          refine lin_now 1 (.int .i64 at') (some 129) (by kernel_rfl) (by kernel_rfl) (by kernel_rfl) ?_
          refine lin_call 2 19 #[.pointer (some ⟨r, 0, none⟩), .int .i64 at'] (some 130) _ (by kernel_rfl) (by kernel_rfl) (by kernel_rfl) (HRR.out G7 _ PX16.out.rk) ?_
          rintro e W17 ⟨rfl, hbW⟩
          refine ⟨_, rfl, ?_⟩
          refine lin_now 3 (.tuple #[.agg (ints .u8 bb).toArray, .int .i64 ee]) (some 127) (by kernel_rfl) (by kernel_rfl) (by kernel_rfl) ?_
          refine lin_now 4 (.agg (ints .u8 bb).toArray) (some 131) (by kernel_rfl) (by kernel_rfl) (by kernel_rfl) ?_
          refine lin_now 5 (.int .i64 ee) (some 132) (by kernel_rfl) (by kernel_rfl) (by kernel_rfl) ?_
          have BX := Lib.hid (boxed W17 33 (ints .u8 zB) (ints .u8 bb) (by rw [ints_length, ints_length, HBB.out, zB_length]))
          have TH : Hid (World.there (W17.alloc (.cells (ints .u8 zB).toArray 33)) W17.heap.size 0 (ints .u8 bb).length) := (Blk.new W17 33 (ints .u8 zB)).there 0 _ (by rw [ints_length, ints_length, HBB.out, zB_length]; omega)
          refine lin_value 6 (.pointer (some ⟨W17.heap.size, 0, none⟩)) (some 16) (W17.alloc (.cells (ints .u8 zB).toArray 33)) (by kernel_rfl) (by kernel_rfl) (exec_alloc 33 (by kernel_rfl) (.agg (ints .u8 zB).toArray) zeroBlk) ?_
          refine lin_store 7 ((W17.alloc (.cells (ints .u8 zB).toArray 33)).setCells W17.heap.size 0 (ints .u8 bb)) (by kernel_rfl) (by kernel_rfl) (exec_store_mid 33 (.tmp 16) (.tmp 131) (by kernel_rfl) W17.heap.size 0 (ints .u8 bb) (by kernel_rfl) (by kernel_rfl) TH.out IBB.out (ints_oneCell _ _)) ?_
          refine lin_now 8 (.int .i64 ee) (some 17) (by kernel_rfl) (by kernel_rfl) (by kernel_rfl) ?_
          refine lin_done 9 (by kernel_rfl) ?_
          have PX17 : Hid (Pr F6 G7 d r sz S P c.n w _) := (PX16.out.below hbW).below BX.out.2.1
          have BYb := Lib.hid BX.out.1
          have BYa2 := Lib.hid ((BYa.out.below hbW BYa.out.lt).below BX.out.2.1 (Nat.lt_of_lt_of_le BYa.out.lt hbW.size))
          clear BYa
          clear TH BX hbW PX16
          generalize (W17.alloc (.cells (ints .u8 zB).toArray 33)).setCells W17.heap.size 0 (ints .u8 bb) = V17 at *
          generalize W17.heap.size = Yb at *
          generalize hact : Act.put _ (some 17) _ = act
          simp only [Act.put, List.setIfInBounds_toArray, List.set_cons_succ, List.set_cons_zero] at hact
          subst hact
          obtain ⟨al, hal⟩ : ∃ al, Hid (applyK S P P.length = al) := ⟨_, rfl⟩
          have HAL : Hid (al.length = 64 * sz) := by unfold Hid; rw [← hal.out]; exact applyK_length HSP.out.1 HSP.out.2 _ (Nat.le_refl _)
          obtain ⟨pl, hpe⟩ : ∃ pl, Hid (P.length = pl) := ⟨_, rfl⟩
          obtain ⟨la, lcp, hlc⟩ : ∃ a c, Hid (V17.cell? ⟨r, 1, none⟩ = some (.slice a pl c)) := by
            obtain ⟨lB, lc, rl, pv, -, hx⟩ := PX17.out.rk
            obtain ⟨a, c, e⟩ := hx.pv'
            exact ⟨a, c, by unfold Hid; rw [hx.c1, e, hpe.out]⟩
          have HRL : Hid (r < V17.heap.size) := by obtain ⟨lB, lc, rl, pv, -, hx⟩ := PX17.out.rk; exact hx.hd.lt
          have HPC := Lib.hid (pending_walk d sz F6 _ S P c.n V17.drew (PX17.out.dk.below (Below.refl _ _).drew))
          rw [hpe.out] at HPC
          have HIC := Lib.hid (image_walk d sz F6 _ S P c.n V17.drew (PX17.out.dk.below (Below.refl _ _).drew))
          rw [hal.out] at HIC
          have HRC : Hid (∀ W, Below V17.heap.size V17 W → Calls Try.prog 23 #[.pointer (some ⟨r, 0, none⟩)] W (NewB al W)) := fun W hW => by have h := rimage_walk r sz G7 S P _ W (PX17.out.rk.below hW) (by have := HQL.out; omega); rw [hal.out] at h; exact h
          have HSC : Hid (∀ v1 v2 W, BytesIn W v1 al → BytesIn W v2 al → Calls Try.prog 15 #[v1, v2] W fun e w' => e = .returned (.bool true) ∧ ∃ n, w' = W.drewN n) := fun v1 v2 W h1 h2 => sameb_true v1 v2 al W h1 h2 (by rw [HAL.out]; omega)
          go_upto_region 29 with (fail)
          refine region_begin (opsOf Try.f3 29) (Below V17.heap.size V17) (by kernel_rfl) (by kernel_rfl) 32 (by kernel_rfl) ?_
          intro Q' hQN hN
          have hS : Below V17.heap.size V17 V17.drew := (Below.refl _ _).drew
          refine reg_nowIf 0 (.agg (ints .u8 bb).toArray) (some 133) hQN hS (by kernel_rfl) (by kernel_rfl) (fun w' hw => exec_load_mid 33 (.tmp 14) (by kernel_rfl) Ya 0 (by kernel_rfl) (ints .u8 bb) _ (BYa2.out.below hw BYa2.out.lt).whole Try.underlying33 rfl IBB.out) ?_
          refine reg_nowIf 1 (.agg (ints .u8 bb).toArray) (some 134) hQN hS (by kernel_rfl) (by kernel_rfl) (fun w' hw => exec_load_mid 33 (.tmp 16) (by kernel_rfl) Yb 0 (by kernel_rfl) (ints .u8 bb) _ (BYb.out.below hw BYb.out.lt).whole Try.underlying33 rfl IBB.out) ?_
          refine reg_now 2 (.bool (!decide (bb = bb))) (some 135) hQN hS (by kernel_rfl) (by kernel_rfl) (fun w' => exec_neq w' (.tmp 133) (.tmp 134) 33 (by kernel_rfl) Try.underlying33 Try.underlying5 sizeByte' guardBlock bb bb HBB.out HBB.out (by kernel_rfl) (by kernel_rfl)) ?_
          rw [show (!decide (bb = bb)) = false by rw [decide_eq_true rfl]; rfl]
          refine reg_now 3 (.bool false) (some 136) hQN hS (by kernel_rfl) (by kernel_rfl) (fun w => by kernel_rfl) ?_
          refine reg_now 4 (.int .i64 ee) (some 137) hQN hS (by kernel_rfl) (by kernel_rfl) (fun w => by kernel_rfl) ?_
          refine reg_now 5 (.int .i64 ee) (some 138) hQN hS (by kernel_rfl) (by kernel_rfl) (fun w => by kernel_rfl) ?_
          refine reg_now 6 (.bool (ee != ee)) (some 139) hQN hS (by kernel_rfl) (by kernel_rfl) (fun w => by kernel_rfl) ?_
          rw [show (ee != ee) = false by simp]
          refine reg_now 7 (.bool false) (some 140) hQN hS (by kernel_rfl) (by kernel_rfl) (fun w => by kernel_rfl) ?_
          refine reg_now 8 (.bool false) (some 141) hQN hS (by kernel_rfl) (by kernel_rfl) (fun w => by kernel_rfl) ?_
          refine reg_now 9 (.pointer (some ⟨d, 0, none⟩)) (some 142) hQN hS (by kernel_rfl) (by kernel_rfl) (fun w => by kernel_rfl) ?_
          refine reg_now 11 (.pointer (some ⟨r, 0, none⟩)) (some 144) hQN hS (by kernel_rfl) (by kernel_rfl) (fun w => by kernel_rfl) ?_
          refine reg_now 12 (.pointer (some ⟨r, 0, none⟩)) (some 145) hQN hS (by kernel_rfl) (by kernel_rfl) (fun w => by kernel_rfl) ?_
          refine reg_now 13 (.pointer (some ⟨r, 1, none⟩)) (some 146) hQN hS (by kernel_rfl) (by kernel_rfl) (fun w => by kernel_rfl) ?_
          refine reg_nowIf 14 (.slice la pl lcp) (some 147) hQN hS (by kernel_rfl) (by kernel_rfl) (fun w' hw => exec_load_cell 45 (.tmp 146) (by kernel_rfl) r 1 (by kernel_rfl) _ ((hw.cell (p := ⟨r, 1, none⟩) HRL.out).trans hlc.out) _ Try.underlying45 rfl) ?_
          refine reg_now 15 (.int .i64 (pl : Int)) (some 148) hQN hS (by kernel_rfl) (by kernel_rfl) (fun w => by kernel_rfl) ?_
          refine reg_call 10 20 #[.pointer (some ⟨d, 0, none⟩)] (some 143) _ (by kernel_rfl) (by kernel_rfl) (by kernel_rfl) (HPC.out) ?_
          rintro e W8 ⟨rfl, rfl⟩
          refine ⟨_, rfl, hS, ?_⟩
          refine reg_now 16 (.bool ((pl : Int) != (pl : Int))) (some 149) hQN hS (by kernel_rfl) (by kernel_rfl) (fun w => by kernel_rfl) ?_
          rw [show ((pl : Int) != (pl : Int)) = false by simp]
          refine reg_now 17 (.bool false) (some 150) hQN hS (by kernel_rfl) (by kernel_rfl) (fun w => by kernel_rfl) ?_
          refine reg_now 18 (.bool false) (some 151) hQN hS (by kernel_rfl) (by kernel_rfl) (fun w => by kernel_rfl) ?_
          refine reg_now 19 (.pointer (some ⟨d, 0, none⟩)) (some 152) hQN hS (by kernel_rfl) (by kernel_rfl) (fun w => by kernel_rfl) ?_
          refine reg_now 21 (.int .i64 (sz : Int)) (some 154) hQN hS (by kernel_rfl) (by kernel_rfl) (fun w => by kernel_rfl) ?_
          refine reg_call 20 21 #[.pointer (some ⟨d, 0, none⟩)] (some 153) _ (by kernel_rfl) (by kernel_rfl) (by kernel_rfl) (size_walk d sz F6 _ S P c.n _ (PX17.out.dk.below (Below.refl _ _).drew)) ?_
          rintro e W8 ⟨rfl, rfl⟩
          refine ⟨_, rfl, hS, ?_⟩
          refine reg_now 22 (.bool ((sz : Int) != (sz : Int))) (some 155) hQN hS (by kernel_rfl) (by kernel_rfl) (fun w => by kernel_rfl) ?_
          rw [show ((sz : Int) != (sz : Int)) = false by simp]
          refine reg_now 23 (.bool false) (some 156) hQN hS (by kernel_rfl) (by kernel_rfl) (fun w => by kernel_rfl) ?_
          refine reg_now 24 (.bool false) (some 157) hQN hS (by kernel_rfl) (by kernel_rfl) (fun w => by kernel_rfl) ?_
          refine reg_now 25 (.pointer (some ⟨d, 0, none⟩)) (some 158) hQN hS (by kernel_rfl) (by kernel_rfl) (fun w => by kernel_rfl) ?_
          refine reg_now 27 (.pointer (some ⟨r, 0, none⟩)) (some 160) hQN hS (by kernel_rfl) (by kernel_rfl) (fun w => by kernel_rfl) ?_
          refine reg_call 26 22 #[.pointer (some ⟨d, 0, none⟩)] (some 159) _ (by kernel_rfl) (by kernel_rfl) (by kernel_rfl) (HIC.out) ?_
          rintro e W8 ⟨iv, rfl, hiv, hb8⟩
          have hS8 : Below V17.heap.size V17 W8 := hS.trans (hb8.mono (Nat.le_refl _))
          refine ⟨_, rfl, hS8, ?_⟩
          refine reg_call 28 23 #[.pointer (some ⟨r, 0, none⟩)] (some 161) _ (by kernel_rfl) (by kernel_rfl) (by kernel_rfl) (HRC.out W8 hS8) ?_
          rintro e W9 ⟨g, gc, gr, rfl, hg9, hbl9, hcap9, hb9⟩
          have hS9 : Below V17.heap.size V17 W9 := hS8.trans (hb9.mono hS8.size)
          refine ⟨_, rfl, hS9, ?_⟩
          refine reg_call 29 15 #[iv, .slice (some ⟨g, 0, none⟩) al.length gc] (some 162) _ (by kernel_rfl) (by kernel_rfl) (by kernel_rfl) (HSC.out _ _ W9 ((owns_bytes hiv).below hb9 (Nat.le_refl _)) (newb_in hbl9 hcap9)) ?_
          rintro e W10 ⟨rfl, n10, rfl⟩
          have hS10 : Below V17.heap.size V17 (W9.drewN n10) := hS9.trans ((below_drewN W9 n10).mono hS9.size)
          refine ⟨_, rfl, hS10, ?_⟩
          refine reg_now 30 (.bool false) (some 163) hQN hS10 (by kernel_rfl) (by kernel_rfl) (fun w => by kernel_rfl) ?_
          refine reg_now 31 (.bool false) (some 164) hQN hS10 (by kernel_rfl) (by kernel_rfl) (fun w => by kernel_rfl) ?_
          refine reg_done (by kernel_rfl) (hN _ _ ?_)
          have PZ : Hid (Pr F6 G7 d r sz S P c.n w _) := PX17.out.below hS10
          clear hQN hN hS hS8 hS9 hS10 hb8 hb9 hbl9 hiv HSC HRC HIC HPC PX17 hlc HRL BYa2 BYb
          generalize W9.drewN n10 = Z at *
          generalize hact : Act.put _ (some 164) _ = act
          simp only [Act.put, List.setIfInBounds_toArray, List.set_cons_succ, List.set_cons_zero] at hact
          subst hact
          go_wp2
          exact ⟨⟨k + 1, F6, G7, S, P, c.n, by omega, by go_num, HQL.out, HLL.out, PZ.out⟩, by simp [intOf]; omega⟩
        have k0 : (c.what == 0) = false := by simpa using hw0
        have k1 : (c.what == 1) = false := by simpa using hw1
        have k2 : (c.what == 2) = false := by simpa using hw2
        have k3 : (c.what == 3) = false := by simpa using hw3
        have HQL : Hid (P.length ≤ k + 1) := by have := HPL.out; unfold Hid; omega
        have HLL := Lib.hid hll
        clear cn XF XG
        have HSP : Hid (S.length = 64 * sz ∧ okW sz P) := by obtain ⟨_, _, _, _, _, hx⟩ := P5.out.rk; exact ⟨hx.ls, hx.ok⟩
        obtain ⟨bb, ee, hbb, hrd, hrr⟩ := read_both d r sz S P at' l (lim l) HSP.out.1 HSP.out.2 (by have := HQL.out; omega)
        have HBB := Lib.hid hbb
        have HRD := Lib.hid hrd
        have HRR := Lib.hid hrr
        have IBB : Hid ((Try.prog.info? 33).map (·.size) = some (ints .u8 bb).length) := infoBlk bb hbb
        clear hbb hrd hrr
        go_upto_region 27 with (fail)
        refine lin_begin (opsOf Try.f3 27) (by kernel_rfl) ?_
        refine lin_now 0 (.pointer (some ⟨d, 0, none⟩)) (some 122) (by kernel_rfl) (by kernel_rfl) (by kernel_rfl) ?_
        refine lin_now 1 (.int .i64 at') (some 123) (by kernel_rfl) (by kernel_rfl) (by kernel_rfl) ?_
        refine lin_call 2 18 #[.pointer (some ⟨d, 0, none⟩), .int .i64 at'] (some 124) _ (by kernel_rfl) (by kernel_rfl) (by kernel_rfl) (HRD.out F _ P5.out.dk) ?_
        rintro e W16 ⟨rfl, hbW⟩
        refine ⟨_, rfl, ?_⟩
        refine lin_now 3 (.tuple #[.agg (ints .u8 bb).toArray, .int .i64 ee]) (some 121) (by kernel_rfl) (by kernel_rfl) (by kernel_rfl) ?_
        refine lin_now 4 (.agg (ints .u8 bb).toArray) (some 125) (by kernel_rfl) (by kernel_rfl) (by kernel_rfl) ?_
        refine lin_now 5 (.int .i64 ee) (some 126) (by kernel_rfl) (by kernel_rfl) (by kernel_rfl) ?_
        have BX := Lib.hid (boxed W16 33 (ints .u8 zB) (ints .u8 bb) (by rw [ints_length, ints_length, HBB.out, zB_length]))
        have TH : Hid (World.there (W16.alloc (.cells (ints .u8 zB).toArray 33)) W16.heap.size 0 (ints .u8 bb).length) := (Blk.new W16 33 (ints .u8 zB)).there 0 _ (by rw [ints_length, ints_length, HBB.out, zB_length]; omega)
        refine lin_value 6 (.pointer (some ⟨W16.heap.size, 0, none⟩)) (some 14) (W16.alloc (.cells (ints .u8 zB).toArray 33)) (by kernel_rfl) (by kernel_rfl) (exec_alloc 33 (by kernel_rfl) (.agg (ints .u8 zB).toArray) zeroBlk) ?_
        refine lin_store 7 ((W16.alloc (.cells (ints .u8 zB).toArray 33)).setCells W16.heap.size 0 (ints .u8 bb)) (by kernel_rfl) (by kernel_rfl) (exec_store_mid 33 (.tmp 14) (.tmp 125) (by kernel_rfl) W16.heap.size 0 (ints .u8 bb) (by kernel_rfl) (by kernel_rfl) TH.out IBB.out (ints_oneCell _ _)) ?_
        refine lin_now 8 (.int .i64 ee) (some 15) (by kernel_rfl) (by kernel_rfl) (by kernel_rfl) ?_
        refine lin_done 9 (by kernel_rfl) ?_
        have PX16 : Hid (Pr F G d r sz S P l w _) := (P5.out.below hbW).below BX.out.2.1
        have BYa := Lib.hid BX.out.1
        clear TH BX hbW P5
        generalize (W16.alloc (.cells (ints .u8 zB).toArray 33)).setCells W16.heap.size 0 (ints .u8 bb) = V16 at *
        generalize W16.heap.size = Ya at *
        generalize hact : Act.put _ (some 15) _ = act
        simp only [Act.put, List.setIfInBounds_toArray, List.set_cons_succ, List.set_cons_zero] at hact
        subst hact
        go_upto_region 28 with (fail)
        refine lin_begin (opsOf Try.f3 28) (by kernel_rfl) ?_
        refine lin_now 0 (.pointer (some ⟨r, 0, none⟩)) (some 128) (by kernel_rfl) (by kernel_rfl) (by kernel_rfl) ?_
        refine lin_now 1 (.int .i64 at') (some 129) (by kernel_rfl) (by kernel_rfl) (by kernel_rfl) ?_
        refine lin_call 2 19 #[.pointer (some ⟨r, 0, none⟩), .int .i64 at'] (some 130) _ (by kernel_rfl) (by kernel_rfl) (by kernel_rfl) (HRR.out G _ PX16.out.rk) ?_
        rintro e W17 ⟨rfl, hbW⟩
        refine ⟨_, rfl, ?_⟩
        refine lin_now 3 (.tuple #[.agg (ints .u8 bb).toArray, .int .i64 ee]) (some 127) (by kernel_rfl) (by kernel_rfl) (by kernel_rfl) ?_
        refine lin_now 4 (.agg (ints .u8 bb).toArray) (some 131) (by kernel_rfl) (by kernel_rfl) (by kernel_rfl) ?_
        refine lin_now 5 (.int .i64 ee) (some 132) (by kernel_rfl) (by kernel_rfl) (by kernel_rfl) ?_
        have BX := Lib.hid (boxed W17 33 (ints .u8 zB) (ints .u8 bb) (by rw [ints_length, ints_length, HBB.out, zB_length]))
        have TH : Hid (World.there (W17.alloc (.cells (ints .u8 zB).toArray 33)) W17.heap.size 0 (ints .u8 bb).length) := (Blk.new W17 33 (ints .u8 zB)).there 0 _ (by rw [ints_length, ints_length, HBB.out, zB_length]; omega)
        refine lin_value 6 (.pointer (some ⟨W17.heap.size, 0, none⟩)) (some 16) (W17.alloc (.cells (ints .u8 zB).toArray 33)) (by kernel_rfl) (by kernel_rfl) (exec_alloc 33 (by kernel_rfl) (.agg (ints .u8 zB).toArray) zeroBlk) ?_
        refine lin_store 7 ((W17.alloc (.cells (ints .u8 zB).toArray 33)).setCells W17.heap.size 0 (ints .u8 bb)) (by kernel_rfl) (by kernel_rfl) (exec_store_mid 33 (.tmp 16) (.tmp 131) (by kernel_rfl) W17.heap.size 0 (ints .u8 bb) (by kernel_rfl) (by kernel_rfl) TH.out IBB.out (ints_oneCell _ _)) ?_
        refine lin_now 8 (.int .i64 ee) (some 17) (by kernel_rfl) (by kernel_rfl) (by kernel_rfl) ?_
        refine lin_done 9 (by kernel_rfl) ?_
        have PX17 : Hid (Pr F G d r sz S P l w _) := (PX16.out.below hbW).below BX.out.2.1
        have BYb := Lib.hid BX.out.1
        have BYa2 := Lib.hid ((BYa.out.below hbW BYa.out.lt).below BX.out.2.1 (Nat.lt_of_lt_of_le BYa.out.lt hbW.size))
        clear BYa
        clear TH BX hbW PX16
        generalize (W17.alloc (.cells (ints .u8 zB).toArray 33)).setCells W17.heap.size 0 (ints .u8 bb) = V17 at *
        generalize W17.heap.size = Yb at *
        generalize hact : Act.put _ (some 17) _ = act
        simp only [Act.put, List.setIfInBounds_toArray, List.set_cons_succ, List.set_cons_zero] at hact
        subst hact
        obtain ⟨al, hal⟩ : ∃ al, Hid (applyK S P P.length = al) := ⟨_, rfl⟩
        have HAL : Hid (al.length = 64 * sz) := by unfold Hid; rw [← hal.out]; exact applyK_length HSP.out.1 HSP.out.2 _ (Nat.le_refl _)
        obtain ⟨pl, hpe⟩ : ∃ pl, Hid (P.length = pl) := ⟨_, rfl⟩
        obtain ⟨la, lcp, hlc⟩ : ∃ a c, Hid (V17.cell? ⟨r, 1, none⟩ = some (.slice a pl c)) := by
          obtain ⟨lB, lc, rl, pv, -, hx⟩ := PX17.out.rk
          obtain ⟨a, c, e⟩ := hx.pv'
          exact ⟨a, c, by unfold Hid; rw [hx.c1, e, hpe.out]⟩
        have HRL : Hid (r < V17.heap.size) := by obtain ⟨lB, lc, rl, pv, -, hx⟩ := PX17.out.rk; exact hx.hd.lt
        have HPC := Lib.hid (pending_walk d sz F _ S P l V17.drew (PX17.out.dk.below (Below.refl _ _).drew))
        rw [hpe.out] at HPC
        have HIC := Lib.hid (image_walk d sz F _ S P l V17.drew (PX17.out.dk.below (Below.refl _ _).drew))
        rw [hal.out] at HIC
        have HRC : Hid (∀ W, Below V17.heap.size V17 W → Calls Try.prog 23 #[.pointer (some ⟨r, 0, none⟩)] W (NewB al W)) := fun W hW => by have h := rimage_walk r sz G S P _ W (PX17.out.rk.below hW) (by have := HQL.out; omega); rw [hal.out] at h; exact h
        have HSC : Hid (∀ v1 v2 W, BytesIn W v1 al → BytesIn W v2 al → Calls Try.prog 15 #[v1, v2] W fun e w' => e = .returned (.bool true) ∧ ∃ n, w' = W.drewN n) := fun v1 v2 W h1 h2 => sameb_true v1 v2 al W h1 h2 (by rw [HAL.out]; omega)
        go_upto_region 29 with (fail)
        refine region_begin (opsOf Try.f3 29) (Below V17.heap.size V17) (by kernel_rfl) (by kernel_rfl) 32 (by kernel_rfl) ?_
        intro Q' hQN hN
        have hS : Below V17.heap.size V17 V17.drew := (Below.refl _ _).drew
        refine reg_nowIf 0 (.agg (ints .u8 bb).toArray) (some 133) hQN hS (by kernel_rfl) (by kernel_rfl) (fun w' hw => exec_load_mid 33 (.tmp 14) (by kernel_rfl) Ya 0 (by kernel_rfl) (ints .u8 bb) _ (BYa2.out.below hw BYa2.out.lt).whole Try.underlying33 rfl IBB.out) ?_
        refine reg_nowIf 1 (.agg (ints .u8 bb).toArray) (some 134) hQN hS (by kernel_rfl) (by kernel_rfl) (fun w' hw => exec_load_mid 33 (.tmp 16) (by kernel_rfl) Yb 0 (by kernel_rfl) (ints .u8 bb) _ (BYb.out.below hw BYb.out.lt).whole Try.underlying33 rfl IBB.out) ?_
        refine reg_now 2 (.bool (!decide (bb = bb))) (some 135) hQN hS (by kernel_rfl) (by kernel_rfl) (fun w' => exec_neq w' (.tmp 133) (.tmp 134) 33 (by kernel_rfl) Try.underlying33 Try.underlying5 sizeByte' guardBlock bb bb HBB.out HBB.out (by kernel_rfl) (by kernel_rfl)) ?_
        rw [show (!decide (bb = bb)) = false by rw [decide_eq_true rfl]; rfl]
        refine reg_now 3 (.bool false) (some 136) hQN hS (by kernel_rfl) (by kernel_rfl) (fun w => by kernel_rfl) ?_
        refine reg_now 4 (.int .i64 ee) (some 137) hQN hS (by kernel_rfl) (by kernel_rfl) (fun w => by kernel_rfl) ?_
        refine reg_now 5 (.int .i64 ee) (some 138) hQN hS (by kernel_rfl) (by kernel_rfl) (fun w => by kernel_rfl) ?_
        refine reg_now 6 (.bool (ee != ee)) (some 139) hQN hS (by kernel_rfl) (by kernel_rfl) (fun w => by kernel_rfl) ?_
        rw [show (ee != ee) = false by simp]
        refine reg_now 7 (.bool false) (some 140) hQN hS (by kernel_rfl) (by kernel_rfl) (fun w => by kernel_rfl) ?_
        refine reg_now 8 (.bool false) (some 141) hQN hS (by kernel_rfl) (by kernel_rfl) (fun w => by kernel_rfl) ?_
        refine reg_now 9 (.pointer (some ⟨d, 0, none⟩)) (some 142) hQN hS (by kernel_rfl) (by kernel_rfl) (fun w => by kernel_rfl) ?_
        refine reg_now 11 (.pointer (some ⟨r, 0, none⟩)) (some 144) hQN hS (by kernel_rfl) (by kernel_rfl) (fun w => by kernel_rfl) ?_
        refine reg_now 12 (.pointer (some ⟨r, 0, none⟩)) (some 145) hQN hS (by kernel_rfl) (by kernel_rfl) (fun w => by kernel_rfl) ?_
        refine reg_now 13 (.pointer (some ⟨r, 1, none⟩)) (some 146) hQN hS (by kernel_rfl) (by kernel_rfl) (fun w => by kernel_rfl) ?_
        refine reg_nowIf 14 (.slice la pl lcp) (some 147) hQN hS (by kernel_rfl) (by kernel_rfl) (fun w' hw => exec_load_cell 45 (.tmp 146) (by kernel_rfl) r 1 (by kernel_rfl) _ ((hw.cell (p := ⟨r, 1, none⟩) HRL.out).trans hlc.out) _ Try.underlying45 rfl) ?_
        refine reg_now 15 (.int .i64 (pl : Int)) (some 148) hQN hS (by kernel_rfl) (by kernel_rfl) (fun w => by kernel_rfl) ?_
        refine reg_call 10 20 #[.pointer (some ⟨d, 0, none⟩)] (some 143) _ (by kernel_rfl) (by kernel_rfl) (by kernel_rfl) (HPC.out) ?_
        rintro e W8 ⟨rfl, rfl⟩
        refine ⟨_, rfl, hS, ?_⟩
        refine reg_now 16 (.bool ((pl : Int) != (pl : Int))) (some 149) hQN hS (by kernel_rfl) (by kernel_rfl) (fun w => by kernel_rfl) ?_
        rw [show ((pl : Int) != (pl : Int)) = false by simp]
        refine reg_now 17 (.bool false) (some 150) hQN hS (by kernel_rfl) (by kernel_rfl) (fun w => by kernel_rfl) ?_
        refine reg_now 18 (.bool false) (some 151) hQN hS (by kernel_rfl) (by kernel_rfl) (fun w => by kernel_rfl) ?_
        refine reg_now 19 (.pointer (some ⟨d, 0, none⟩)) (some 152) hQN hS (by kernel_rfl) (by kernel_rfl) (fun w => by kernel_rfl) ?_
        refine reg_now 21 (.int .i64 (sz : Int)) (some 154) hQN hS (by kernel_rfl) (by kernel_rfl) (fun w => by kernel_rfl) ?_
        refine reg_call 20 21 #[.pointer (some ⟨d, 0, none⟩)] (some 153) _ (by kernel_rfl) (by kernel_rfl) (by kernel_rfl) (size_walk d sz F _ S P l _ (PX17.out.dk.below (Below.refl _ _).drew)) ?_
        rintro e W8 ⟨rfl, rfl⟩
        refine ⟨_, rfl, hS, ?_⟩
        refine reg_now 22 (.bool ((sz : Int) != (sz : Int))) (some 155) hQN hS (by kernel_rfl) (by kernel_rfl) (fun w => by kernel_rfl) ?_
        rw [show ((sz : Int) != (sz : Int)) = false by simp]
        refine reg_now 23 (.bool false) (some 156) hQN hS (by kernel_rfl) (by kernel_rfl) (fun w => by kernel_rfl) ?_
        refine reg_now 24 (.bool false) (some 157) hQN hS (by kernel_rfl) (by kernel_rfl) (fun w => by kernel_rfl) ?_
        refine reg_now 25 (.pointer (some ⟨d, 0, none⟩)) (some 158) hQN hS (by kernel_rfl) (by kernel_rfl) (fun w => by kernel_rfl) ?_
        refine reg_now 27 (.pointer (some ⟨r, 0, none⟩)) (some 160) hQN hS (by kernel_rfl) (by kernel_rfl) (fun w => by kernel_rfl) ?_
        refine reg_call 26 22 #[.pointer (some ⟨d, 0, none⟩)] (some 159) _ (by kernel_rfl) (by kernel_rfl) (by kernel_rfl) (HIC.out) ?_
        rintro e W8 ⟨iv, rfl, hiv, hb8⟩
        have hS8 : Below V17.heap.size V17 W8 := hS.trans (hb8.mono (Nat.le_refl _))
        refine ⟨_, rfl, hS8, ?_⟩
        refine reg_call 28 23 #[.pointer (some ⟨r, 0, none⟩)] (some 161) _ (by kernel_rfl) (by kernel_rfl) (by kernel_rfl) (HRC.out W8 hS8) ?_
        rintro e W9 ⟨g, gc, gr, rfl, hg9, hbl9, hcap9, hb9⟩
        have hS9 : Below V17.heap.size V17 W9 := hS8.trans (hb9.mono hS8.size)
        refine ⟨_, rfl, hS9, ?_⟩
        refine reg_call 29 15 #[iv, .slice (some ⟨g, 0, none⟩) al.length gc] (some 162) _ (by kernel_rfl) (by kernel_rfl) (by kernel_rfl) (HSC.out _ _ W9 ((owns_bytes hiv).below hb9 (Nat.le_refl _)) (newb_in hbl9 hcap9)) ?_
        rintro e W10 ⟨rfl, n10, rfl⟩
        have hS10 : Below V17.heap.size V17 (W9.drewN n10) := hS9.trans ((below_drewN W9 n10).mono hS9.size)
        refine ⟨_, rfl, hS10, ?_⟩
        refine reg_now 30 (.bool false) (some 163) hQN hS10 (by kernel_rfl) (by kernel_rfl) (fun w => by kernel_rfl) ?_
        refine reg_now 31 (.bool false) (some 164) hQN hS10 (by kernel_rfl) (by kernel_rfl) (fun w => by kernel_rfl) ?_
        refine reg_done (by kernel_rfl) (hN _ _ ?_)
        have PZ : Hid (Pr F G d r sz S P l w _) := PX17.out.below hS10
        clear hQN hN hS hS8 hS9 hS10 hb8 hb9 hbl9 hiv HSC HRC HIC HPC PX17 hlc HRL BYa2 BYb
        generalize W9.drewN n10 = Z at *
        generalize hact : Act.put _ (some 164) _ = act
        simp only [Act.put, List.setIfInBounds_toArray, List.set_cons_succ, List.set_cons_zero] at hact
        subst hact
        go_wp2
        exact ⟨⟨k + 1, F, G, S, P, l, by omega, by go_num, HQL.out, HLL.out, PZ.out⟩, by simp [intOf]; omega⟩
      · have q1 : ¬ (k : Int) < (m : Int) := by omega
        go_wp2
        go_ret
        exact ⟨rfl, PK.out.st.below⟩
theorem calls_main (n at' : Int) (v : Value) (cs : List Cl) (w : World) (hv : CallsIn w v cs) :
    Calls Try.prog 3 #[.int .i64 n, v, .int .i64 at'] w fun e w' => e = .returned (.bool true) ∧ Below w.heap.size w w' := by
  by_cases h : n < 1 ∨ 32 < n
  · exact calls_out n at' v cs w hv h
  · obtain ⟨k, rfl⟩ := Int.eq_ofNat_of_zero_le (show 0 ≤ n by omega)
    exact calls_in k at' v cs w hv (by omega) (by omega)
end Go.Proofs.Ytpbilngjjlabiaa
