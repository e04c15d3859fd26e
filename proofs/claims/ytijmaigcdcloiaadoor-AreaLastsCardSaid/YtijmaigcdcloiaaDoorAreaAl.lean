/- The statements' first line, of layer 5: alive. -/
import Derived.Test.YtijmaigcdcloiaaDoorAreaI
namespace Go.Proofs.YtijmaigcdcloiaaDoor
open Go Go.RowKit
set_option maxRecDepth 100000

theorem calls_args {P : Program} {f : FuncId} {args args' : Array Value} {w : World} {R : Ending → World → Prop} (h : args = args') (hc : Calls P f args' w R) : Calls P f args w R := by rw [h]; exact hc
theorem one_bytes : ∀ zs ∈ ([[1]] : List (List Int)), isBytes zs := fun zs hz => by
  obtain rfl : zs = [1] := by simpa using hz
  unfold isBytes
  decide
theorem two_bytes : isBytes [2, 3] := by unfold isBytes; decide
theorem bytes_blk_off {F : List Nat} {w : World} {b n : Nat} {zs : List Int} (h : Blk w b 5 (ints .u8 zs)) (hn : zs.length = n) (hF : b ∉ F) : BytesOff F w (.slice (some ⟨b, 0, none⟩) n n) zs := by
  subst hn
  exact ⟨some ⟨b, 0, none⟩, zs.length, rfl, Nat.le_refl _, fun _ => ⟨b, 0, rfl, hF, h.lt, h.whole⟩⟩
theorem parts_row {F : List Nat} {w : World} {q : Nat} {v : Value} {zs : List Int} (hq : Blk w q 33 [v]) (hqF : q ∉ F) (hv : BytesOff F w v zs) (hn : NilOk v) (hl : zs.length ≤ 1000000) : PartsOff F w (.slice (some ⟨q, 0, none⟩) 1 1) [zs] := by
  refine ⟨some ⟨q, 0, none⟩, 1, [v], rfl, rfl, by simp, fun _ => ⟨q, 0, rfl, hqF, hq.lt, hq.whole⟩, fun k v' zs' h1 h2 => ?_⟩
  cases k with
  | zero =>
    obtain rfl := Option.some.inj h1
    obtain rfl := Option.some.inj h2
    exact ⟨hv, hn, by omega⟩
  | succ k => simp at h1
theorem parts_none_off (F : List Nat) (w : World) : PartsOff F w (.slice none 0 0) [] := ⟨none, 0, [], rfl, rfl, by simp, fun h => absurd h (by simp), fun k v zs h => by simp at h⟩
/-- Where no sector bears a generation, no area is valid. -/
theorem no_valid {sz f : Nat} {seen dur : List Int} {pend : List Wr} (h : Base sz seen dur pend 0) (hf : f + sz / 2 ≤ sz) : ¬ validP (secsP seen f (sz / 2)) (sz / 2) := fun hv => by
  have h4 := h.h4
  have h1 := hv.1.2.1.2.2.2.1.2.1
  unfold headB at h1
  rw [secsP_get f (by omega), Nat.add_zero] at h1
  have := (h.sms f (by omega)).gen (getB_length h.ls (by omega))
  omega
theorem no_cur {sz f : Nat} {seen dur : List Int} {pend : List Wr} (h : Base sz seen dur pend 0) : ¬ CurAt seen (sz / 2) f := fun hc => by
  have h4 := h.h4
  rcases hc with ⟨_, hv, _⟩ | ⟨_, hv, _⟩
  · exact no_valid h (by omega) hv
  · exact no_valid h (by omega) hv
theorem done_neg {T : Nat} : doneN (-1) T = T := rfl
theorem left_neg {T : Nat} : leftK (-1) T = -1 := rfl
theorem scan_n {sz first g nr tp m0 sure c : Nat} {seen dur : List Int} {pend : List Wr} {all : List (List Int)} (h : Inv sz first g seen dur pend all nr tp m0 sure c) : scanN (secsP seen first (sz / 2)) nr = 1 + cntK all nr := by
  have hhalf := h.half
  have hth := h.th
  have ht1 := h.t1
  have hg := h.g2
  have hbig := h.big
  exact (scan_ok (L := secsP seen first (sz / 2)) (g := g) (half := sz / 2) (secsP_length h.ls hhalf) h.g1 (by omega) (by omega) h.sh h.nrl (by omega) (fun q hq => by rw [secsP_get first (by omega), ← Nat.add_assoc]; exact h.T3 q (by omega)) nr (Nat.le_refl _)).1
set_option maxHeartbeats 2000000 in
theorem aralive_walk (w : World) (hK : KW w) : Calls Tryd.prog 5 #[] w fun e w' => e = .returned (.bool true) ∧ Below w.heap.size w w' := by
  have HK := Lib.hid hK
  obtain ⟨B, hB⟩ : ∃ B, Hid (w.heap.size = B) := ⟨_, rfl⟩
  have KB : Hid (0 < B) := by unfold Hid; rw [← hB.out]; exact hK.lt
  rw [hB.out]
  have BN : Hid (Base 12 (zeros (64 * 12)) (zeros (64 * 12)) [] 0) := base_new (by omega) (by omega)
  clear hK
  go_enter Tryd.func5, Tryd.ntmps5
  go_wp2_with fail
  refine calls_args (args' := #[.int .i64 ((12 : Nat) : Int)]) (by kernel_rfl) ?_
  refine (new_yes 12 (by omega) (by omega) _).mono ?_
  rintro e w1 ⟨d, F, rfl, hd1, hs1⟩
  have D1 := Lib.hid hd1
  have S1 := Lib.hid hs1
  have FG : Hid (∀ k ∈ F, B ≤ k) := fun k hk => by rcases hs1.fresh k hk with h | h; simp at h; rw [← hB.out]; exact h
  have B1 : Hid (Below B w w1) := by unfold Hid; rw [← hB.out]; exact hs1.below
  have K1 : Hid (KW w1) := HK.out.below B1.out KB.out
  obtain ⟨zz, hzz⟩ : ∃ zz, Hid (zeros (64 * 12) = zz) := ⟨_, rfl⟩
  rw [hzz.out] at D1 BN
  have KF : Hid (0 ∉ F) := fun h => by have := FG.out _ h; have := KB.out; omega
  clear hd1 hs1 S1
  go_wp2_with fail
  refine (open_walk d 12 F zz zz [] (-1) _ D1.out BN.out.bs (by omega) K1.out).mono ?_
  intro e w2 hp
  obtain ⟨rfl, hb2⟩ : e = .returned (.tuple #[.pointer none, .int .i64 12]) ∧ Below w1.heap.size w1 w2 := by
    rcases hp with ⟨ab, _, f, A, hc, _⟩ | ⟨h1, _, h2⟩
    · exact absurd hc (no_cur BN.out)
    · exact ⟨h1, h2⟩
  have D2 := Lib.hid (D1.out.below hb2)
  have B2 : Hid (Below B w w2) := B1.out.trans (hb2.mono (by have := B1.out.size; have := hB.out; omega))
  have K2 : Hid (KW w2) := HK.out.below B2.out KB.out
  obtain ⟨q1, hq1⟩ : ∃ q, Hid (w2.heap.size = q) := ⟨_, rfl⟩
  clear hp hb2 D1 B1 K1
  go_upto_region 5 with (fail)
  refine lin_begin (opsOf Tryd.f5 5) (by kernel_rfl) ?_
  refine lin_now 0 (.pointer (some ⟨d, 0, none⟩)) (some 29) (by kernel_rfl) (by kernel_rfl) (by kernel_rfl) ?_
  refine lin_newrow 1 5 (ints .u8 [1]) q1 1 (some 30) (by kernel_rfl) (by kernel_rfl) hq1 (by kernel_rfl) ?_
  intro w3 b3 be3 hs3
  refine lin_newrow 2 33 [.slice (some ⟨q1, 0, none⟩) 1 1] (q1 + 1) 1 (some 31) (by kernel_rfl) (by kernel_rfl) hs3 (exec_of (Instr.buildSlice 32 1 #[(0, .slice (some ⟨q1, 0, none⟩) 1 1)]) _ (by kernel_rfl) (run_build_row _ _ _ _)) ?_
  intro w4 b4 be4 hs4
  have be3' : Below w2.heap.size w2 w3 := by rw [hq1.out]; exact be3
  have be4' : Below w3.heap.size w3 w4 := by rw [hs3.out]; exact be4
  have B24 : Below w2.heap.size w2 w4 := be3'.trans (be4'.mono be3'.size)
  have D4 := D2.out.below B24
  have FL := D2.out.lt
  have Q1F : q1 ∉ F := fun h => by have := FL q1 h; have := hq1.out; omega
  have Q2F : q1 + 1 ∉ F := fun h => by have := FL _ h; have := hq1.out; omega
  have P4 : PartsOff F w4 (.slice (some ⟨q1 + 1, 0, none⟩) 1 1) [[1]] := parts_row b4 Q2F (bytes_blk_off (b3.below be4' b3.lt) rfl Q1F) trivial (by decide)
  have K4 : KW w4 := K2.out.below B24 K2.out.lt
  refine lin_call 3 8 #[.pointer (some ⟨d, 0, none⟩), .slice (some ⟨q1 + 1, 0, none⟩) 1 1] (some 32) _ (by kernel_rfl) (by kernel_rfl) (by kernel_rfl) (begin_walk d 12 F zz zz [] (-1) _ [[1]] _ [] (fun k hk => by simp at hk) D4 (by omega) BN.out.bs P4 (by decide) (by decide) K4 KF.out (by omega) (by decide)) ?_
  intro e w5 hp
  have hgen : (highK zz 12).toNat + 1 = 1 := by have := BN.out.high; omega
  rw [hgen] at hp
  have hT : cntK [[1]] ([[1]] : List (List Int)).length = 1 := by decide
  obtain ⟨ab, A, F5, rfl, har, hdk, hst⟩ : ∃ ab A F5, e = .returned (.tuple #[.pointer (some ⟨ab, 0, none⟩), .int .i64 0]) ∧ Ar w5 A F5 ab d 0 6 1 2 false [[1]] ∧ (∃ seen dur, Dk w5 F5 d 12 seen dur [] (-1) ∧ Inv 12 0 1 seen dur [] [[1]] 1 1 1 1 1) ∧ Step F w4 (A ++ F5) w5 := by
    rcases hp with ⟨h1, _⟩ | ⟨_, _, f, hfr, h1⟩
    · rw [hT] at h1; omega
    · rw [hT] at h1
      have hf0 : f = 0 := by
        rcases hfr with ⟨h2, _⟩ | ⟨_, h2⟩
        · exact absurd h2 (no_cur BN.out)
        · exact h2
      subst hf0
      rcases h1 with ⟨h2, _⟩ | ⟨_, h2, _⟩ | ⟨_, _, ab, h2, A, F5, h3, h4, h5⟩
      · rw [done_neg] at h2; omega
      · rw [left_neg] at h2; omega
      · refine ⟨ab, A, F5, h2, h3, ⟨_, _, h4, ?_⟩, h5⟩
        exact inv_begun BN.out (by omega) (.inl rfl) (by decide) one_bytes hgen hT (by decide)
  obtain ⟨seen, dur, hd5, hin⟩ := hdk
  refine ⟨_, rfl, ?_⟩
  refine lin_now 4 (.tuple #[.pointer (some ⟨ab, 0, none⟩), .int .i64 0]) (some 28) (by kernel_rfl) (by kernel_rfl) (by kernel_rfl) ?_
  refine lin_now 5 (.pointer (some ⟨ab, 0, none⟩)) (some 33) (by kernel_rfl) (by kernel_rfl) (by kernel_rfl) ?_
  refine lin_now 6 (.int .i64 0) (some 34) (by kernel_rfl) (by kernel_rfl) (by kernel_rfl) ?_
  refine lin_now 7 (.pointer (some ⟨ab, 0, none⟩)) (some 5) (by kernel_rfl) (by kernel_rfl) (by kernel_rfl) ?_
  refine lin_now 8 (.int .i64 0) (some 6) (by kernel_rfl) (by kernel_rfl) (by kernel_rfl) ?_
  refine lin_done 9 (by kernel_rfl) ?_
  have A5 := Lib.hid har
  have D5 := Lib.hid hd5
  have I5 := Lib.hid hin
  have MG : Hid (∀ k ∈ A ++ F5, B ≤ k) := hst.ge FG.out (by have := B2.out.size; have := B24.size; have := hB.out; omega)
  have B5 : Hid (Below B w w5) := hst.blow FG.out (by have := B2.out.size; have := B24.size; have := hB.out; omega) (B2.out.trans (B24.mono (by have := B2.out.size; have := hB.out; omega)))
  have K5 : Hid (KW w5) := HK.out.below B5.out KB.out
  obtain ⟨q3, hq3⟩ : ∃ q, Hid (w5.heap.size = q) := ⟨_, rfl⟩
  clear hp hgen hT har hd5 hin hst P4 K4 D4 B24 be3' be4' b3 b4 be3 be4 hs3 hs4 FL Q1F Q2F D2 B2 K2 BN hq1
  generalize hact : Act.put _ (some 6) _ = act
  simp only [Act.put, List.setIfInBounds_toArray, List.set_cons_succ, List.set_cons_zero] at hact
  subst hact
  go_upto_region 8 with (fail)
  refine lin_begin (opsOf Tryd.f5 8) (by kernel_rfl) ?_
  refine lin_now 0 (.pointer (some ⟨ab, 0, none⟩)) (some 41) (by kernel_rfl) (by kernel_rfl) (by kernel_rfl) ?_
  refine lin_newrow 1 5 (ints .u8 [2, 3]) q3 2 (some 42) (by kernel_rfl) (by kernel_rfl) hq3 (by kernel_rfl) ?_
  intro w6 b6 be6 hs6
  have be6' : Below w5.heap.size w5 w6 := by rw [hq3.out]; exact be6
  have A6 := A5.out.below be6'
  have D6 := D5.out.below be6'
  have Q3F : q3 ∉ A ++ F5 := fun h => by
    rcases List.mem_append.1 h with h | h
    · have := A5.out.lt _ h; have := hq3.out; omega
    · have := D5.out.lt _ h; have := hq3.out; omega
  refine lin_call 2 9 #[.pointer (some ⟨ab, 0, none⟩), .slice (some ⟨q3, 0, none⟩) 2 2] (some 43) _ (by kernel_rfl) (by kernel_rfl) (by kernel_rfl) (add_ok [] A6 (fun k hk => by simp at hk) _ [2, 3] (bytes_blk_off b6 rfl Q3F) trivial (K5.out.below be6' K5.out.lt) (by decide) (by omega) (by omega) (by omega) (by omega) (by decide) 12 seen dur [] (-1) D6 (by omega) (by omega) (by decide) rfl (by decide)) ?_
  rintro e w7 ⟨rfl, A7, F7, ha7, hd7, hs7⟩
  refine ⟨_, rfl, ?_⟩
  refine lin_now 3 (.int .i64 0) (some 7) (by kernel_rfl) (by kernel_rfl) (by kernel_rfl) ?_
  refine lin_done 4 (by kernel_rfl) ?_
  have I7 := Lib.hid (I5.out.add (rec := [2, 3]) (j := 1) (nr' := 2) (by decide) two_bytes (by decide) (by decide) (.inl ⟨by decide, rfl⟩))
  have SZ5 : B ≤ w6.heap.size := by have := B5.out.size; have := be6'.size; have := hB.out; omega
  have B6 : Below B w w6 := B5.out.trans (be6'.mono (by have := B5.out.size; have := hB.out; omega))
  have MG7 : Hid (∀ k ∈ A7 ++ F7, B ≤ k) := hs7.ge MG.out SZ5
  have B7 : Hid (Below B w w7) := hs7.blow MG.out SZ5 B6
  have A77 := Lib.hid ha7
  have D7 := Lib.hid hd7
  clear ha7 hd7 hs7 A6 D6 Q3F b6 be6 be6' hs6 SZ5 B6 A5 D5 I5 MG B5 K5 hq3
  have hn1 : needN ([2, 3] : List Int).length = 1 := rfl
  rw [hn1] at D7 A77
  have hcn : cntK [[1]] ([[1]] : List (List Int)).length = 1 := by decide
  rw [hcn] at I7
  obtain ⟨seen7, hs7⟩ : ∃ s, Hid (putsK seen (0 + 2) (packF 1 2 [2, 3]) 1 = s) := ⟨_, rfl⟩
  obtain ⟨pend7, hp7⟩ : ∃ s : List Wr, Hid (([] : List Wr) ++ wrsAt (0 + 2) (packF 1 2 [2, 3]) 1 = s) := ⟨_, rfl⟩
  rw [hs7.out, hp7.out] at D7
  have I77 : Hid (Inv 12 0 1 seen7 dur pend7 [[1], [2, 3]] 2 2 1 1 1) := by
    unfold Hid
    rw [← hs7.out, ← hp7.out]
    exact I7.out
  rw [show leftK (-1) 1 = -1 from rfl] at D7
  clear hn1 hcn I7
  generalize hact : Act.put _ (some 7) _ = act
  simp only [Act.put, List.setIfInBounds_toArray, List.set_cons_succ, List.set_cons_zero] at hact
  subst hact
  have hpl : pend7.length ≤ 1000 := by rw [← hp7.out]; decide
  go_wp2_with fail
  refine (arflush_walk A77.out D7.out (by omega)).mono ?_
  rintro e w8 ⟨rfl, F8, hd8, hs8⟩
  rw [← I77.out.eq] at hd8
  have I8 := Lib.hid I77.out.flushed
  have A8 := Lib.hid (A77.out.disk hs8)
  have D8 := Lib.hid hd8
  have MG8 : Hid (∀ k ∈ A7 ++ F8, B ≤ k) := (hs8.left (A := A7)).ge MG7.out (by have := B7.out.size; have := hB.out; omega)
  have B8 : Hid (Below B w w8) := (hs8.left (A := A7)).blow MG7.out (by have := B7.out.size; have := hB.out; omega) B7.out
  have K8 : Hid (KW w8) := HK.out.below B8.out KB.out
  clear hd8 hs8 A77 D7 I77 MG7 B7 hs7 hp7 hpl
  go_wp2_with fail
  refine (open_walk d 12 F8 seen7 seen7 [] (-1) _ D8.out I8.out.bs (by omega) K8.out).mono ?_
  intro e w9 hp
  obtain ⟨bb, A9, rfl, hb9, hst9⟩ : ∃ bb A9, e = .returned (.tuple #[.pointer (some ⟨bb, 0, none⟩), .int .i64 0]) ∧ Ar w9 A9 F8 bb d 0 6 1 3 true [[1], [2, 3]] ∧ Step [] w8 A9 w9 := by
    have ho := I8.out.now
    rcases hp with ⟨bb, h1, f, A9, hc, ⟨_, K, h2, _, h3⟩, h4⟩ | ⟨_, ⟨h1, h2⟩, _⟩
    · obtain rfl := ho.cur.unique hc (by omega)
      rw [ho.gen] at h2 h3
      obtain rfl := ho.st.unique h2
      refine ⟨bb, A9, h1, ?_, h4⟩
      rw [ho.rs] at h3
      have hn := (scan_n I8.out)
      rw [hn] at h3
      exact h3
    · rcases ho.cur with ⟨_, h, _⟩ | ⟨_, h, _⟩
      · exact absurd h h1
      · exact absurd h h2
  have BB9 : Below w8.heap.size w8 w9 := hst9.below
  have A9' := Lib.hid (A8.out.below BB9)
  have AB := Lib.hid hb9
  have B9 : Hid (Below B w w9) := B8.out.trans (BB9.mono (by have := B8.out.size; have := hB.out; omega))
  have K9 : Hid (KW w9) := HK.out.below B9.out KB.out
  obtain ⟨q4, hq4⟩ : ∃ q, Hid (w9.heap.size = q) := ⟨_, rfl⟩
  have D9 := Lib.hid (D8.out.below BB9)
  clear hp hb9 hst9 BB9 A8 D8 B8 K8 MG8 I8
  go_upto_region 13 with (fail)
  refine lin_begin (opsOf Tryd.f5 13) (by kernel_rfl) ?_
  refine lin_now 0 (.pointer (some ⟨bb, 0, none⟩)) (some 57) (by kernel_rfl) (by kernel_rfl) (by kernel_rfl) ?_
  refine lin_newrow 1 5 (ints .u8 [4]) q4 1 (some 58) (by kernel_rfl) (by kernel_rfl) hq4 (by kernel_rfl) ?_
  intro w10 b10 be10 hs10
  have be10' : Below w9.heap.size w9 w10 := by rw [hq4.out]; exact be10
  have Q4F : q4 ∉ A9 ++ F8 := fun h => by
    rcases List.mem_append.1 h with h | h
    · have := AB.out.lt _ h; have := hq4.out; omega
    · have := D9.out.lt _ h; have := hq4.out; omega
  refine lin_call 2 9 #[.pointer (some ⟨bb, 0, none⟩), .slice (some ⟨q4, 0, none⟩) 1 1] (some 59) _ (by kernel_rfl) (by kernel_rfl) (by kernel_rfl) (add_full (AB.out.below be10') _ [4] (bytes_blk_off b10 rfl Q4F) trivial (K9.out.below be10' K9.out.lt) (by decide) (by omega) (by omega) (by omega) (by omega) (.inl rfl)) ?_
  rintro e w11 ⟨rfl, hb11⟩
  refine ⟨_, rfl, ?_⟩
  refine lin_now 3 (.int .i64 15) (some 11) (by kernel_rfl) (by kernel_rfl) (by kernel_rfl) ?_
  refine lin_done 4 (by kernel_rfl) ?_
  have BB11 : Below w9.heap.size w9 w11 := be10'.trans (hb11.mono be10'.size)
  have A11 := Lib.hid (A9'.out.below BB11)
  have AB11 := Lib.hid (AB.out.below BB11)
  have B11 : Hid (Below B w w11) := B9.out.trans (BB11.mono (by have := B9.out.size; have := hB.out; omega))
  clear hb11 be10 be10' b10 hs10 Q4F BB11 A9' AB B9 K9 D9 hq4
  generalize hact : Act.put _ (some 11) _ = act
  simp only [Act.put, List.setIfInBounds_toArray, List.set_cons_succ, List.set_cons_zero] at hact
  subst hact
  go_wp2_with fail
  refine (records_walk AB11.out (by decide)).mono ?_
  rintro e w12 ⟨lv, rfl, ⟨q, vs, rfl, -, hvl, hvb, -, hvs⟩, hb12⟩
  have A12 := Lib.hid (A11.out.below hb12)
  have AB12 := Lib.hid (AB11.out.below hb12)
  have B12 : Hid (Below B w w12) := B11.out.trans (hb12.mono (by have := B11.out.size; have := hB.out; omega))
  obtain ⟨v1, hv1⟩ : ∃ v, vs[1]? = some v := ⟨_, List.getElem?_eq_getElem (by rw [hvl]; decide)⟩
  have VB := Lib.hid hvb
  have C1 : Hid (w12.cell? ⟨q, 0 + 1, none⟩ = some v1) := by unfold Hid; exact hvb.cell hv1
  have V1 : Hid (BytesIn w12 v1 [2, 3]) := ((hvs 1 v1 [2, 3] hv1 rfl).1 [] (fun k hk => by simp at hk)).in
  obtain ⟨va, vc, ev, -⟩ := id V1.out
  subst ev
  clear hb12 hvs hvl hvb A11 AB11 B11 hv1
  go_upto_region 15 with (fail)
  refine lin_begin (opsOf Tryd.f5 15) (by kernel_rfl) ?_
  refine lin_now 0 (.int .i64 12) (some 62) (by kernel_rfl) (by kernel_rfl) (by kernel_rfl) ?_
  refine lin_now 1 (.bool true) (some 63) (by kernel_rfl) (by kernel_rfl) (by kernel_rfl) ?_
  refine lin_now 2 (.bool true) (some 64) (by kernel_rfl) (by kernel_rfl) (by kernel_rfl) ?_
  refine lin_now 3 (.int .i64 0) (some 65) (by kernel_rfl) (by kernel_rfl) (by kernel_rfl) ?_
  refine lin_now 4 (.bool true) (some 66) (by kernel_rfl) (by kernel_rfl) (by kernel_rfl) ?_
  refine lin_now 5 (.bool true) (some 67) (by kernel_rfl) (by kernel_rfl) (by kernel_rfl) ?_
  refine lin_now 6 (.bool true) (some 68) (by kernel_rfl) (by kernel_rfl) (by kernel_rfl) ?_
  refine lin_now 7 (.int .i64 0) (some 69) (by kernel_rfl) (by kernel_rfl) (by kernel_rfl) ?_
  refine lin_now 8 (.bool true) (some 70) (by kernel_rfl) (by kernel_rfl) (by kernel_rfl) ?_
  refine lin_now 9 (.bool true) (some 71) (by kernel_rfl) (by kernel_rfl) (by kernel_rfl) ?_
  refine lin_now 10 (.bool true) (some 72) (by kernel_rfl) (by kernel_rfl) (by kernel_rfl) ?_
  refine lin_now 11 (.int .i64 15) (some 73) (by kernel_rfl) (by kernel_rfl) (by kernel_rfl) ?_
  refine lin_now 12 (.bool true) (some 74) (by kernel_rfl) (by kernel_rfl) (by kernel_rfl) ?_
  refine lin_now 13 (.bool true) (some 75) (by kernel_rfl) (by kernel_rfl) (by kernel_rfl) ?_
  refine lin_now 14 (.bool true) (some 76) (by kernel_rfl) (by kernel_rfl) (by kernel_rfl) ?_
  refine lin_now 15 (.pointer (some ⟨bb, 0, none⟩)) (some 77) (by kernel_rfl) (by kernel_rfl) (by kernel_rfl) ?_
  refine lin_call 16 21 #[.pointer (some ⟨bb, 0, none⟩)] (some 78) _ (by kernel_rfl) (by kernel_rfl) (by kernel_rfl) (arstuck_walk AB12.out) ?_
  rintro e w13 ⟨rfl, rfl⟩
  refine ⟨_, rfl, ?_⟩
  refine lin_now 17 (.bool true) (some 79) (by kernel_rfl) (by kernel_rfl) (by kernel_rfl) ?_
  refine lin_now 18 (.bool true) (some 80) (by kernel_rfl) (by kernel_rfl) (by kernel_rfl) ?_
  refine lin_now 19 (.pointer (some ⟨ab, 0, none⟩)) (some 81) (by kernel_rfl) (by kernel_rfl) (by kernel_rfl) ?_
  refine lin_call 20 21 #[.pointer (some ⟨ab, 0, none⟩)] (some 82) _ (by kernel_rfl) (by kernel_rfl) (by kernel_rfl) (arstuck_walk A12.out) ?_
  rintro e w14 ⟨rfl, rfl⟩
  refine ⟨_, rfl, ?_⟩
  refine lin_now 21 (.bool true) (some 83) (by kernel_rfl) (by kernel_rfl) (by kernel_rfl) ?_
  refine lin_now 22 (.bool true) (some 84) (by kernel_rfl) (by kernel_rfl) (by kernel_rfl) ?_
  refine lin_now 23 (.bool true) (some 85) (by kernel_rfl) (by kernel_rfl) (by kernel_rfl) ?_
  refine lin_now 24 (.slice (some ⟨q, 0, none⟩) 2 2) (some 86) (by kernel_rfl) (by kernel_rfl) (by kernel_rfl) ?_
  refine lin_now 25 (.int .i64 2) (some 87) (by kernel_rfl) (by kernel_rfl) (by kernel_rfl) ?_
  refine lin_now 26 (.bool true) (some 88) (by kernel_rfl) (by kernel_rfl) (by kernel_rfl) ?_
  refine lin_now 27 (.bool true) (some 89) (by kernel_rfl) (by kernel_rfl) (by kernel_rfl) ?_
  refine lin_now 28 (.bool true) (some 90) (by kernel_rfl) (by kernel_rfl) (by kernel_rfl) ?_
  refine lin_now 29 (.slice (some ⟨q, 0, none⟩) 2 2) (some 91) (by kernel_rfl) (by kernel_rfl) (by kernel_rfl) ?_
  refine lin_now 30 (.pointer (some ⟨q, 0 + 1, none⟩)) (some 92) (by kernel_rfl) (by kernel_rfl) (exec_indexAt 32 (.tmp 91) (.const (.int .i64 1)) (by kernel_rfl) _ _ _ (by kernel_rfl) (by kernel_rfl) (run_at_part q 0 2 2 1 (by omega) _)) ?_
  refine lin_now 31 (.slice va 2 vc) (some 93) (by kernel_rfl) (by kernel_rfl) (exec_load_cell 33 (.tmp 92) (by kernel_rfl) q (0 + 1) (by kernel_rfl) _ C1.out _ Tryd.underlying33 rfl) ?_
  obtain ⟨q5, hq5⟩ : ∃ q, Hid (w12.heap.size = q) := ⟨_, rfl⟩
  refine lin_newrow 32 5 (ints .u8 [2, 3]) q5 2 (some 94) (by kernel_rfl) (by kernel_rfl) hq5 (by kernel_rfl) ?_
  intro w15 b15 be15 hs15
  have be15' : Below w12.heap.size w12 w15 := by rw [hq5.out]; exact be15
  refine lin_call 33 22 #[.slice va 2 vc, .slice (some ⟨q5, 0, none⟩) 2 2] (some 95) _ (by kernel_rfl) (by kernel_rfl) (by kernel_rfl) (sameb_walk _ _ [2, 3] [2, 3] _ (V1.out.below be15' (Nat.le_refl _)) (bytes_blk b15 rfl) (by decide)) ?_
  rintro e w16 ⟨rfl, nd, rfl⟩
  refine ⟨_, rfl, ?_⟩
  rw [show decide (([2, 3] : List Int) = [2, 3]) = true from rfl]
  have BB := be15'.trans ((below_drewN w15 nd).mono be15'.size)
  have A16 := A12.out.below BB
  have AB16 := AB12.out.below BB
  refine lin_now 34 (.bool true) (some 96) (by kernel_rfl) (by kernel_rfl) (by kernel_rfl) ?_
  refine lin_now 35 (.bool true) (some 97) (by kernel_rfl) (by kernel_rfl) (by kernel_rfl) ?_
  refine lin_now 36 (.pointer (some ⟨ab, 0, none⟩)) (some 98) (by kernel_rfl) (by kernel_rfl) (by kernel_rfl) ?_
  refine lin_call 37 19 #[.pointer (some ⟨ab, 0, none⟩)] (some 99) _ (by kernel_rfl) (by kernel_rfl) (by kernel_rfl) (arfree_walk A16 (by omega) (by omega)) ?_
  rintro e w17 ⟨rfl, nd2, rfl⟩
  refine ⟨_, rfl, ?_⟩
  have BB2 := below_drewN (w15.drewN nd) nd2
  have A17 := A16.below BB2
  have AB17 := AB16.below BB2
  refine lin_now 38 (.bool true) (some 100) (by kernel_rfl) (by kernel_rfl) (by kernel_rfl) ?_
  refine lin_now 39 (.bool true) (some 101) (by kernel_rfl) (by kernel_rfl) (by kernel_rfl) ?_
  refine lin_now 40 (.bool true) (some 102) (by kernel_rfl) (by kernel_rfl) (by kernel_rfl) ?_
  refine lin_now 41 (.pointer (some ⟨ab, 0, none⟩)) (some 103) (by kernel_rfl) (by kernel_rfl) (by kernel_rfl) ?_
  refine lin_call 42 23 #[.pointer (some ⟨ab, 0, none⟩)] (some 104) _ (by kernel_rfl) (by kernel_rfl) (by kernel_rfl) (argen_walk A17) ?_
  rintro e w18 ⟨rfl, rfl⟩
  refine ⟨_, rfl, ?_⟩
  refine lin_now 43 (.bool true) (some 105) (by kernel_rfl) (by kernel_rfl) (by kernel_rfl) ?_
  refine lin_now 44 (.bool true) (some 106) (by kernel_rfl) (by kernel_rfl) (by kernel_rfl) ?_
  refine lin_now 45 (.bool true) (some 107) (by kernel_rfl) (by kernel_rfl) (by kernel_rfl) ?_
  refine lin_now 46 (.pointer (some ⟨ab, 0, none⟩)) (some 108) (by kernel_rfl) (by kernel_rfl) (by kernel_rfl) ?_
  refine lin_call 47 24 #[.pointer (some ⟨ab, 0, none⟩)] (some 109) _ (by kernel_rfl) (by kernel_rfl) (by kernel_rfl) (arfirst_walk A17) ?_
  rintro e w19 ⟨rfl, rfl⟩
  refine ⟨_, rfl, ?_⟩
  refine lin_now 48 (.bool true) (some 110) (by kernel_rfl) (by kernel_rfl) (by kernel_rfl) ?_
  refine lin_now 49 (.bool true) (some 111) (by kernel_rfl) (by kernel_rfl) (by kernel_rfl) ?_
  refine lin_now 50 (.bool true) (some 112) (by kernel_rfl) (by kernel_rfl) (by kernel_rfl) ?_
  refine lin_now 51 (.pointer (some ⟨bb, 0, none⟩)) (some 113) (by kernel_rfl) (by kernel_rfl) (by kernel_rfl) ?_
  refine lin_call 52 23 #[.pointer (some ⟨bb, 0, none⟩)] (some 114) _ (by kernel_rfl) (by kernel_rfl) (by kernel_rfl) (argen_walk AB17) ?_
  rintro e w20 ⟨rfl, rfl⟩
  refine ⟨_, rfl, ?_⟩
  refine lin_now 53 (.bool true) (some 115) (by kernel_rfl) (by kernel_rfl) (by kernel_rfl) ?_
  refine lin_now 54 (.bool true) (some 116) (by kernel_rfl) (by kernel_rfl) (by kernel_rfl) ?_
  refine lin_now 55 (.bool true) (some 0) (by kernel_rfl) (by kernel_rfl) (by kernel_rfl) ?_
  refine lin_done 56 (by kernel_rfl) ?_
  have BF : Hid (Below B w ((w15.drewN nd).drewN nd2)) := B12.out.trans ((BB.trans (BB2.mono BB.size)).mono (by have := B12.out.size; have := hB.out; omega))
  clear BB BB2 A16 AB16 A17 AB17 be15 be15' b15 hs15 hq5 A12 AB12 B12 VB C1 V1
  generalize (w15.drewN nd).drewN nd2 = W at *
  generalize hact : Act.put _ (some 0) _ = act
  simp only [Act.put, List.setIfInBounds_toArray, List.set_cons_succ, List.set_cons_zero] at hact
  subst hact
  go_wp2
  go_ret
  exact ⟨rfl, BF.out⟩
theorem NewRows.slice {B : Nat} {w : World} {v : Value} {zss : List (List Int)} (h : NewRows B w v zss) : ∃ q, v = .slice (some ⟨q, 0, none⟩) zss.length zss.length := by
  obtain ⟨q, vs, h1, _⟩ := h
  exact ⟨q, h1⟩
/-- A begun area on a new disk. -/
theorem begun_new {d n : Nat} {F : List Nat} {w w' : World} {e : Ending} {zss : List (List Int)} (h4 : 4 ≤ n) (hb : n ≤ 4096) (sh : ∀ zs ∈ zss, zs.length ≤ 2000) (by' : ∀ zs ∈ zss, isBytes zs) (hT : cntK zss zss.length ≤ n / 2 - 1)
    (hp : BeginPost [] F d n (zeros (64 * n)) (zeros (64 * n)) [] (-1) ((highK (zeros (64 * n)) n).toNat + 1) zss w e w') :
    ∃ ab, e = .returned (.tuple #[.pointer (some ⟨ab, 0, none⟩), .int .i64 0]) ∧ ∃ A F' seen dur, Ar w' A F' ab d 0 (n / 2) 1 (1 + cntK zss zss.length) false zss ∧ Dk w' F' d n seen dur [] (-1) ∧ Inv n 0 1 seen dur [] zss zss.length (cntK zss zss.length) zss.length zss.length 1 ∧ Step F w (A ++ F') w' := by
  have BN := base_new h4 hb
  have hgen : (highK (zeros (64 * n)) n).toNat + 1 = 1 := by have := BN.high; omega
  rw [hgen] at hp
  rcases hp with ⟨h1, _⟩ | ⟨_, _, f, hfr, h1⟩
  · omega
  · have hf0 : f = 0 := by
      rcases hfr with ⟨h2, _⟩ | ⟨_, h2⟩
      · exact absurd h2 (no_cur BN)
      · exact h2
    subst hf0
    rcases h1 with ⟨h2, _⟩ | ⟨_, h2, _⟩ | ⟨_, _, ab, h2, A, F5, h3, h5, h6⟩
    · rw [done_neg] at h2; omega
    · rw [left_neg] at h2; omega
    · exact ⟨ab, h2, A, F5, _, _, h3, h5, inv_begun BN (by omega) (.inl rfl) sh by' hgen rfl hT, h6⟩
end Go.Proofs.YtijmaigcdcloiaaDoor
