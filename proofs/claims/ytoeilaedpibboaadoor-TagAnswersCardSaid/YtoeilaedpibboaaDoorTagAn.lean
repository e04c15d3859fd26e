/- The law TagAnswers. -/
import Derived.Test.YtoeilaedpibboaaDoorTagHa
import Derived.Test.YtoeilaedpibboaaDoorTagDgO
namespace Go.Proofs.YtoeilaedpibboaaDoor
open Go Go.RowKit
set_option maxRecDepth 100000

theorem exec_eqlbD {P : Program} {a : Act} {w : World} {op : Oper} (t t2 : TypeId) (x y : Operand) (ho : op.op = .binOp .eql t x y t2) (ht : P.underlying t = some .bool) (b : Bool) (ex : a.eval x = .bool b) (ey : a.eval y = .bool b) (hg : ∀ w, (eqGuard .eql t x y (.bool b) (.bool b)).run P w = .ok () w) : (execOp a.eval op).run P w = .ok (.value (.bool true)) w := by
  unfold execOp
  simp only [ho, ex, ey, Sem.run_bind, hg, Result.andThen_ok, run_eql_bool w t b b ht, beq_self_eq_true]
  rfl
theorem exec_sSame {P : Program} {a : Act} {w : World} {op : Oper} (t t2 : TypeId) (x y : Operand) (ho : op.op = .binOp .eql t x y t2) (s : ByteArray) (ex : a.eval x = .string s) (ey : a.eval y = .string s) (hg : ∀ w, (eqGuard .eql t x y (.string s) (.string s)).run P w = .ok () w) : (execOp a.eval op).run P w = .ok (.value (.bool true)) w := by
  have h : (binOp .eql t (.string s) (.string s)).run P w = .ok (.bool true) w := by
    rw [binOp_string_eql, beq_self_eq_true]
    rfl
  unfold execOp
  simp only [ho, ex, ey, Sem.run_bind, hg, Result.andThen_ok, h]
  rfl
structure Tq (a b : List Int) (q G : Nat) (v : Value) (ds : List (List Int)) (w wr : World) : Prop where
  fa : Blk wr q 24 (ints .u8 a)
  fb : Blk wr (q + 1) 24 (ints .u8 b)
  ow : OwnD wr G v ds
  bel : Below q w wr
theorem Tq.le {a b : List Int} {q G : Nat} {v : Value} {ds : List (List Int)} {w wr : World} (h : Tq a b q G v ds w wr) : q ≤ wr.heap.size := Nat.le_of_lt h.fa.lt
theorem Tq.next {a b : List Int} {q G : Nat} {v : Value} {ds : List (List Int)} {w w1 w2 : World} (h : Tq a b q G v ds w w1) (hb : Below w1.heap.size w1 w2) : Tq a b q G v ds w w2 :=
  ⟨h.fa.below hb h.fa.lt, h.fb.below hb h.fb.lt, h.ow.below hb, h.bel.trans (hb.mono h.le)⟩
structure Tx (a b r : List Int) (q G X Y : Nat) (v : Value) (ds : List (List Int)) (w wr : World) : Prop where
  tq : Tq a b q G v ds w wr
  fx : Blk wr X 24 (ints .u8 r)
  fy : Blk wr Y 24 (ints .u8 r)
theorem Tx.next {a b r : List Int} {q G X Y : Nat} {v : Value} {ds : List (List Int)} {w w1 w2 : World} (h : Tx a b r q G X Y v ds w w1) (hb : Below w1.heap.size w1 w2) : Tx a b r q G X Y v ds w w2 :=
  ⟨h.tq.next hb, h.fx.below hb h.fx.lt, h.fy.below hb h.fy.lt⟩
theorem fhRes_len {xs : List Int} : ((hxV xs).getD (List.replicate 32 0)).length = 32 := by
  unfold hxV
  split
  · cases h : hxK xs 32 with
    | none => rw [Option.getD_none, List.length_replicate]
    | some l => rw [Option.getD_some]; exact hxK_len h
  · rw [Option.getD_none, List.length_replicate]
set_option maxHeartbeats 8000000 in
theorem answers_main (u : Value) (ds : List (List Int)) (kind : Int) (a b : List Int) (s : ByteArray) (w : World) (hu : DigsIn w u ds) (hnil : NilOk u) (hok : okD ds) (hla : a.length = 32) (hlb : b.length = 32) (hba : isBytes a) (hbb : isBytes b) (hK : KW w) :
    Calls Tryd.prog 3 #[u, .int .u8 kind, .agg (ints .u8 a).toArray, .agg (ints .u8 b).toArray, .string s] w fun e w' => e = .returned (.bool true) ∧ Below w.heap.size w w' := by
  obtain ⟨xs, hxb, hxs⟩ := nums_of s
  obtain ⟨ua, uc, rfl, -⟩ := id hu
  obtain ⟨q, hq⟩ : ∃ q, Hid (w.heap.size = q) := ⟨_, rfl⟩
  have HU := Lib.hid hu
  have HNL := Lib.hid hnil
  have HOK := Lib.hid hok
  have HK := Lib.hid hK
  have LA := Lib.hid hla
  have LB := Lib.hid hlb
  have BA := Lib.hid hba
  have BB := Lib.hid hbb
  have FH : Hid (∀ W, Calls Tryd.prog 6 #[.string s] W fun e w' => e = .returned (fhRes (hxV xs)) ∧ Below W.heap.size W w') := fun W => by rw [← hxs]; exact fromhex_all xs hxb W
  have RFH : Hid (∀ W, Calls Tryd.prog 7 #[.string s] W fun e w' => e = .returned (fhRes (hxV xs)) ∧ Below W.heap.size W w') := fun W => by rw [← hxs]; exact rfromhex_all xs hxb W
  obtain ⟨r, hr⟩ : ∃ r, Hid ((hxV xs).getD (List.replicate 32 0) = r) := ⟨_, rfl⟩
  obtain ⟨ok, hok2⟩ : ∃ ok, Hid ((hxV xs).isSome = ok) := ⟨_, rfl⟩
  have LR : Hid (r.length = 32) := by rw [Hid, ← hr.out]; exact fhRes_len
  have FE : fhRes (hxV xs) = .tuple #[.agg (ints .u8 r).toArray, .bool ok] := by unfold fhRes; rw [hr.out, hok2.out]
  rw [FE] at FH RFH
  obtain ⟨sa, hsa⟩ : ∃ y, Hid (strOfNums (hexL a) = y) := ⟨_, rfl⟩
  have SZ : Hid (sa.size = 64) := by rw [Hid, ← hsa.out, strOfNums_size, hexL_length, hla]
  have HX : Hid (∀ W, Calls Tryd.prog 8 #[.agg (ints .u8 a).toArray] W fun e w' => e = .returned (.string sa) ∧ Below W.heap.size W w') := fun W => by have h := hex_walk a hla hba W; rwa [hsa.out] at h
  have RHX : Hid (∀ W, Calls Tryd.prog 9 #[.agg (ints .u8 a).toArray] W fun e w' => e = .returned (.string sa) ∧ Below W.heap.size W w') := fun W => by have h := rhex_walk a hla hba W; rwa [hsa.out] at h
  have SHT : Hid (∀ W, Calls Tryd.prog 10 #[.agg (ints .u8 a).toArray] W fun e w' => e = .returned (.string (sa.extract 0 8)) ∧ Below W.heap.size W w') := fun W => by have h := short_walk a hla hba W; rwa [hsa.out] at h
  have SLS : Hid (∀ W, (Instr.sliceAt 9 (.string sa) none (some (.int .i64 8)) none).run Tryd.prog W = .ok (.string (sa.extract 0 8)) W) := fun W => by
    rw [show (Instr.sliceAt 9 _ _ _ none).run Tryd.prog W = (Instr.slice 9 _ _ _ none).run Tryd.prog W from run_sliceAt_string W 9 _ _ _ none Tryd.underlying9]
    rw [run_slice_string_h W _ _ Tryd.underlying9 .i64 8 (by omega) (by rw [SZ.out]; omega)]
    rfl
  obtain ⟨n, hn⟩ : ∃ n, Hid (ds.length = n) := ⟨_, rfl⟩
  rw [hn.out] at HU HNL ⊢
  rw [hq.out]
  clear FE hr hok2 hsa SZ hxs hxb hu hnil hok hK hla hlb hba hbb
  go_enter Tryd.func3, Tryd.ntmps3
  go_upto_region 0 with (fail)
  refine lin_begin (opsOf Tryd.f3 0) (by kernel_rfl) ?_
  refine lin_box 0 24 (.tmp 2) (ints .u8 a) (q) (some 7) (by kernel_rfl) (by kernel_rfl) (by kernel_rfl) (by kernel_rfl) hq ?_
  intro w1 b1 be1 hs1
  refine lin_box 1 24 (.tmp 3) (ints .u8 b) (q + 1) (some 8) (by kernel_rfl) (by kernel_rfl) (by kernel_rfl) (by kernel_rfl) hs1 ?_
  intro w2 b2 be2 hs2
  refine lnow 2 (.bool false) (some 10) ?_
  refine lin_done 3 (by kernel_rfl) ?_
  generalize hact : Act.put _ (some 10) _ = act
  simp only [Act.put, List.setIfInBounds_toArray, List.set_cons_succ, List.set_cons_zero] at hact
  subst hact
  have S2 : Hid (Blk w2 q 24 (ints .u8 a) ∧ Blk w2 (q + 1) 24 (ints .u8 b) ∧ Below q w w2) := ⟨b1.below be2 (by omega), b2, be1.trans (be2.mono (by omega))⟩
  have Q2 : Hid (q + 2 ≤ w2.heap.size) := by rw [Hid]; have := hs2.out; omega
  clear b1 b2 be1 be2 hs1 hs2
  go_upto_region 1 with (fail)
  refine lin_begin (opsOf Tryd.f3 1) (by kernel_rfl) ?_
  refine lin_call 0 5 #[] (some 16) _ (by kernel_rfl) (by kernel_rfl) (by kernel_rfl) (talive_walk _ (HK.out.below S2.out.2.2 (by rw [← hq.out]; exact HK.out.lt))) ?_
  rintro e w3 ⟨rfl, hb3⟩
  refine ⟨_, rfl, ?_⟩
  have S3 : Hid (Blk w3 q 24 (ints .u8 a) ∧ Blk w3 (q + 1) 24 (ints .u8 b) ∧ Below q w w3) := ⟨S2.out.1.below hb3 S2.out.1.lt, S2.out.2.1.below hb3 S2.out.2.1.lt, S2.out.2.2.trans (hb3.mono (by have := Q2.out; omega))⟩
  have Q3 : Hid (q + 2 ≤ w3.heap.size) := Nat.le_trans Q2.out hb3.size
  clear hb3 S2 Q2
  refine lnow 1 (.bool false) (some 17) ?_
  refine lin_done 2 (by kernel_rfl) ?_
  generalize hact : Act.put _ (some 17) _ = act
  simp only [Act.put, List.setIfInBounds_toArray, List.set_cons_succ, List.set_cons_zero] at hact
  subst hact
  by_cases h20 : (n : Int) > 20
  · skip
    go_upto_region 3 with (fail)
    refine lin_begin (opsOf Tryd.f3 3) (by kernel_rfl) ?_
    refine lnow 0 (.slice ua n uc) (some 18) ?_
    refine lnow 1 (.int .i64 (n : Int)) (some 19) ?_
    refine lnow 2 (.bool (decide ((n : Int) > 20))) (some 20) ?_
    rw [decide_eq_true (h20)]
    refine lnow 3 (.bool true) (some 21) ?_
    refine lpas 4 (some 22) ?_
    refine lpas 5 (some 23) ?_
    refine lpas 6 (some 24) ?_
    refine lnow 7 (.bool true) (some 25) ?_
    refine lin_done 8 (by kernel_rfl) ?_
    generalize hact : Act.put _ (some 25) _ = act
    simp only [Act.put, List.setIfInBounds_toArray, List.set_cons_succ, List.set_cons_zero] at hact
    subst hact
    go_upto_region 4 with (fail)
    refine lin_begin (opsOf Tryd.f3 4) (by kernel_rfl) ?_
    refine lnow 0 (.bool true) (some 10) ?_
    refine lin_done 1 (by kernel_rfl) ?_
    generalize hact : Act.put _ (some 10) _ = act
    simp only [Act.put, List.setIfInBounds_toArray, List.set_cons_succ, List.set_cons_zero] at hact
    subst hact
    go_wp2
    go_ret
    exact ⟨rfl, S3.out.2.2⟩
  by_cases h500 : (s.size : Int) > 500
  · skip
    go_upto_region 3 with (fail)
    refine lin_begin (opsOf Tryd.f3 3) (by kernel_rfl) ?_
    refine lnow 0 (.slice ua n uc) (some 18) ?_
    refine lnow 1 (.int .i64 (n : Int)) (some 19) ?_
    refine lnow 2 (.bool (decide ((n : Int) > 20))) (some 20) ?_
    rw [decide_eq_false (h20)]
    refine lnow 3 (.bool false) (some 21) ?_
    refine lnow 4 (.string s) (some 22) ?_
    refine lnow 5 (.int .i64 (s.size : Int)) (some 23) ?_
    refine lnow 6 (.bool (decide ((s.size : Int) > 500))) (some 24) ?_
    rw [decide_eq_true (h500)]
    refine lnow 7 (.bool true) (some 25) ?_
    refine lin_done 8 (by kernel_rfl) ?_
    generalize hact : Act.put _ (some 25) _ = act
    simp only [Act.put, List.setIfInBounds_toArray, List.set_cons_succ, List.set_cons_zero] at hact
    subst hact
    go_upto_region 4 with (fail)
    refine lin_begin (opsOf Tryd.f3 4) (by kernel_rfl) ?_
    refine lnow 0 (.bool true) (some 10) ?_
    refine lin_done 1 (by kernel_rfl) ?_
    generalize hact : Act.put _ (some 10) _ = act
    simp only [Act.put, List.setIfInBounds_toArray, List.set_cons_succ, List.set_cons_zero] at hact
    subst hact
    go_wp2
    go_ret
    exact ⟨rfl, S3.out.2.2⟩
  go_upto_region 3 with (fail)
  refine lin_begin (opsOf Tryd.f3 3) (by kernel_rfl) ?_
  refine lnow 0 (.slice ua n uc) (some 18) ?_
  refine lnow 1 (.int .i64 (n : Int)) (some 19) ?_
  refine lnow 2 (.bool (decide ((n : Int) > 20))) (some 20) ?_
  rw [decide_eq_false (h20)]
  refine lnow 3 (.bool false) (some 21) ?_
  refine lnow 4 (.string s) (some 22) ?_
  refine lnow 5 (.int .i64 (s.size : Int)) (some 23) ?_
  refine lnow 6 (.bool (decide ((s.size : Int) > 500))) (some 24) ?_
  rw [decide_eq_false (h500)]
  refine lnow 7 (.bool false) (some 25) ?_
  refine lin_done 8 (by kernel_rfl) ?_
  generalize hact : Act.put _ (some 25) _ = act
  simp only [Act.put, List.setIfInBounds_toArray, List.set_cons_succ, List.set_cons_zero] at hact
  subst hact
  have N20 : n ≤ 20 := by omega
  clear h20 h500
  have hmk := run_build_nodig w3
  have O4 := Lib.hid (OwnD.empty w3)
  have B4 : Hid (Below w3.heap.size w3 (w3.alloc (.cells #[] 24))) := (Below.refl _ _).alloc (Nat.le_refl _) _
  obtain ⟨G, hG⟩ : ∃ G, Hid (w3.heap.size = G) := ⟨_, rfl⟩
  rw [hG.out] at hmk O4 B4 Q3
  go_upto_region 5 with (fail)
  refine lin_begin (opsOf Tryd.f3 5) (by kernel_rfl) ?_
  generalize w3.alloc (.cells #[] 24) = w4 at hmk O4 B4
  refine lin_value 0 (.slice (some ⟨G, 0, none⟩) 0 0) (some 26) w4 (by kernel_rfl) (by kernel_rfl) (exec_of (Instr.buildSlice 22 0 #[]) _ (by kernel_rfl) hmk) ?_
  have g4 : Hid (G ≤ w4.heap.size) := by have h := B4.out.size; rw [hG.out] at h; exact h
  refine lnow 1 (.slice ua n uc) (some 27) ?_
  refine lin_appendd 2 (some 28) (by kernel_rfl) (by kernel_rfl) (by kernel_rfl) (.tmp 26) (.tmp 27) (by kernel_rfl) G _ [] (by kernel_rfl) O4.out _ ds (by kernel_rfl) (HU.out.below (S3.out.2.2.trans (B4.out.mono (by have := Q3.out; omega))) (Nat.le_of_eq hq.out)) (fun z hz => (HOK.out z hz).1) HNL.out (by rw [hn.out]; show 0 + n ≤ _; omega) g4.out ?_
  intro v5 w5 h5 g5
  have O5 : OwnD w5 G v5 ds := h5
  have B5 : Below G w3 w5 := B4.out.grown g5 g4.out (fun g hg => by simp [Value.ownBlock] at hg; omega)
  have N5 := Lib.hid O5.nilok
  obtain ⟨va, vc, hv5⟩ := O5.slice
  rw [hn.out] at hv5
  subst hv5
  have T5 : Hid (Tq a b q G (.slice va n vc) ds w w5) := ⟨S3.out.1.below B5 (by have := Q3.out; omega), S3.out.2.1.below B5 (by have := Q3.out; omega), O5, S3.out.2.2.trans (B5.mono (by have := Q3.out; omega))⟩
  clear h5 g5 g4 O5 B5 O4 B4 S3 Q3 hmk hG
  refine lnow 3 (.slice va n vc) (some 11) ?_
  refine lin_done 4 (by kernel_rfl) ?_
  generalize hact : Act.put _ (some 11) _ = act
  simp only [Act.put, List.setIfInBounds_toArray, List.set_cons_succ, List.set_cons_zero] at hact
  subst hact
  go_upto_region 6 with (fail)
  refine lin_begin (opsOf Tryd.f3 6) (by kernel_rfl) ?_
  refine lnow 0 (.string s) (some 30) ?_
  refine lin_call 1 6 #[.string s] (some 31) _ (by kernel_rfl) (by kernel_rfl) (by kernel_rfl) (FH.out _) ?_
  rintro e w6 ⟨rfl, hb⟩
  refine ⟨_, rfl, ?_⟩
  have T6 := Lib.hid (T5.out.next hb)
  refine lnow 2 (.tuple #[.agg (ints .u8 r).toArray, .bool ok]) (some 29) ?_
  refine lnow 3 (.agg (ints .u8 r).toArray) (some 32) ?_
  refine lnow 4 (.bool ok) (some 33) ?_
  obtain ⟨X, hX⟩ : ∃ y, Hid (w6.heap.size = y) := ⟨_, rfl⟩
  refine lin_alloc 5 24 (ints .u8 z32N) X (some 12) (by kernel_rfl) (by kernel_rfl) (by kernel_rfl) (by kernel_rfl) hX ?_
  intro w7 bw7 bew7 hsw7
  refine lin_put 6 24 (.tmp 12) (.tmp 32) X _ (ints .u8 z32N) (ints .u8 r) (by kernel_rfl) (by kernel_rfl) (by kernel_rfl) (by kernel_rfl) (by kernel_rfl) bw7 (len2D LR.out z32N_len) (sizeD LR.out) (ints_oneCell _ _) ?_
  intro w8 bw8 uw8
  refine lnow 7 (.bool ok) (some 13) ?_
  refine lin_done 8 (by kernel_rfl) ?_
  generalize hact : Act.put _ (some 13) _ = act
  simp only [Act.put, List.setIfInBounds_toArray, List.set_cons_succ, List.set_cons_zero] at hact
  subst hact
  have B8 : Below w6.heap.size w6 w8 := by rw [hX.out]; exact uw8.below bew7 (Nat.le_refl _) (by have := hsw7.out; omega)
  have T8 := Lib.hid (T6.out.next B8)
  have X8 : Hid (Blk w8 X 24 (ints .u8 r)) := bw8
  clear T5 T6 hb B8 bw7 bew7 hsw7 bw8 uw8 hX FH
  go_upto_region 7 with (fail)
  refine lin_begin (opsOf Tryd.f3 7) (by kernel_rfl) ?_
  refine lnow 0 (.string s) (some 35) ?_
  refine lin_call 1 7 #[.string s] (some 36) _ (by kernel_rfl) (by kernel_rfl) (by kernel_rfl) (RFH.out _) ?_
  rintro e w9 ⟨rfl, hb⟩
  refine ⟨_, rfl, ?_⟩
  have T9 := Lib.hid (T8.out.next hb)
  refine lnow 2 (.tuple #[.agg (ints .u8 r).toArray, .bool ok]) (some 34) ?_
  refine lnow 3 (.agg (ints .u8 r).toArray) (some 37) ?_
  refine lnow 4 (.bool ok) (some 38) ?_
  obtain ⟨Y, hY⟩ : ∃ y, Hid (w9.heap.size = y) := ⟨_, rfl⟩
  refine lin_alloc 5 24 (ints .u8 z32N) Y (some 14) (by kernel_rfl) (by kernel_rfl) (by kernel_rfl) (by kernel_rfl) hY ?_
  intro w10 bw10 bew10 hsw10
  refine lin_put 6 24 (.tmp 14) (.tmp 37) Y _ (ints .u8 z32N) (ints .u8 r) (by kernel_rfl) (by kernel_rfl) (by kernel_rfl) (by kernel_rfl) (by kernel_rfl) bw10 (len2D LR.out z32N_len) (sizeD LR.out) (ints_oneCell _ _) ?_
  intro w11 bw11 uw11
  refine lnow 7 (.bool ok) (some 15) ?_
  refine lin_done 8 (by kernel_rfl) ?_
  generalize hact : Act.put _ (some 15) _ = act
  simp only [Act.put, List.setIfInBounds_toArray, List.set_cons_succ, List.set_cons_zero] at hact
  subst hact
  have B11 : Below w9.heap.size w9 w11 := by rw [hY.out]; exact uw11.below bew10 (Nat.le_refl _) (by have := hsw10.out; omega)
  have X9 : Blk w9 X 24 (ints .u8 r) := X8.out.below hb X8.out.lt
  have T11 : Hid (Tx a b r q G X Y (.slice va n vc) ds w w11) := ⟨T9.out.next B11, X9.below B11 X9.lt, bw11⟩
  clear T8 T9 hb B11 bw10 bew10 hsw10 bw11 uw11 hY RFH X8 X9
  have SR : Hid (okD (sortS ds)) := fun z hz => HOK.out z ((sortS_mem z ds).1 hz)
  have SL : Hid ((sortS ds).length ≤ n) := by have h := sortS_len ds; rw [hn.out] at h; exact h
  have LD : Hid (∀ W, Tx a b r q G X Y (.slice va n vc) ds w W → DigsIn W (.slice ua n uc) ds) := fun W h => HU.out.below h.tq.bel (Nat.le_of_eq hq.out)
  have KD : Hid (∀ W, Tx a b r q G X Y (.slice va n vc) ds w W → KW W) := fun W h => HK.out.below h.tq.bel (by rw [← hq.out]; exact HK.out.lt)
  obtain ⟨nd, hnd⟩ : ∃ y, Hid (nodeL kind (sortS ds) = y) := ⟨_, rfl⟩
  have LN : Hid (nd.length = 32) := by rw [Hid, ← hnd.out]; exact nodeL_length _ _
  have C1 : Hid (∀ W, Tx a b r q G X Y (.slice va n vc) ds w W → Calls Tryd.prog 14 #[.slice va n vc] W fun e w' => ∃ v, e = .returned v ∧ DigsIn w' v (sortS ds) ∧ NilOk v ∧ Below W.heap.size W w') := fun W h => tsort_all _ ds W h.tq.ow.in N5.out (by rw [hn.out]; omega) HOK.out
  have C2 : Hid (∀ W, Tx a b r q G X Y (.slice va n vc) ds w W → Calls Tryd.prog 15 #[.slice ua n uc] W fun e w' => ∃ v, e = .returned v ∧ OwnD w' W.heap.size v (sortS ds) ∧ Below W.heap.size W w') := fun W h => rsort_walk _ ds W (LD.out W h) (by rw [hn.out]; omega) HOK.out
  have C3 : Hid (∀ W, Tx a b r q G X Y (.slice va n vc) ds w W → Calls Tryd.prog 16 #[.int .u8 kind, .slice va n vc] W fun e w' => e = .returned (.agg (ints .u8 nd).toArray) ∧ Below W.heap.size W w') := fun W h => by
    have h1 := tset_all kind _ ds W h.tq.ow.in N5.out (by rw [hn.out]; omega) HOK.out (KD.out W h)
    rw [hnd.out] at h1
    exact h1
  have C4 : Hid (∀ W, Tx a b r q G X Y (.slice va n vc) ds w W → Calls Tryd.prog 17 #[.int .u8 kind, .slice ua n uc] W fun e w' => e = .returned (.agg (ints .u8 nd).toArray) ∧ Below W.heap.size W w') := fun W h => by
    have h1 := rset_walk kind _ ds W (LD.out W h) (by rw [hn.out]; omega) HOK.out
    rw [hnd.out] at h1
    exact h1
  have C5 : Hid (∀ W, Tx a b r q G X Y (.slice va n vc) ds w W → Calls Tryd.prog 13 #[.slice va n vc, .slice ua n uc] W fun e w' => e = .returned (.bool true) ∧ Below W.heap.size W w') := fun W h => sameall_walk va ua n vc uc ds W h.tq.ow.in (LD.out W h) hn.out (by omega) HOK.out
  clear hnd
  generalize sortS ds = sl at *
  obtain ⟨m, hm⟩ : ∃ m, Hid (sl.length = m) := ⟨_, rfl⟩
  rw [hm.out] at SL
  go_upto_region 8 with (fail)
  refine region_begin (opsOf Tryd.f3 8) (fun w' => Tx a b r q G X Y (.slice va n vc) ds w w') (by kernel_rfl) (by kernel_rfl) 54 (by kernel_rfl) ?_
  intro Q' hQN hN
  have HS0 : Tx a b r q G X Y (.slice va n vc) ds w (World.drew w11) := T11.out.next (Below.refl _ _).drew
  clear T11
  generalize World.drew w11 = w12 at HS0 ⊢
  refine reg_nowIf 0 (.agg (ints .u8 r).toArray) (some 39) hQN HS0 (by kernel_rfl) (by kernel_rfl) (fun w' hw => exec_load_mid 24 (.tmp 12) (by kernel_rfl) (X) 0 (by kernel_rfl) (ints .u8 r) _ hw.fx.whole Tryd.underlying24 rfl (sizeD LR.out)) ?_
  refine reg_nowIf 1 (.agg (ints .u8 r).toArray) (some 40) hQN HS0 (by kernel_rfl) (by kernel_rfl) (fun w' hw => exec_load_mid 24 (.tmp 14) (by kernel_rfl) (Y) 0 (by kernel_rfl) (ints .u8 r) _ hw.fy.whole Tryd.underlying24 rfl (sizeD LR.out)) ?_
  refine reg_now 2 (.bool (decide (r = r))) (some 41) hQN HS0 (by kernel_rfl) (by kernel_rfl) (fun w' => exec_eql w' (.tmp 39) (.tmp 40) 24 (by kernel_rfl) Tryd.underlying24 Tryd.underlying5 sizeByte guardDigest r r LR.out LR.out (by kernel_rfl) (by kernel_rfl)) ?_
  rw [decide_eq_true (rfl : r = r)]
  refine reg_now 3 (.bool true) (some 42) hQN HS0 (by kernel_rfl) (by kernel_rfl) (fun w => by kernel_rfl) ?_
  refine reg_now 4 (.bool ok) (some 43) hQN HS0 (by kernel_rfl) (by kernel_rfl) (fun w => by kernel_rfl) ?_
  refine reg_now 5 (.bool ok) (some 44) hQN HS0 (by kernel_rfl) (by kernel_rfl) (fun w => by kernel_rfl) ?_
  refine reg_now 6 (.bool true) (some 45) hQN HS0 (by kernel_rfl) (by kernel_rfl) (fun w' => exec_eqlbD 4 4 (.tmp 43) (.tmp 44) (by kernel_rfl) Tryd.underlying4 ok (by kernel_rfl) (by kernel_rfl) (fun _ => by kernel_rfl)) ?_
  refine reg_now 7 (.bool true) (some 46) hQN HS0 (by kernel_rfl) (by kernel_rfl) (fun w => by kernel_rfl) ?_
  refine reg_now 8 (.bool true) (some 47) hQN HS0 (by kernel_rfl) (by kernel_rfl) (fun w => by kernel_rfl) ?_
  refine reg_nowIf 9 (.agg (ints .u8 a).toArray) (some 48) hQN HS0 (by kernel_rfl) (by kernel_rfl) (fun w' hw => exec_load_mid 24 (.tmp 7) (by kernel_rfl) (q) 0 (by kernel_rfl) (ints .u8 a) _ hw.tq.fa.whole Tryd.underlying24 rfl (sizeD LA.out)) ?_
  refine reg_nowIf 11 (.agg (ints .u8 a).toArray) (some 50) hQN HS0 (by kernel_rfl) (by kernel_rfl) (fun w' hw => exec_load_mid 24 (.tmp 7) (by kernel_rfl) (q) 0 (by kernel_rfl) (ints .u8 a) _ hw.tq.fa.whole Tryd.underlying24 rfl (sizeD LA.out)) ?_
  refine reg_call 10 8 #[.agg (ints .u8 a).toArray] (some 49) _ (by kernel_rfl) (by kernel_rfl) (by kernel_rfl) (HX.out _) ?_
  rintro e y0 ⟨rfl, hb0⟩
  have HS1 := HS0.next hb0
  refine ⟨_, rfl, HS1, ?_⟩
  refine reg_call 12 9 #[.agg (ints .u8 a).toArray] (some 51) _ (by kernel_rfl) (by kernel_rfl) (by kernel_rfl) (RHX.out _) ?_
  rintro e y1 ⟨rfl, hb1⟩
  have HS2 := HS1.next hb1
  refine ⟨_, rfl, HS2, ?_⟩
  refine reg_now 13 (.bool true) (some 52) hQN HS2 (by kernel_rfl) (by kernel_rfl) (fun w' => exec_sSame 9 9 (.tmp 49) (.tmp 51) (by kernel_rfl) (sa) (by kernel_rfl) (by kernel_rfl) (fun _ => rfl)) ?_
  refine reg_now 14 (.bool true) (some 53) hQN HS2 (by kernel_rfl) (by kernel_rfl) (fun w => by kernel_rfl) ?_
  refine reg_now 15 (.bool true) (some 54) hQN HS2 (by kernel_rfl) (by kernel_rfl) (fun w => by kernel_rfl) ?_
  refine reg_nowIf 16 (.agg (ints .u8 a).toArray) (some 55) hQN HS2 (by kernel_rfl) (by kernel_rfl) (fun w' hw => exec_load_mid 24 (.tmp 7) (by kernel_rfl) (q) 0 (by kernel_rfl) (ints .u8 a) _ hw.tq.fa.whole Tryd.underlying24 rfl (sizeD LA.out)) ?_
  refine reg_nowIf 18 (.agg (ints .u8 a).toArray) (some 57) hQN HS2 (by kernel_rfl) (by kernel_rfl) (fun w' hw => exec_load_mid 24 (.tmp 7) (by kernel_rfl) (q) 0 (by kernel_rfl) (ints .u8 a) _ hw.tq.fa.whole Tryd.underlying24 rfl (sizeD LA.out)) ?_
  refine reg_call 17 10 #[.agg (ints .u8 a).toArray] (some 56) _ (by kernel_rfl) (by kernel_rfl) (by kernel_rfl) (SHT.out _) ?_
  rintro e y2 ⟨rfl, hb2⟩
  have HS3 := HS2.next hb2
  refine ⟨_, rfl, HS3, ?_⟩
  refine reg_call 19 9 #[.agg (ints .u8 a).toArray] (some 58) _ (by kernel_rfl) (by kernel_rfl) (by kernel_rfl) (RHX.out _) ?_
  rintro e y3 ⟨rfl, hb3⟩
  have HS4 := HS3.next hb3
  refine ⟨_, rfl, HS4, ?_⟩
  refine reg_now 20 (.string (sa.extract 0 8)) (some 59) hQN HS4 (by kernel_rfl) (by kernel_rfl) (fun w' => exec_of (Instr.sliceAt 9 (.string sa) none (some (.int .i64 8)) none) _ (by kernel_rfl) (SLS.out _)) ?_
  refine reg_now 21 (.bool true) (some 60) hQN HS4 (by kernel_rfl) (by kernel_rfl) (fun w' => exec_sSame 9 9 (.tmp 56) (.tmp 59) (by kernel_rfl) (sa.extract 0 8) (by kernel_rfl) (by kernel_rfl) (fun _ => rfl)) ?_
  refine reg_now 22 (.bool true) (some 61) hQN HS4 (by kernel_rfl) (by kernel_rfl) (fun w => by kernel_rfl) ?_
  refine reg_now 23 (.bool true) (some 62) hQN HS4 (by kernel_rfl) (by kernel_rfl) (fun w => by kernel_rfl) ?_
  refine reg_nowIf 24 (.agg (ints .u8 a).toArray) (some 63) hQN HS4 (by kernel_rfl) (by kernel_rfl) (fun w' hw => exec_load_mid 24 (.tmp 7) (by kernel_rfl) (q) 0 (by kernel_rfl) (ints .u8 a) _ hw.tq.fa.whole Tryd.underlying24 rfl (sizeD LA.out)) ?_
  refine reg_nowIf 25 (.agg (ints .u8 b).toArray) (some 64) hQN HS4 (by kernel_rfl) (by kernel_rfl) (fun w' hw => exec_load_mid 24 (.tmp 8) (by kernel_rfl) (q + 1) 0 (by kernel_rfl) (ints .u8 b) _ hw.tq.fb.whole Tryd.underlying24 rfl (sizeD LB.out)) ?_
  refine reg_nowIf 27 (.agg (ints .u8 a).toArray) (some 66) hQN HS4 (by kernel_rfl) (by kernel_rfl) (fun w' hw => exec_load_mid 24 (.tmp 7) (by kernel_rfl) (q) 0 (by kernel_rfl) (ints .u8 a) _ hw.tq.fa.whole Tryd.underlying24 rfl (sizeD LA.out)) ?_
  refine reg_nowIf 28 (.agg (ints .u8 b).toArray) (some 67) hQN HS4 (by kernel_rfl) (by kernel_rfl) (fun w' hw => exec_load_mid 24 (.tmp 8) (by kernel_rfl) (q + 1) 0 (by kernel_rfl) (ints .u8 b) _ hw.tq.fb.whole Tryd.underlying24 rfl (sizeD LB.out)) ?_
  refine reg_call 26 11 #[.agg (ints .u8 a).toArray, .agg (ints .u8 b).toArray] (some 65) _ (by kernel_rfl) (by kernel_rfl) (by kernel_rfl) (tcompare_walk a b LA.out LB.out BA.out BB.out _) ?_
  rintro e y4 ⟨rfl, hb4⟩
  have HS5 := HS4.next hb4
  refine ⟨_, rfl, HS5, ?_⟩
  refine reg_call 29 12 #[.agg (ints .u8 a).toArray, .agg (ints .u8 b).toArray] (some 68) _ (by kernel_rfl) (by kernel_rfl) (by kernel_rfl) (rcompare_walk a b LA.out LB.out BA.out BB.out _) ?_
  rintro e y5 ⟨rfl, hb5⟩
  have HS6 := HS5.next hb5
  refine ⟨_, rfl, HS6, ?_⟩
  refine reg_now 30 (.bool (decide (cmpD a b = cmpD a b))) (some 69) hQN HS6 (by kernel_rfl) (by kernel_rfl) (fun w => by kernel_rfl) ?_
  rw [decide_eq_true (rfl : cmpD a b = cmpD a b)]
  refine reg_now 31 (.bool true) (some 70) hQN HS6 (by kernel_rfl) (by kernel_rfl) (fun w => by kernel_rfl) ?_
  refine reg_now 32 (.bool true) (some 71) hQN HS6 (by kernel_rfl) (by kernel_rfl) (fun w => by kernel_rfl) ?_
  refine reg_now 33 (.slice va n vc) (some 72) hQN HS6 (by kernel_rfl) (by kernel_rfl) (fun w => by kernel_rfl) ?_
  refine reg_now 35 (.slice ua n uc) (some 74) hQN HS6 (by kernel_rfl) (by kernel_rfl) (fun w => by kernel_rfl) ?_
  refine reg_call 34 14 #[.slice va n vc] (some 73) _ (by kernel_rfl) (by kernel_rfl) (by kernel_rfl) (C1.out _ HS6) ?_
  rintro e y6 ⟨x1, rfl, d1, -, hb6⟩
  obtain ⟨ra, rc, e1, -⟩ := id d1
  rw [hm.out] at e1
  subst e1
  have HS7 := HS6.next hb6
  refine ⟨_, rfl, HS7, ?_⟩
  have D1 := Lib.hid d1
  clear d1
  refine reg_call 36 15 #[.slice ua n uc] (some 75) _ (by kernel_rfl) (by kernel_rfl) (by kernel_rfl) (C2.out _ HS7) ?_
  rintro e y7 ⟨x2, rfl, d2, hb7⟩
  have D2 := Lib.hid d2.in
  obtain ⟨ka, kc, e2⟩ := d2.slice
  rw [hm.out] at e2
  subst e2
  have HS8 := HS7.next hb7
  refine ⟨_, rfl, HS8, ?_⟩
  have D3 := Lib.hid (D1.out.below hb7 (Nat.le_refl _))
  clear d2 D1
  refine reg_call 37 13 #[.slice ra m rc, .slice ka m kc] (some 76) _ (by kernel_rfl) (by kernel_rfl) (by kernel_rfl) (sameall_walk ra ka m rc kc sl _ D3.out D2.out hm.out (by have := SL.out; omega) SR.out) ?_
  rintro e y8 ⟨rfl, hb8⟩
  have HS9 := HS8.next hb8
  refine ⟨_, rfl, HS9, ?_⟩
  refine reg_now 38 (.bool true) (some 77) hQN HS9 (by kernel_rfl) (by kernel_rfl) (fun w => by kernel_rfl) ?_
  refine reg_now 39 (.bool true) (some 78) hQN HS9 (by kernel_rfl) (by kernel_rfl) (fun w => by kernel_rfl) ?_
  refine reg_now 40 (.int .u8 kind) (some 79) hQN HS9 (by kernel_rfl) (by kernel_rfl) (fun w => by kernel_rfl) ?_
  refine reg_now 41 (.slice va n vc) (some 80) hQN HS9 (by kernel_rfl) (by kernel_rfl) (fun w => by kernel_rfl) ?_
  refine reg_now 43 (.int .u8 kind) (some 82) hQN HS9 (by kernel_rfl) (by kernel_rfl) (fun w => by kernel_rfl) ?_
  refine reg_now 44 (.slice ua n uc) (some 83) hQN HS9 (by kernel_rfl) (by kernel_rfl) (fun w => by kernel_rfl) ?_
  refine reg_call 42 16 #[.int .u8 kind, .slice va n vc] (some 81) _ (by kernel_rfl) (by kernel_rfl) (by kernel_rfl) (C3.out _ HS9) ?_
  rintro e y9 ⟨rfl, hb9⟩
  have HS10 := HS9.next hb9
  refine ⟨_, rfl, HS10, ?_⟩
  refine reg_call 45 17 #[.int .u8 kind, .slice ua n uc] (some 84) _ (by kernel_rfl) (by kernel_rfl) (by kernel_rfl) (C4.out _ HS10) ?_
  rintro e y10 ⟨rfl, hb10⟩
  have HS11 := HS10.next hb10
  refine ⟨_, rfl, HS11, ?_⟩
  refine reg_now 46 (.bool (decide (nd = nd))) (some 85) hQN HS11 (by kernel_rfl) (by kernel_rfl) (fun w' => exec_eql w' (.tmp 81) (.tmp 84) 24 (by kernel_rfl) Tryd.underlying24 Tryd.underlying5 sizeByte guardDigest nd nd LN.out LN.out (by kernel_rfl) (by kernel_rfl)) ?_
  rw [decide_eq_true (rfl : nd = nd)]
  refine reg_now 47 (.bool true) (some 86) hQN HS11 (by kernel_rfl) (by kernel_rfl) (fun w => by kernel_rfl) ?_
  refine reg_now 48 (.bool true) (some 87) hQN HS11 (by kernel_rfl) (by kernel_rfl) (fun w => by kernel_rfl) ?_
  refine reg_now 49 (.slice va n vc) (some 88) hQN HS11 (by kernel_rfl) (by kernel_rfl) (fun w => by kernel_rfl) ?_
  refine reg_now 50 (.slice ua n uc) (some 89) hQN HS11 (by kernel_rfl) (by kernel_rfl) (fun w => by kernel_rfl) ?_
  refine reg_call 51 13 #[.slice va n vc, .slice ua n uc] (some 90) _ (by kernel_rfl) (by kernel_rfl) (by kernel_rfl) (C5.out _ HS11) ?_
  rintro e y11 ⟨rfl, hb11⟩
  have HS12 := HS11.next hb11
  refine ⟨_, rfl, HS12, ?_⟩
  refine reg_now 52 (.bool true) (some 91) hQN HS12 (by kernel_rfl) (by kernel_rfl) (fun w => by kernel_rfl) ?_
  refine reg_now 53 (.bool true) (some 10) hQN HS12 (by kernel_rfl) (by kernel_rfl) (fun w => by kernel_rfl) ?_
  refine reg_done (by kernel_rfl) (hN _ _ ?_)
  generalize hact : Act.put _ (some 10) _ = act
  simp only [Act.put, List.setIfInBounds_toArray, List.set_cons_succ, List.set_cons_zero] at hact
  subst hact
  have FB := Lib.hid HS12.tq.bel
  go_wp2
  go_ret
  exact ⟨rfl, FB.out⟩
end Go.Proofs.YtoeilaedpibboaaDoor
