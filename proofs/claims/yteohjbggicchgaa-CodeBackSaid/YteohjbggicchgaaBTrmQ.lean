/- The small functions of stage 8's laws: SameTexts, Num, Param, variable, constant, Great, same. -/
import Derived.Test.YteohjbggicchgaaBGenT
import Derived.Test.YteohjbggicchgaaBTrmY
import Derived.Test.YteohjbggicchgaaBTrmZ
namespace Go.Proofs.Yteohjbggicchgaa
open Go Go.RowKit
set_option maxRecDepth 100000
set_option maxHeartbeats 1000000 in
theorem great_walk {F : List Nat} (t : Tm) (cs : List Value) (w : World) (ht : TmAt F w t cs) (hs : SmT t) : Calls Try.prog 8 #[.agg cs.toArray] w fun e w' => e = .returned (.bool (decide (3600 < nodesT t))) ∧ Below w.heap.size w w' := by
 have C5 := Lib.hid ht.len
 have HT := Lib.hid ht
 clear ht
 obtain ⟨q, hq⟩ : ∃ q, Hid (w.heap.size = q) := ⟨_, rfl⟩
 go_enter Try.func8, Try.ntmps8
 go_upto_region 0 with (fail)
 refine lbeg (opsOf Try.f8 0) ?_
 refine lbox 0 25 (.tmp 0) (cs) (q) (some 1) hq ?_
 intro w1 bw1 bew1 hsw1
 refine lnow 1 (.bool false) (some 2) ?_
 refine ldn 2 ?_
 generalize hact : Act.put _ (some 2) _ = act
 simp only [Act.put, sA, sC, sZ] at hact
 subst hact
 have B1 := Lib.hid bw1
 have BE1 : Hid (Below w.heap.size w w1) := by rw [Hid, hq.out]; exact bew1
 clear bw1 bew1 hsw1
 have CALL := tnodes_walk t cs w1 3600 F (HT.out.below BE1.out) hs (by omega)
 obtain ⟨m, hm⟩ : ∃ m : Int, Hid (((min (nodesT t) (3600 + 1) : Nat) : Int) = m) := ⟨_, rfl⟩
 rw [hm.out] at CALL
 go_upto_region 1 with (fail)
 refine lbeg (opsOf Try.f8 1) ?_
 refine lrl 0 (cs) (some 3) 25 1 (q) 0 (B1.out).whole Try.underlying25 (t5Size C5.out) ?_
 refine lcal 1 29 #[.agg cs.toArray, .int .i64 3600] (some 4) _ (CALL) ?_
 rintro e w2 ⟨rfl, hb2⟩
 refine ⟨_, rfl, ?_⟩
 refine lnow 2 (.bool (decide (m > 3600))) (some 5) ?_
 refine lnow 3 (.bool (decide (m > 3600))) (some 2) ?_
 refine ldn 4 ?_
 generalize hact : Act.put _ (some 2) _ = act
 simp only [Act.put, sA, sC, sZ] at hact
 subst hact
 go_wp2
 go_ret
 refine ⟨?_, BE1.out.trans (hb2.mono BE1.out.size)⟩
 rw [← hm.out]
 show Ending.returned (Value.bool (decide (((min (nodesT t) (3600 + 1) : Nat) : Int) > 3600))) = _
 congr 2
 rw [decide_eq_decide]
 omega
end Go.Proofs.Yteohjbggicchgaa
