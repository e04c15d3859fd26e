/- Nodes; whole terms; constructors. -/
import Derived.Test.YtdacmogedchnaaaQGenT
import Derived.Test.YtdacmogedchnaaaQPrsI
namespace Go.Proofs.Ytdacmogedchnaaa
open Go Go.RowKit
set_option maxRecDepth 100000
theorem nodesRs_snoc : ∀ (a : List Rw) (x : Rw), nodesRs (a ++ [x]) = nodesRs a + nodesR x
 | [], x => by rw [List.nil_append, nodesRs, nodesRs, nodesRs]; omega
 | y :: a, x => by rw [List.cons_append, nodesRs, nodesRs, nodesRs_snoc a x]; omega
theorem nodesRs_app : ∀ (a b : List Rw), nodesRs (a ++ b) = nodesRs a + nodesRs b
 | [], b => by rw [List.nil_append, nodesRs]; omega
 | y :: a, b => by rw [List.cons_append, nodesRs, nodesRs, nodesRs_app a b]; omega
theorem nodesRs_take (a : List Rw) (i : Nat) : nodesRs (a.take i) ≤ nodesRs a := by
 have := nodesRs_app (a.take i) (a.drop i)
 rw [List.take_append_drop] at this
 omega
theorem nodesR_pos (t : Rw) : 1 ≤ nodesR t := by
 obtain ⟨k, n, p, s, l, a⟩ := t
 rw [nodesR]
 omega
theorem nodesRs_mem : ∀ {a : List Rw} {x : Rw}, x ∈ a → nodesR x ≤ nodesRs a
 | y :: a, x, h => by
  rw [nodesRs]
  rcases List.mem_cons.1 h with rfl | h
  ·omega
  ·have := nodesRs_mem h
   omega
theorem nodesRs_len : ∀ a : List Rw, a.length ≤ nodesRs a
 | [] => Nat.zero_le _
 | y :: a => by
  rw [nodesRs, List.length_cons]
  have := nodesRs_len a
  have := nodesR_pos y
  omega
theorem elemRws : Try.prog.underlying 31 = some (.slice (Try.prog.elem 31)) := by kernel_rfl
theorem run_at_raw (g u n c k : Nat) (hk : k < n) (w : World) : (Instr.indexAt 31 (.slice (some ⟨g, u, none⟩) n c) (.int .i64 (k : Int))).run Try.prog w = .ok (.pointer (some ⟨g, u + 6 * k, none⟩)) w := by
 rw [run_indexAt_slice w 31 _ _ _ _ _ elemRws]
 have hz : (sizeOf (Try.prog.elem 31)).run Try.prog w = .ok 6 w := by kernel_rfl
 rw [if_pos (by omega), hz, Result.andThen_ok, Addr.add_mid, Int.toNat_natCast, Nat.mul_comm]
set_option maxHeartbeats 8000000 in
theorem nodes_walkR (K : Nat → Nat) : ∀ (t : Rw) (F : List Nat) (cs : List Value) (w : World), RwAt K F w t cs → nodesR t ≤ 1000000000 → Calls Try.prog 12 #[.agg cs.toArray] w fun e w' => e = .returned (.int .i64 (nodesR t : Int)) ∧ Below w.heap.size w w' := by
 refine Rw.byParts fun k n p s l a ih F cs w h hn => ?_
 obtain ⟨B, hB⟩ : ∃ B, Hid (w.heap.size = B) := ⟨_, rfl⟩
 rw [hB.out]
 have HT := Lib.hid h
 obtain ⟨lv, av, ecs, hlv, hav⟩ := h.open
 obtain ⟨la, lc, rfl⟩ := hlv.slice
 obtain ⟨aa, ac, rfl⟩ := hav.slice
 have C6 := Lib.hid h.len
 have HA := Lib.hid hav
 have ECS := Lib.hid ecs
 clear h hlv hav ecs
 have NE : nodesR (.mk k n p s l a) = 1 + l + nodesRs a := by rw [nodesR]
 rw [NE] at hn
 have HN := Lib.hid hn
 have HE := Lib.hid NE
 have LL := Lib.hid (nodesRs_len a)
 obtain ⟨N, hN⟩ : ∃ N, Hid (a.length = N) := ⟨_, rfl⟩
 dsimp only [Rw.levels, Rw.args, Rw.kind, Rw.n, Rw.at', Rw.name] at ECS HA
 rw [hN.out] at ECS LL
 clear hn NE
 go_enter Try.func12, Try.ntmps12
 go_upto_region 0 with (fail)
 refine lbeg (opsOf Try.f12 0) ?_
 refine lbox 0 33 (.tmp 0) (cs) (B) (some 1) hB ?_
 intro w1 b1 e1 s1
 refine lnow 1 (.int .i64 0) (some 2) ?_
 refine ldn 2 ?_
 generalize hact : Act.put _ (some 2) _ = act
 simp only [Act.put, sA, sC, sZ] at hact
 subst hact
 have BX := Lib.hid b1
 have BE : Hid (Below B w w1) := e1
 have HA1 : Hid (RwsAt K F w1 a (.slice aa N ac)) := by have h9 := HA.out.below (by rw [hB.out]; exact e1); rw [hN.out] at h9; exact h9
 clear b1 e1 s1 HA
 have hn := HN.out
 have ll := LL.out
 have k4 : Hid (w1.cell? ⟨B, 4, none⟩ = some (.slice la l lc)) := BX.out.cell (by rw [ECS.out]; rfl)
 have k5 : Hid (w1.cell? ⟨B, 5, none⟩ = some (.slice aa N ac)) := BX.out.cell (by rw [ECS.out]; rfl)
 go_upto_region 1 with (fail)
 refine lbeg (opsOf Try.f12 1) ?_
 refine lnow 0 (.pointer (some ⟨B, 4, none⟩)) (some 6) ?_
 refine lcl 1 (.slice la l lc) (some 7) 30 6 B 4 k4.out Try.underlying30 ?_
 refine lnow 2 (.int .i64 (l : Int)) (some 8) ?_
 refine lnow 3 (.int .i64 (IntKind.i64.wrap (1 + (l : Int)))) (some 9) ?_
 rw [show IntKind.i64.wrap (1 + (l : Int)) = ((1 + l : Nat) : Int) from (IntWalk.i64_in _ (by omega)).trans (by omega)]
 refine lnow 4 (.int .i64 ((1 + l : Nat) : Int)) (some 3) ?_
 refine ldn 5 ?_
 generalize hact : Act.put _ (some 3) _ = act
 simp only [Act.put, sA, sC, sZ] at hact
 subst hact
 go_upto_region 2 with (fail)
 refine lbeg (opsOf Try.f12 2) ?_
 refine lnow 0 (.pointer (some ⟨B, 5, none⟩)) (some 10) ?_
 refine lcl 1 (.slice aa N ac) (some 11) 31 10 B 5 k5.out Try.underlying31 ?_
 refine lnow 2 (.int .i64 (N : Int)) (some 12) ?_
 refine lnow 3 (.int .i64 0) (some 13) ?_
 refine ldn 4 ?_
 generalize hact : Act.put _ (some 13) _ = act
 simp only [Act.put, sA, sC, sZ] at hact
 subst hact
 go_wp2
 go_loopw [3, 13] (fun nv iv wr => ∃ i : Nat, i ≤ N ∧ iv = .int .i64 (i : Int) ∧ nv = .int .i64 ((1 + l + nodesRs (a.take i) : Nat) : Int) ∧ Hid (Below w1.heap.size w1 wr)) (fun _ iv _ => N - (intOf iv).toNat)
 case atStart => exact ⟨0, Nat.zero_le _, rfl, rfl, Below.refl _ _⟩
 case round =>
  obtain ⟨i, hi, rfl, rfl, BR⟩ := hrel
  have hn := HN.out
  have ll := LL.out
  have tk := nodesRs_take a i
  by_cases hlt : i < N
  rotate_left
  ·skip
   obtain rfl : i = N := by omega
   have c1 : ¬ ((i : Int) < (i : Int)) := by omega
   go_upto_region 3 with (fail)
   refine lbeg (opsOf Try.f12 3) ?_
   refine lnow 0 (.bool (decide ((i : Int) < (i : Int)))) (some 14) ?_
   rw [decide_eq_false c1]
   refine ldn 1 ?_
   generalize hact : Act.put _ (some 14) _ = act
   simp only [Act.put, sA, sC, sZ] at hact
   subst hact
   go_upto_region 7 with (fail)
   refine lbeg (opsOf Try.f12 7) ?_
   refine lnow 0 (.int .i64 ((1 + l + nodesRs (a.take i) : Nat) : Int)) (some 22) ?_
   refine lnow 1 (.int .i64 ((1 + l + nodesRs (a.take i) : Nat) : Int)) (some 2) ?_
   refine ldn 2 ?_
   generalize hact : Act.put _ (some 2) _ = act
   simp only [Act.put, sA, sC, sZ] at hact
   subst hact
   have FIN : Hid (Below B w wr) := BE.out.trans (BR.out.mono (Nat.le_of_lt BX.out.lt))
   have EN : Hid (1 + l + nodesRs (a.take i) = nodesR (.mk k n p s l a)) := by rw [HE.out, List.take_of_length_le (by rw [hN.out]; exact Nat.le_refl _), Hid]
   go_wp2
   go_ret
   exact ⟨by rw [← EN.out]; rfl, FIN.out⟩
  have c1 : (i : Int) < (N : Int) := by omega
  obtain ⟨x, pb, po, cx, hx, hmem, haa, -, -, -, hrg, hxt⟩ := (HA1.out.below BR.out).get hN.out hlt
  subst haa
  have RG := Lib.hid hrg
  have HX := Lib.hid hxt
  have X6 := Lib.hid hxt.len
  have HXI := Lib.hid hx
  have IH := ih x hmem F cx
  have NX := nodesRs_mem hmem
  clear hrg hxt hx
  have TS : nodesRs (a.take (i + 1)) = nodesRs (a.take i) + nodesR x := by rw [take_snoc HXI.out, nodesRs_snoc]
  have tk2 := nodesRs_take a (i + 1)
  go_upto_region 3 with (fail)
  refine lbeg (opsOf Try.f12 3) ?_
  refine lnow 0 (.bool (decide ((i : Int) < (N : Int)))) (some 14) ?_
  rw [decide_eq_true c1]
  refine ldn 1 ?_
  generalize hact : Act.put _ (some 14) _ = act
  simp only [Act.put, sA, sC, sZ] at hact
  subst hact
  go_upto_region 4 with (fail)
  refine lbeg (opsOf Try.f12 4) ?_
  refine lix 0 (.pointer (some ⟨pb, po + 6 * i, none⟩)) (some 15) 31 11 13 (run_at_raw pb po N ac i hlt _) ?_
  refine lrl 1 cx (some 16) 33 15 pb (po + 6 * i) RG.out Try.underlying33 (rwSize X6.out) ?_
  obtain ⟨z, hz⟩ : ∃ z, Hid (wr.heap.size = z) := ⟨_, rfl⟩
  refine lin_alloc 2 33 z6R z (some 5) (by kernel_rfl) (by kernel_rfl) (by kernel_rfl) zeroRw hz ?_
  intro w3 b3 e3 s3
  refine lput 3 33 (.tmp 5) (.tmp 16) z _ z6R cx b3 (X6.out.trans z6_len.symm) (rwSize X6.out) (by simpa using HX.out.one) ?_
  intro w4 b4 u4
  refine ldn 4 ?_
  generalize hact : Act.put _ none _ = act
  simp only [Act.put, sA, sC, sZ] at hact
  subst hact
  have E34 : Below z wr w4 := u4.below e3 (Nat.le_refl _) (by have := b3.lt; omega)
  rw [← hz.out] at E34
  have BR4 : Hid (Below w1.heap.size w1 w4) := BR.out.trans (E34.mono BR.out.size)
  have HX4 := Lib.hid (HX.out.below E34)
  have BZ := Lib.hid b4
  have W4 : Hid (w1.heap.size ≤ w4.heap.size) := BR4.out.size
  clear b3 e3 s3 b4 u4 E34 BR HX hz RG
  go_upto_region 5 with (fail)
  refine lbeg (opsOf Try.f12 5) ?_
  refine lnow 0 (.int .i64 ((1 + l + nodesRs (a.take i) : Nat) : Int)) (some 17) ?_
  refine lrl 1 cx (some 18) 33 5 z 0 BZ.out.whole Try.underlying33 (rwSize X6.out) ?_
  refine lcal 2 12 #[.agg cx.toArray] (some 19) _ (IH w4 HX4.out (by omega)) ?_
  rintro e w5 ⟨rfl, hb5⟩
  refine ⟨_, rfl, ?_⟩
  have BR5 : Hid (Below w1.heap.size w1 w5) := BR4.out.trans (hb5.mono W4.out)
  clear hb5 IH BR4
  refine lnow 3 (.int .i64 (IntKind.i64.wrap (((1 + l + nodesRs (a.take i) : Nat) : Int) + (nodesR x : Int)))) (some 20) ?_
  rw [show IntKind.i64.wrap (((1 + l + nodesRs (a.take i) : Nat) : Int) + (nodesR x : Int)) = ((1 + l + nodesRs (a.take (i + 1)) : Nat) : Int) from (IntWalk.i64_in _ (by omega)).trans (by omega)]
  refine lnow 4 (.int .i64 ((1 + l + nodesRs (a.take (i + 1)) : Nat) : Int)) (some 3) ?_
  refine ldn 5 ?_
  generalize hact : Act.put _ (some 3) _ = act
  simp only [Act.put, sA, sC, sZ] at hact
  subst hact
  go_upto_region 6 with (fail)
  refine lbeg (opsOf Try.f12 6) ?_
  refine lnow 0 (.int .i64 (IntKind.i64.wrap ((i : Int) + 1))) (some 21) ?_
  rw [show IntKind.i64.wrap ((i : Int) + 1) = ((i + 1 : Nat) : Int) from (IntWalk.i64_in _ (by omega)).trans (by omega)]
  refine lnow 1 (.int .i64 ((i + 1 : Nat) : Int)) (some 13) ?_
  refine ldn 2 ?_
  generalize hact : Act.put _ (some 13) _ = act
  simp only [Act.put, sA, sC, sZ] at hact
  subst hact
  clear TS tk2 tk NX HXI
  go_wp2
  go_roundw
  case rel => exact ⟨i + 1, by omega, rfl, rfl, BR5⟩
  case measure => simp [intOf]; omega
set_option maxHeartbeats 8000000 in
theorem whole_walk (K : Nat → Nat) (q : Nat) (w : World) (l : List (List UInt8)) (h : PAt K q w l) : Calls Try.prog 21 #[.pointer (some ⟨q, 0, none⟩)] w (PP K q (wholeP l) (RRw K) w) := by
 obtain ⟨oo, hoo⟩ : ∃ oo, Hid (wholeP l = oo) := ⟨_, rfl⟩
 rw [hoo.out]
 have EQ := hoo
 clear hoo
 unfold wholeP at EQ
 have LD := Lib.hid h.len
 obtain ⟨B, hB⟩ : ∃ B, Hid (w.heap.size = B) := ⟨_, rfl⟩
 have RD := Lib.hid h
 have QB : Hid (q < B) := by rw [← hB.out]; exact h.lt
 have BB : Hid (Bel [q] B w w) := Bel.refl _ _ _
 have SZ : Hid (B ≤ w.heap.size) := by rw [Hid, hB.out]; exact Nat.le_refl _
 clear h
 go_enter Try.func21, Try.ntmps21
 go_upto_region 0 with (fail)
 refine lbeg (opsOf Try.f21 0) ?_
 refine lin_alloc 0 33 (z6R) (B) (some 2) (by kernel_rfl) (by kernel_rfl) (by kernel_rfl) zeroRw hB ?_
 intro w1 bx ex sx
 replace RD := Lib.hid (RD.out.below ex QB.out)
 replace BB : Hid (Bel [q] B w w1) := Bel.of ex
 replace SZ : Hid (B ≤ w1.heap.size) := Nat.le_of_lt bx.lt
 have BR := Lib.hid bx
 clear bx ex sx
 refine ldn 1 ?_
 generalize hact : Act.put _ (some 2) _ = act
 simp only [Act.put, sA, sC, sZ] at hact
 subst hact
 go_upto_region 1 with (fail)
 refine lbeg (opsOf Try.f21 1) ?_
 refine lnow 0 (.pointer (some ⟨q, 0, none⟩)) (some 5) ?_
 refine lcal 1 35 #[.pointer (some ⟨q, 0, none⟩)] (some 6) _ (at_walk K q w1 l RD.out) ?_
 rintro e w' ⟨rfl, hw'⟩
 obtain rfl := hw'.symm
 refine ⟨_, rfl, ?_⟩
 refine lnow 2 (.int .i64 (K l.length : Int)) (some 3) ?_
 refine ldn 3 ?_
 generalize hact : Act.put _ (some 3) _ = act
 simp only [Act.put, sA, sC, sZ] at hact
 subst hact
 go_upto_region 2 with (fail)
 refine lbeg (opsOf Try.f21 2) ?_
 refine lnow 0 (.pointer (some ⟨q, 0, none⟩)) (some 7) ?_
 refine lin_callPP 1 38 #[.pointer (some ⟨q, 0, none⟩)] (some 8) (by kernel_rfl) (by kernel_rfl) (by kernel_rfl) (term_all K q w1 l RD.out) EQ (fun p c w' hb ho => ⟨rfl, PP.no (by rw [hB.out]; exact BB.out.trans (hb.mono SZ.out)) ho⟩) ?_
 intro x l3 vv w2 hx EQ1 hb hv hp
 replace EQ := EQ1
 clear EQ1
 obtain ⟨ca, rfl, hct⟩ := hv
 have TA := Lib.hid (hct.range (BR.out.lt : B + 1 ≤ _))
 have NB : Hid (nodesR x ≤ 1000000) := by have := tf_lt FU true hx; have := LD.out; rw [Hid]; omega
 clear hct hx
 replace BR := Lib.hid (bel_keep hb BR.out (by have := QB.out; omega) BR.out.lt)
 replace BB := Lib.hid (BB.out.trans (hb.mono SZ.out))
 replace SZ := Lib.hid (Nat.le_trans SZ.out hb.size)
 replace RD := Lib.hid hp
 clear hb hp
 obtain ⟨z, hz⟩ : ∃ z, Hid (w2.heap.size = z) := ⟨_, rfl⟩
 have oz : Hid (B ≤ z) := by rw [Hid, ← hz.out]; exact SZ.out
 have ozBR : Hid (B < z) := by rw [Hid, ← hz.out]; exact BR.out.lt
 refine lin_alloc 2 33 (z6R) (z) (some 4) (by kernel_rfl) (by kernel_rfl) (by kernel_rfl) zeroRw hz ?_
 intro w4 ba ea sa
 refine lput 3 33 (.tmp 4) (.tmp 8) (z) _ (z6R) (ca) ba (TA.out.len.trans z6_len.symm) (rwSize TA.out.len) (by simpa using TA.out.one) ?_
 intro w5 bb ub
 have eb : Below z w2 w5 := ub.below ea (Nat.le_refl _) (by have := ba.lt; omega)
 have BX := Lib.hid bb
 rw [← hz.out] at eb
 replace BR := Lib.hid (BR.out.below eb BR.out.lt)
 replace TA := Lib.hid (RwAt.low TA.out eb)
 replace RD := Lib.hid (RD.out.below eb RD.out.lt)
 replace BB := Lib.hid (BB.out.trans (Bel.of (eb.mono SZ.out)))
 replace SZ := Lib.hid (Nat.le_trans SZ.out eb.size)
 clear ba ea sa bb ub eb hz
 refine ldn 4 ?_
 generalize hact : Act.put _ none _ = act
 simp only [Act.put, sA, sC, sZ] at hact
 subst hact
 go_upto_region 3 with (fail)
 refine lbeg (opsOf Try.f21 3) ?_
 refine lrl 0 (ca) (some 9) 33 4 z 0 BX.out.whole Try.underlying33 (rwSize TA.out.len) ?_
 refine lcal 1 12 #[.agg ca.toArray] (some 10) _ (nodes_walkR K x _ ca w5 TA.out (by have := NB.out; omega)) ?_
 rintro e w6 ⟨rfl, hb⟩
 refine ⟨_, rfl, ?_⟩
 replace BR := Lib.hid (BR.out.below hb BR.out.lt)
 replace BX := Lib.hid (BX.out.below hb BX.out.lt)
 replace TA := Lib.hid (RwAt.low TA.out hb)
 replace RD := Lib.hid (RD.out.below hb RD.out.lt)
 replace BB := Lib.hid (BB.out.trans (Bel.of (hb.mono SZ.out)))
 replace SZ := Lib.hid (Nat.le_trans SZ.out hb.size)
 clear hb
 refine lnow 2 (.bool (decide ((nodesR x : Int) > 3000))) (some 11) ?_
 by_cases hm : nodesR x ≤ 3000
 rotate_left
 ·skip
  rw [decide_eq_true (by omega : (nodesR x : Int) > 3000)]
  rw [if_neg hm] at EQ
  refine ldn 3 ?_
  generalize hact : Act.put _ (some 11) _ = act
  simp only [Act.put, sA, sC, sZ] at hact
  subst hact
  go_upto_region 4 with (fail)
  refine lbeg (opsOf Try.f21 4) ?_
  refine lnow 0 (.int .i64 (K l.length : Int)) (some 12) ?_
  refine lnow 1 (.agg #[.int .i64 (K l.length : Int), .int .i64 14]) (some 13) ?_
  refine lnow 2 (.iface 74 (.agg #[.int .i64 (K l.length : Int), .int .i64 14])) (some 14) ?_
  refine lin_panic 3 (.iface 74 (.agg #[.int .i64 (K l.length : Int), .int .i64 14])) (by kernel_rfl) (by kernel_rfl) ?_
  exact ⟨rfl, PP.no (by rw [hB.out]; exact BB.out) EQ.out⟩
 rw [decide_eq_false (by omega : ¬ (nodesR x : Int) > 3000)]
 rw [if_pos hm] at EQ
 refine ldn 3 ?_
 generalize hact : Act.put _ (some 11) _ = act
 simp only [Act.put, sA, sC, sZ] at hact
 subst hact
 go_upto_region 5 with (fail)
 refine lbeg (opsOf Try.f21 5) ?_
 refine lrl 0 (ca) (some 15) 33 4 z 0 BX.out.whole Try.underlying33 (rwSize TA.out.len) ?_
 refine lput 1 33 (.tmp 2) (.tmp 15) (B) _ z6R (ca) BR.out (TA.out.len.trans z6_len.symm) (rwSize TA.out.len) (by simpa using TA.out.one) ?_
 intro w99 b99 u99
 refine ldn 2 ?_
 generalize hact : Act.put _ none _ = act
 simp only [Act.put, sA, sC, sZ] at hact
 subst hact
 have C6 := Lib.hid TA.out.len
 have FIN : Hid (PP K q oo (RRw K) w (.returned (.agg (ca).toArray)) w99) := PP.yes (by rw [hB.out]; exact BB.out.newBlk u99 (Nat.le_refl _) SZ.out) EQ.out ⟨ca, rfl, by rw [hB.out]; exact TA.out.fin u99⟩ (RD.out.upd u99 QB.out)
 have HB := Lib.hid b99
 clear b99 u99 TA
 go_wp2
 refine bodyPost_ret (v := .agg (ca).toArray) ?_ rfl FIN.out
 exact results_cell_row (g := B) (t := 33) (cs := (ca).toArray) (fr := (0, 0)) Try.results21 _ _ _ rfl HB.out Try.underlying33 rfl (rwSize C6.out)
def z8C : List Value := [sT [], .int .i64 0, .int .i64 0, .int .i64 0, .int .i64 0, sT [], .slice none 0 0, .slice none 0 0]
theorem zeroCt : (Try.prog.info? 47).map (·.zero) = some (some (.agg z8C.toArray)) := by kernel_rfl
theorem ctSize {cs : List Value} (h : cs.length = 8) : (Try.prog.info? 47).map (·.size) = some cs.length := by
 rw [h]
 kernel_rfl
theorem z8_len : z8C.length = 8 := rfl
theorem run_ctv (s0 : ByteArray) (a0 k n p : Int) (s : ByteArray) (la aa : Option Addr) (L lc N ac : Nat) (w : World) : (Instr.build 47 #[(0, Value.string s0), (1, .int .i64 a0), (2, .agg [Value.int .i64 k, .int .i64 n, .int .i64 p, .string s, .slice la L lc, .slice aa N ac].toArray)]).run Try.prog w = .ok (.agg [Value.string s0, .int .i64 a0, Value.int .i64 k, .int .i64 n, .int .i64 p, .string s, .slice la L lc, .slice aa N ac].toArray) w := by kernel_rfl
theorem run_ct {K : Nat → Nat} {F : List Nat} {w : World} {t : Rw} {cs : List Value} (h : RwAt K F w t cs) (s : List UInt8) (a0 : Int) (w' : World) : (Instr.build 47 #[(0, sT s), (1, .int .i64 a0), (2, .agg cs.toArray)]).run Try.prog w' = .ok (.agg (sT s :: .int .i64 a0 :: cs).toArray) w' := by
 obtain ⟨_, _, _, _, _, _, _, _, _, _, rfl⟩ := h.form
 exact run_ctv _ _ _ _ _ _ _ _ _ _ _ _ _
def RCt (K : Nat → Nat) (c : Ct) (v : Value) (w w' : World) : Prop := ∃ cs, v = .agg cs.toArray ∧ CtAt K (List.range w.heap.size) w' c cs
theorem CtAt.fin {K : Nat → Nat} {B : Nat} {w w' : World} {c : Ct} {cs : List Value} (h : CtAt K (List.range (B + 1)) w c cs) (hu : Upd B w w') : CtAt K (List.range B) w' c cs := (ctG K).sub (fun k hk => .inl (List.mem_range.2 (by have := List.mem_range.1 hk; omega))) _ _ ((ctG K).step (Step.of_upd hu (List.mem_range.2 (Nat.lt_succ_self B))) _ _ h)
theorem run_cts (s0 : ByteArray) (a0 k n p : Int) (s : ByteArray) (la aa : Option Addr) (L lc N ac : Nat) (w : World) : (Instr.buildSlice 38 1 #[(0, .agg [Value.string s0, .int .i64 a0, Value.int .i64 k, .int .i64 n, .int .i64 p, .string s, .slice la L lc, .slice aa N ac].toArray)]).run Try.prog w = .ok (.slice (some ⟨w.heap.size, 0, none⟩) 1 1) (w.alloc (.cells [Value.string s0, .int .i64 a0, Value.int .i64 k, .int .i64 n, .int .i64 p, .string s, .slice la L lc, .slice aa N ac].toArray 47)) := by kernel_rfl
theorem run_ct1 {K : Nat → Nat} {F : List Nat} {w : World} {c : Ct} {cs : List Value} (h : CtAt K F w c cs) (w' : World) : (Instr.buildSlice 38 1 #[(0, .agg cs.toArray)]).run Try.prog w' = .ok (.slice (some ⟨w'.heap.size, 0, none⟩) 1 1) (w'.alloc (.cells cs.toArray 47)) := by
 obtain ⟨tc, rfl, h2⟩ := h
 obtain ⟨_, _, _, _, _, _, _, _, _, _, rfl⟩ := h2.form
 exact run_cts _ _ _ _ _ _ _ _ _ _ _ _ _
theorem infoCtY : (Try.prog.info? 47).map (fun i => (i.zero, i.size, i.bytes)) = some (some (.agg z8C.toArray), 8, 112) := by kernel_rfl
abbrev CtRow (K : Nat → Nat) (m : Nat) (w : World) (v : Value) (cs : List Ct) : Prop := RowG (CtAt K) 8 47 m w v cs
section
variable {K : Nat → Nat} {m q : Nat} {w w' : World} {v : Value} {xs : List Ct}
theorem CtRow.call (h : CtRow K m w v xs) (hb : Bel [q] w.heap.size w w') (hq : q < m) : CtRow K m w' v xs := RowG.call (ctG K) h hb hq
theorem CtRow.sl (h : CtRow K m w v xs) : ∃ a c, v = .slice a xs.length c := (RowG.in (ctG K) h).slice
end
/-- New memory lies off what was there. -/
theorem PredG.old {α : Type} {P : List Nat → World → α → List Value → Prop} {sz : Nat} (hP : PredG P sz) {m : Nat} {G : List Nat} {w : World} {x : α} {cs : List Value} (h : P (List.range m) w x cs) (hG : ∀ k ∈ G, k < m) : P G w x cs := hP.sub (fun k hk => .inl (List.mem_range.2 (hG k hk))) _ _ h
theorem range_own {α : Type} {P : List Nat → World → α → List Value → Prop} {sz : Nat} {ty : TypeId} {m : Nat} {w : World} {v : Value} {xs : List α} (h : RowG P sz ty m w v xs) (hm : m ≤ w.heap.size) : ∀ k ∈ List.range m ++ ownL v, k < w.heap.size := fun k hk => by
 rcases List.mem_append.1 hk with hk | hk
 ·have := List.mem_range.1 hk; omega
 ·exact (h.own k (ownL_mem.1 hk)).2
theorem ctLoop_yes {f : Nat} {cs : List Ct} {l : List (List UInt8)} (h : nx l = [124]) : ctLoop (f + 1) cs l = if cs.length < 8 then (ctorP l.tail).bind fun c r => ctLoop f (cs ++ [c]) r else .err l.tail.length 10 := by rw [ctLoop, if_pos h]
theorem ctLoop_no {f : Nat} {cs : List Ct} {l : List (List UInt8)} (h : ¬ nx l = [124]) (hf : 0 < f) : ctLoop f cs l = .ok cs l := by
 obtain ⟨g, rfl⟩ : ∃ g, f = g + 1 := ⟨f - 1, by omega⟩
 rw [ctLoop, if_neg h]
def RCts (K : Nat → Nat) (cs : List Ct) (v : Value) (w w' : World) : Prop := SlG (CtAt K) 8 (List.range w.heap.size) w' v cs
set_option maxHeartbeats 8000000 in
theorem ctor_walk (K : Nat → Nat) (q : Nat) (w : World) (l : List (List UInt8)) (h : PAt K q w l) : Calls Try.prog 61 #[.pointer (some ⟨q, 0, none⟩)] w (PP K q (ctorP l) (RCt K) w) := by
 obtain ⟨oo, hoo⟩ : ∃ oo, Hid (ctorP l = oo) := ⟨_, rfl⟩
 rw [hoo.out]
 have EQ := hoo
 clear hoo
 unfold ctorP at EQ
 obtain ⟨B, hB⟩ : ∃ B, Hid (w.heap.size = B) := ⟨_, rfl⟩
 have RD := Lib.hid h
 have QB : Hid (q < B) := by rw [← hB.out]; exact h.lt
 have BB : Hid (Bel [q] B w w) := Bel.refl _ _ _
 have SZ : Hid (B ≤ w.heap.size) := by rw [Hid, hB.out]; exact Nat.le_refl _
 clear h
 go_enter Try.func61, Try.ntmps61
 go_upto_region 0 with (fail)
 refine lbeg (opsOf Try.f61 0) ?_
 refine lin_alloc 0 47 (z8C) (B) (some 2) (by kernel_rfl) (by kernel_rfl) (by kernel_rfl) zeroCt hB ?_
 intro w1 bx ex sx
 replace RD := Lib.hid (RD.out.below ex QB.out)
 replace BB : Hid (Bel [q] B w w1) := Bel.of ex
 replace SZ : Hid (B ≤ w1.heap.size) := Nat.le_of_lt bx.lt
 have BR := Lib.hid bx
 clear bx ex sx
 refine ldn 1 ?_
 generalize hact : Act.put _ (some 2) _ = act
 simp only [Act.put, sA, sC, sZ] at hact
 subst hact
 go_upto_region 1 with (fail)
 refine lbeg (opsOf Try.f61 1) ?_
 refine lnow 0 (.pointer (some ⟨q, 0, none⟩)) (some 5) ?_
 refine lcal 1 35 #[.pointer (some ⟨q, 0, none⟩)] (some 6) _ (at_walk K q w1 l RD.out) ?_
 rintro e w' ⟨rfl, hw'⟩
 obtain rfl := hw'.symm
 refine ⟨_, rfl, ?_⟩
 refine lnow 2 (.pointer (some ⟨q, 0, none⟩)) (some 7) ?_
 refine lin_callPP 3 49 #[.pointer (some ⟨q, 0, none⟩)] (some 8) (by kernel_rfl) (by kernel_rfl) (by kernel_rfl) (name_walk K q w1 l RD.out) EQ (fun p c w' hb ho => ⟨rfl, PP.no (by rw [hB.out]; exact BB.out.trans (hb.mono SZ.out)) ho⟩) ?_
 intro s l3 vv w2 hx EQ1 hb hv hp
 replace EQ := EQ1
 clear EQ1
 obtain rfl : vv = sT s := hv
 clear hx
 replace BR := Lib.hid (bel_keep hb BR.out (by have := QB.out; omega) BR.out.lt)
 replace BB := Lib.hid (BB.out.trans (hb.mono SZ.out))
 replace SZ := Lib.hid (Nat.le_trans SZ.out hb.size)
 replace RD := Lib.hid hp
 clear hb hp
 refine lnow 4 (.int .i64 (K l.length : Int)) (some 3) ?_
 refine lnow 5 (sT s) (some 4) ?_
 refine ldn 6 ?_
 generalize hact : Act.put _ (some 4) _ = act
 simp only [Act.put, sA, sC, sZ] at hact
 subst hact
 go_upto_region 2 with (fail)
 refine lbeg (opsOf Try.f61 2) ?_
 refine lnow 0 (.pointer (some ⟨q, 0, none⟩)) (some 9) ?_
 refine lin_callPP 1 52 #[.pointer (some ⟨q, 0, none⟩), sT [58]] (some 10) (by kernel_rfl) (by kernel_rfl) (by kernel_rfl) (expect_walk K q w2 l3 RD.out [58] (by decide)) EQ (fun p c w' hb ho => ⟨rfl, PP.no (by rw [hB.out]; exact BB.out.trans (hb.mono SZ.out)) ho⟩) ?_
 intro x l5 vv w4 hx EQ1 hb hv hp
 replace EQ := EQ1
 clear EQ1
 obtain rfl : vv = .tuple #[] := hv
 clear hx x
 replace BR := Lib.hid (bel_keep hb BR.out (by have := QB.out; omega) BR.out.lt)
 replace BB := Lib.hid (BB.out.trans (hb.mono SZ.out))
 replace SZ := Lib.hid (Nat.le_trans SZ.out hb.size)
 replace RD := Lib.hid hp
 clear hb hp
 refine ldn 2 ?_
 generalize hact : Act.put _ (some 10) _ = act
 simp only [Act.put, sA, sC, sZ] at hact
 subst hact
 go_upto_region 3 with (fail)
 refine lbeg (opsOf Try.f61 3) ?_
 refine lnow 0 (sT s) (some 11) ?_
 refine lnow 1 (.int .i64 (K l.length : Int)) (some 12) ?_
 refine lnow 2 (.pointer (some ⟨q, 0, none⟩)) (some 13) ?_
 refine lin_callPP 3 21 #[.pointer (some ⟨q, 0, none⟩)] (some 14) (by kernel_rfl) (by kernel_rfl) (by kernel_rfl) (whole_walk K q w4 l5 RD.out) EQ (fun p c w' hb ho => ⟨rfl, PP.no (by rw [hB.out]; exact BB.out.trans (hb.mono SZ.out)) ho⟩) ?_
 intro ty l7 vv w6 hx EQ1 hb hv hp
 replace EQ := EQ1
 clear EQ1
 obtain ⟨ca, rfl, hct⟩ := hv
 have TA := Lib.hid (hct.range (BR.out.lt : B + 1 ≤ _))
 clear hct hx
 replace BR := Lib.hid (bel_keep hb BR.out (by have := QB.out; omega) BR.out.lt)
 replace BB := Lib.hid (BB.out.trans (hb.mono SZ.out))
 replace SZ := Lib.hid (Nat.le_trans SZ.out hb.size)
 replace RD := Lib.hid hp
 clear hb hp
 have HN : Hid (CtAt K (List.range (B + 1)) w6 ⟨s, l.length, ty⟩ (sT s :: .int .i64 (K l.length : Int) :: ca)) := ⟨ca, rfl, TA.out⟩
 have C8 := Lib.hid ((ctG K).len HN.out)
 refine lnowP 4 (.agg (sT s :: .int .i64 (K l.length : Int) :: ca).toArray) (some 15) (exec_of (Instr.build 47 #[(0, sT s), (1, .int .i64 (K l.length : Int)), (2, .agg ca.toArray)]) _ (by kernel_rfl) (run_ct TA.out s _ _)) ?_
 refine lput 5 47 (.tmp 2) (.tmp 15) (B) _ z8C (sT s :: .int .i64 (K l.length : Int) :: ca) BR.out (C8.out.trans z8_len.symm) (ctSize C8.out) (by simpa using (ctG K).one HN.out) ?_
 intro w99 b99 u99
 refine ldn 6 ?_
 generalize hact : Act.put _ none _ = act
 simp only [Act.put, sA, sC, sZ] at hact
 subst hact
 have FIN : Hid (PP K q oo (RCt K) w (.returned (.agg (sT s :: .int .i64 (K l.length : Int) :: ca).toArray)) w99) := PP.yes (by rw [hB.out]; exact BB.out.newBlk u99 (Nat.le_refl _) SZ.out) EQ.out ⟨sT s :: .int .i64 (K l.length : Int) :: ca, rfl, by rw [hB.out]; exact HN.out.fin u99⟩ (RD.out.upd u99 QB.out)
 have HB := Lib.hid b99
 clear b99 u99 HN
 go_wp2
 refine bodyPost_ret (v := .agg (sT s :: .int .i64 (K l.length : Int) :: ca).toArray) ?_ rfl FIN.out
 exact results_cell_row (g := B) (t := 47) (cs := (sT s :: .int .i64 (K l.length : Int) :: ca).toArray) (fr := (0, 0)) Try.results61 _ _ _ rfl HB.out Try.underlying47 rfl (ctSize C8.out)
set_option maxHeartbeats 8000000 in
theorem ctors_walk (K : Nat → Nat) (q : Nat) (w : World) (l : List (List UInt8)) (h : PAt K q w l) : Calls Try.prog 53 #[.pointer (some ⟨q, 0, none⟩)] w (PP K q (ctorsP l) (RCts K) w) := by
 obtain ⟨oo, hoo⟩ : ∃ oo, Hid (ctorsP l = oo) := ⟨_, rfl⟩
 rw [hoo.out]
 have EQ := hoo
 clear hoo
 unfold ctorsP at EQ
 obtain ⟨B, hB⟩ : ∃ B, Hid (w.heap.size = B) := ⟨_, rfl⟩
 have RD := Lib.hid h
 have QB : Hid (q < B) := by rw [← hB.out]; exact h.lt
 have BB : Hid (Bel [q] B w w) := Bel.refl _ _ _
 have SZ : Hid (B ≤ w.heap.size) := by rw [Hid, hB.out]; exact Nat.le_refl _
 clear h
 go_enter Try.func53, Try.ntmps53
 go_upto_region 0 with (fail)
 refine lbeg (opsOf Try.f53 0) ?_
 refine lnow 0 (.slice none 0 0) (some 2) ?_
 refine ldn 1 ?_
 generalize hact : Act.put _ (some 2) _ = act
 simp only [Act.put, sA, sC, sZ] at hact
 subst hact
 go_upto_region 1 with (fail)
 refine lbeg (opsOf Try.f53 1) ?_
 refine lnow 0 (.pointer (some ⟨q, 0, none⟩)) (some 4) ?_
 refine lin_callPP 1 61 #[.pointer (some ⟨q, 0, none⟩)] (some 5) (by kernel_rfl) (by kernel_rfl) (by kernel_rfl) (ctor_walk K q w l RD.out) EQ (fun p c w' hb ho => ⟨rfl, PP.no (by rw [hB.out]; exact BB.out.trans (hb.mono SZ.out)) ho⟩) ?_
 intro x l1 vv w1 hx EQ1 hb hv hp
 replace EQ := EQ1
 clear EQ1
 obtain ⟨cs, rfl, hct⟩ := hv
 clear hx
 have CX := Lib.hid ((ctG K).sub (G := List.range B) (fun k hk => .inl (List.mem_range.2 (by have := List.mem_range.1 hk; have := SZ.out; omega))) _ _ hct)
 clear hct
 replace BB := Lib.hid (BB.out.trans (hb.mono SZ.out))
 replace SZ := Lib.hid (Nat.le_trans SZ.out hb.size)
 replace RD := Lib.hid hp
 clear hb hp
 obtain ⟨z, hz⟩ : ∃ z, Hid (w1.heap.size = z) := ⟨_, rfl⟩
 have oz : Hid (B ≤ z) := by rw [Hid, ← hz.out]; exact SZ.out
 refine lin_row 2 47 cs z 1 (some 6) (by kernel_rfl) (by kernel_rfl) hz (exec_of _ _ (by kernel_rfl) (run_ct1 CX.out _)) ?_
 intro w2 bb eb sb
 have RWF : Hid (CtRow K B w2 (.slice (some ⟨z, 0, none⟩) 1 1) [x]) := RowG.one (ctG K) bb ((ctG K).sub (fun k hk => (List.mem_append.1 hk).imp id (fun h => by rw [List.mem_singleton.1 h]; exact Nat.le_of_eq hz.out)) _ _ CX.out |> fun h9 => (ctG K).step (Step.of_below eb (Nat.le_of_eq hz.out)) _ _ h9) oz.out
 rw [← hz.out] at eb
 replace RD := Lib.hid (RD.out.below eb RD.out.lt)
 replace BB := Lib.hid (BB.out.trans (Bel.of (eb.mono SZ.out)))
 replace SZ := Lib.hid (Nat.le_trans SZ.out eb.size)
 clear bb eb sb hz CX
 refine lnow 3 (.slice (some ⟨z, 0, none⟩) 1 1) (some 3) ?_
 refine ldn 4 ?_
 generalize hact : Act.put _ (some 3) _ = act
 simp only [Act.put, sA, sC, sZ] at hact
 subst hact
 go_wp2
 go_loopg [3] 8 (fun g s3 wr => ∃ (f : Nat) (li : List (List UInt8)) (ls : List Ct) (rv : Value), rv = s3 ∧ Hid (ls.length + g = 9) ∧ Hid (10 ≤ f + ls.length) ∧ Hid (ls.length ≤ 8) ∧ Hid (ctLoop f ls li = oo) ∧ Hid (PAt K q wr li) ∧ Hid (Bel [q] B w wr) ∧ Hid (CtRow K B wr rv ls) ∧ Hid (B ≤ wr.heap.size))
 case atStart => exact ⟨FU, l1, [x], _, rfl, rfl, (by unfold FU; rw [Hid]; omega), (show [x].length ≤ 8 by simp), EQ, RD, BB, RWF, SZ⟩
 case round =>
  clear EQ RD BB RWF SZ
  obtain ⟨f, li, ls, rv, hrv, GL, FF, L8, EQ, RD, BB, RWF, SZ⟩ := hrel
  subst hrv
  obtain ⟨la, lc, hrs⟩ := RWF.out.sl
  obtain ⟨M, hM⟩ : ∃ M, Hid (ls.length = M) := ⟨_, rfl⟩
  rw [hM.out] at hrs GL FF L8
  subst hrs
  have gl := GL.out
  have ff := FF.out
  have l8 := L8.out
  by_cases c : nx li = [124]
  rotate_left
  ·skip
   rw [ctLoop_no c (by omega)] at EQ
   go_upto_region 2 with (fail)
   refine lbeg (opsOf Try.f53 2) ?_
   refine lnow 0 (.pointer (some ⟨q, 0, none⟩)) (some 7) ?_
   refine lcal 1 50 #[.pointer (some ⟨q, 0, none⟩), sT [124]] (some 8) _ (accept_no K q wr li RD.out [124] c) ?_
   rintro e w' ⟨rfl, hw'⟩
   obtain rfl := hw'.symm
   refine ⟨_, rfl, ?_⟩
   refine ldn 2 ?_
   generalize hact : Act.put _ (some 8) _ = act
   simp only [Act.put, sA, sC, sZ] at hact
   subst hact
   have FIN : Hid (PP K q oo (RCts K) w (.returned (.slice la M lc)) wr) := PP.yes (by rw [hB.out]; exact BB.out) EQ.out (by rw [RCts, hB.out]; exact RowG.in (ctG K) RWF.out) RD.out
   clear RWF BB RD
   go_upto_region 5 with (fail)
   refine lbeg (opsOf Try.f53 5) ?_
   refine lnow 0 (.slice la M lc) (some 19) ?_
   refine lnow 1 (.slice la M lc) (some 2) ?_
   refine ldn 2 ?_
   generalize hact : Act.put _ (some 2) _ = act
   simp only [Act.put, sA, sC, sZ] at hact
   subst hact
   go_wp2
   go_ret
   exact FIN.out
  obtain ⟨f', rfl⟩ : ∃ f', f = f' + 1 := ⟨f - 1, by omega⟩
  rw [ctLoop_yes c, hM.out] at EQ
  go_upto_region 2 with (fail)
  refine lbeg (opsOf Try.f53 2) ?_
  refine lnow 0 (.pointer (some ⟨q, 0, none⟩)) (some 7) ?_
  refine lcal 1 50 #[.pointer (some ⟨q, 0, none⟩), sT [124]] (some 8) _ (accept_yes K q wr li RD.out [124] c (by decide)) ?_
  rintro e w3 ⟨rfl, hb, hp⟩
  refine ⟨_, rfl, ?_⟩
  obtain ⟨l4, hl4⟩ : ∃ y, Hid (li.tail = y) := ⟨_, rfl⟩
  rw [hl4.out] at hp
  try rw [hl4.out] at EQ
  replace RWF := Lib.hid (CtRow.call RWF.out hb (by have := QB.out; omega))
  replace BB := Lib.hid (BB.out.trans (hb.mono SZ.out))
  replace SZ := Lib.hid (Nat.le_trans SZ.out hb.size)
  replace RD := Lib.hid hp
  clear hb hp
  refine ldn 2 ?_
  generalize hact : Act.put _ (some 8) _ = act
  simp only [Act.put, sA, sC, sZ] at hact
  subst hact
  go_upto_region 3 with (fail)
  refine lbeg (opsOf Try.f53 3) ?_
  refine lnow 0 (.pointer (some ⟨q, 0, none⟩)) (some 9) ?_
  refine lnow 1 (.slice la M lc) (some 10) ?_
  refine lnow 2 (.int .i64 (M : Int)) (some 11) ?_
  refine lnow 3 (.bool (decide ((M : Int) < 8))) (some 12) ?_
  by_cases hm8 : M < 8
  rotate_left
  ·skip
   rw [decide_eq_false (by omega : ¬ (M : Int) < 8)]
   rw [if_neg hm8] at EQ
   refine lin_callP 4 22 #[.pointer (some ⟨q, 0, none⟩), .bool false] (some 13) _ (by kernel_rfl) (by kernel_rfl) (by kernel_rfl) (need_noP K q w3 l4 RD.out) ?_
   rintro e w' ⟨rfl, hw'⟩
   obtain rfl := hw'.symm
   exact .inr ⟨_, rfl, rfl, PP.no (by rw [hB.out]; exact BB.out) EQ.out⟩
  rw [decide_eq_true (by omega : (M : Int) < 8)]
  rw [if_pos hm8] at EQ
  refine lcal 4 22 #[.pointer (some ⟨q, 0, none⟩), .bool true] (some 13) _ (need_yesP q w3) ?_
  rintro e w' ⟨rfl, hw'⟩
  obtain rfl := hw'.symm
  refine ⟨_, rfl, ?_⟩
  refine ldn 5 ?_
  generalize hact : Act.put _ (some 13) _ = act
  simp only [Act.put, sA, sC, sZ] at hact
  subst hact
  go_upto_region 4 with (fail)
  refine lbeg (opsOf Try.f53 4) ?_
  refine lnow 0 (.slice la M lc) (some 14) ?_
  refine lnow 1 (.pointer (some ⟨q, 0, none⟩)) (some 15) ?_
  refine lin_callPP 2 61 #[.pointer (some ⟨q, 0, none⟩)] (some 16) (by kernel_rfl) (by kernel_rfl) (by kernel_rfl) (ctor_walk K q w3 l4 RD.out) EQ (fun p c w' hb ho => ⟨rfl, PP.no (by rw [hB.out]; exact BB.out.trans (hb.mono SZ.out)) ho⟩) ?_
  intro x l3 vv w5 hx EQ1 hb hv hp
  replace EQ := EQ1
  clear EQ1
  obtain ⟨cs, rfl, hct⟩ := hv
  clear hx
  have CX := Lib.hid ((ctG K).old hct (range_own RWF.out SZ.out))
  clear hct
  replace RWF := Lib.hid (CtRow.call RWF.out hb (by have := QB.out; omega))
  replace BB := Lib.hid (BB.out.trans (hb.mono SZ.out))
  replace SZ := Lib.hid (Nat.le_trans SZ.out hb.size)
  replace RD := Lib.hid hp
  clear hb hp
  refine lin_rowG (ctG K) 47 38 infoCtY Try.underlying38 rfl (by decide) (by decide) (by decide) 3 (some 17) (some 18) x (cs) (.slice la M lc) ls (B) RWF.out (CX.out) (by have := hM.out; omega) (SZ.out) (by kernel_rfl) (by kernel_rfl) (by kernel_rfl) (fun _ => run_ct1 CX.out _) (fun _ => by kernel_rfl) (by kernel_rfl) (fun _ => by kernel_rfl) ?_
  intro zz rv2 wa hrow hbel
  replace RWF : Hid (CtRow K B wa rv2 (ls ++ [x])) := hrow
  replace RD := Lib.hid (RD.out.below hbel QB.out)
  replace BB := Lib.hid (BB.out.trans (Bel.of hbel))
  replace SZ := Lib.hid (Nat.le_trans SZ.out hbel.size)
  clear hrow hbel CX
  have LS : Hid ((ls ++ [x]).length = M + 1) := by rw [Hid, List.length_append, hM.out]; rfl
  refine lnow 5 (rv2) (some 3) ?_
  refine ldn 6 ?_
  generalize hact : Act.put _ (some 3) _ = act
  simp only [Act.put, sA, sC, sZ] at hact
  subst hact
  go_wp2
  go_roundg (gk - 1)
  case rel => exact ⟨f', l3, ls ++ [x], rv2, rfl, (by rw [Hid, LS.out]; omega), (by rw [Hid, LS.out]; omega), (by rw [Hid, LS.out]; omega), EQ, RD, BB, RWF, SZ⟩
  case measure => omega
end Go.Proofs.Ytdacmogedchnaaa
