/- Raw terms as the parser reads them. -/
import Derived.Test.YtdacmogedchnaaaQGenT
import Derived.Test.YtdacmogedchnaaaQPrsG
namespace Go.Proofs.Ytdacmogedchnaaa
open Go Go.RowKit
set_option maxRecDepth 100000
theorem z6_len : z6R.length = 6 := rfl
/-- A tree off the blocks up to B, and off z. -/
def RzAt (K : Nat → Nat) (B z : Nat) (w : World) (t : Rw) (cs : List Value) : Prop := RwAt K (List.range (B + 1) ++ [z]) w t cs
section
variable {K : Nat → Nat} {B z q : Nat} {w w' : World} {t : Rw} {cs : List Value}
theorem RzAt.call (h : RzAt K B z w t cs) (hb : Bel [q] w.heap.size w w') (hq : q < B + 1) : RzAt K B z w' t cs := RwAt.step (hb.step (Nat.le_refl _) (fun k hk => by rw [List.mem_singleton.1 hk]; exact List.mem_append_left _ (List.mem_range.2 hq))) t cs h
theorem RzAt.low (h : RzAt K B z w t cs) (hb : Below w.heap.size w w') : RzAt K B z w' t cs := RwAt.below h hb
theorem RzAt.upd (h : RzAt K B z w t cs) (hu : Upd z w w') : RzAt K B z w' t cs := RwAt.step (Step.of_upd hu (by simp)) t cs h
theorem RzAt.rw (h : RzAt K B z w t cs) : RwAt K (List.range (B + 1)) w t cs := RwAt.sub (fun k hk => .inl (List.mem_append_left _ hk)) t cs h
theorem RzAt.len (h : RzAt K B z w t cs) : cs.length = 6 := RwAt.len h
theorem RzAt.one (h : RzAt K B z w t cs) : ∀ u ∈ cs, u.oneCell' = true := RwAt.one h
theorem RzAt.new (h : RwAt K (List.range (B + 1)) w t cs) (hz : w.heap.size ≤ z) : RzAt K B z w t cs := RwAt.sub (fun k hk => (List.mem_append.1 hk).imp id (fun h => by rw [List.mem_singleton.1 h]; exact hz)) t cs h
theorem RzAt.old {m : Nat} (h : RwAt K (List.range m) w t cs) (hB : B < m) (hz : z < m) : RzAt K B z w t cs := RwAt.off h (fun k hk => .inl (by
 rcases List.mem_append.1 hk with h | h
 ·have := List.mem_range.1 h; omega
 ·rw [List.mem_singleton.1 h]; exact hz))
theorem rz_no {y : Nat} (h1 : B < y) (h2 : z < y) : y ∉ List.range (B + 1) ++ [z] := fun hc => by
 rcases List.mem_append.1 hc with h | h
 ·have := List.mem_range.1 h; omega
 ·rw [List.mem_singleton.1 h] at h2; omega
end
def projP (A : List (List UInt8) → PR Rw) (p : Nat) (l : List (List UInt8)) : PR Rw := (numTo 31 l).bind fun n r => (exP [111, 102] r).bind fun _ r => (namP r).bind fun s r => (A r).bind fun a r => (exP [93] r).bind fun _ r => .ok (.mk 9 n (some p) s 0 [a]) r
set_option maxHeartbeats 8000000 in
theorem proj_walk (K : Nat → Nat) (q : Nat) (w : World) (l : List (List UInt8)) (h : PAt K q w l) (A : List (List UInt8) → PR Rw) (p : Nat) (n : Nat) (HA : ∀ (w : World) (l : List (List UInt8)), l.length + 1 ≤ n → PAt K q w l → Calls Try.prog 62 #[.pointer (some ⟨q, 0, none⟩)] w (PP K q (A l) (RRw K) w)) (hn : l.length + 1 ≤ n) : Calls Try.prog 69 #[.pointer (some ⟨q, 0, none⟩), .int .i64 (K p : Int)] w (PP K q (projP A p l) (RRw K) w) := by
 obtain ⟨oo, hoo⟩ : ∃ oo, Hid (projP A p l = oo) := ⟨_, rfl⟩
 rw [hoo.out]
 have EQ := hoo
 clear hoo
 unfold projP at EQ
 have LL := Lib.hid hn
 obtain ⟨B, hB⟩ : ∃ B, Hid (w.heap.size = B) := ⟨_, rfl⟩
 have RD := Lib.hid h
 have QB : Hid (q < B) := by rw [← hB.out]; exact h.lt
 have BB : Hid (Bel [q] B w w) := Bel.refl _ _ _
 have SZ : Hid (B ≤ w.heap.size) := by rw [Hid, hB.out]; exact Nat.le_refl _
 clear h
 go_enter Try.func69, Try.ntmps69
 go_upto_region 0 with (fail)
 refine lbeg (opsOf Try.f69 0) ?_
 refine lin_alloc 0 33 (z6R) (B) (some 4) (by kernel_rfl) (by kernel_rfl) (by kernel_rfl) zeroRw hB ?_
 intro w1 bx ex sx
 replace RD := Lib.hid (RD.out.below ex QB.out)
 replace BB : Hid (Bel [q] B w w1) := Bel.of ex
 replace SZ : Hid (B ≤ w1.heap.size) := Nat.le_of_lt bx.lt
 have BR := Lib.hid bx
 clear bx ex sx
 refine ldn 1 ?_
 generalize hact : Act.put _ (some 4) _ = act
 simp only [Act.put, sA, sC, sZ] at hact
 subst hact
 go_upto_region 1 with (fail)
 refine lbeg (opsOf Try.f69 1) ?_
 refine lnow 0 (.pointer (some ⟨q, 0, none⟩)) (some 8) ?_
 refine lin_callPP 1 51 #[.pointer (some ⟨q, 0, none⟩), .int .i64 31] (some 9) (by kernel_rfl) (by kernel_rfl) (by kernel_rfl) (numto_walk K q w1 l RD.out 31) EQ (fun p c w' hb ho => ⟨rfl, PP.no (by rw [hB.out]; exact BB.out.trans (hb.mono SZ.out)) ho⟩) ?_
 intro x l3 vv w2 hx EQ1 hb hv hp
 replace EQ := EQ1
 clear EQ1
 obtain rfl : vv = .int .i64 (x : Int) := hv
 replace BR := Lib.hid (bel_keep hb BR.out (by have := QB.out; omega) BR.out.lt)
 replace BB := Lib.hid (BB.out.trans (hb.mono SZ.out))
 replace SZ := Lib.hid (Nat.le_trans SZ.out hb.size)
 replace RD := Lib.hid hp
 clear hb hp
 replace LL : Hid (l3.length + 1 ≤ n) := by have := LL.out; have := numTo_lt hx; rw [Hid]; omega
 clear hx
 refine lnow 2 (.int .i64 (x : Int)) (some 5) ?_
 refine ldn 3 ?_
 generalize hact : Act.put _ (some 5) _ = act
 simp only [Act.put, sA, sC, sZ] at hact
 subst hact
 go_upto_region 2 with (fail)
 refine lbeg (opsOf Try.f69 2) ?_
 refine lnow 0 (.pointer (some ⟨q, 0, none⟩)) (some 10) ?_
 refine lin_callPP 1 52 #[.pointer (some ⟨q, 0, none⟩), sT [111, 102]] (some 11) (by kernel_rfl) (by kernel_rfl) (by kernel_rfl) (expect_walk K q w2 l3 RD.out [111, 102] (by decide)) EQ (fun p c w' hb ho => ⟨rfl, PP.no (by rw [hB.out]; exact BB.out.trans (hb.mono SZ.out)) ho⟩) ?_
 intro y l5 vv w4 hx EQ1 hb hv hp
 replace EQ := EQ1
 clear EQ1
 obtain rfl : vv = .tuple #[] := hv
 replace BR := Lib.hid (bel_keep hb BR.out (by have := QB.out; omega) BR.out.lt)
 replace BB := Lib.hid (BB.out.trans (hb.mono SZ.out))
 replace SZ := Lib.hid (Nat.le_trans SZ.out hb.size)
 replace RD := Lib.hid hp
 clear hb hp
 replace LL : Hid (l5.length + 1 ≤ n) := by have := LL.out; have := exP_lt hx (by decide); rw [Hid]; omega
 clear hx
 refine ldn 2 ?_
 generalize hact : Act.put _ (some 11) _ = act
 simp only [Act.put, sA, sC, sZ] at hact
 subst hact
 go_upto_region 3 with (fail)
 refine lbeg (opsOf Try.f69 3) ?_
 refine lnow 0 (.pointer (some ⟨q, 0, none⟩)) (some 12) ?_
 refine lin_callPP 1 49 #[.pointer (some ⟨q, 0, none⟩)] (some 13) (by kernel_rfl) (by kernel_rfl) (by kernel_rfl) (name_walk K q w4 l5 RD.out) EQ (fun p c w' hb ho => ⟨rfl, PP.no (by rw [hB.out]; exact BB.out.trans (hb.mono SZ.out)) ho⟩) ?_
 intro s l7 vv w6 hx EQ1 hb hv hp
 replace EQ := EQ1
 clear EQ1
 obtain rfl : vv = sT s := hv
 replace BR := Lib.hid (bel_keep hb BR.out (by have := QB.out; omega) BR.out.lt)
 replace BB := Lib.hid (BB.out.trans (hb.mono SZ.out))
 replace SZ := Lib.hid (Nat.le_trans SZ.out hb.size)
 replace RD := Lib.hid hp
 clear hb hp
 replace LL : Hid (l7.length + 1 ≤ n) := by have := LL.out; have := namP_lt hx; rw [Hid]; omega
 clear hx
 refine lnow 2 (sT s) (some 6) ?_
 refine ldn 3 ?_
 generalize hact : Act.put _ (some 6) _ = act
 simp only [Act.put, sA, sC, sZ] at hact
 subst hact
 go_upto_region 4 with (fail)
 refine lbeg (opsOf Try.f69 4) ?_
 refine lnow 0 (.int .i64 (x : Int)) (some 14) ?_
 refine lnow 1 (.int .i64 (K p : Int)) (some 15) ?_
 refine lnow 2 (sT s) (some 16) ?_
 refine lnow 3 (.pointer (some ⟨q, 0, none⟩)) (some 17) ?_
 refine lin_callPP 4 62 #[.pointer (some ⟨q, 0, none⟩)] (some 18) (by kernel_rfl) (by kernel_rfl) (by kernel_rfl) (HA w6 l7 (by have := LL.out; omega) RD.out) EQ (fun p c w' hb ho => ⟨rfl, PP.no (by rw [hB.out]; exact BB.out.trans (hb.mono SZ.out)) ho⟩) ?_
 intro a l9 vv w8 hx EQ1 hb hv hp
 replace EQ := EQ1
 clear EQ1
 obtain ⟨ca, rfl, hct⟩ := hv
 have TA := Lib.hid (hct.range (BR.out.lt : B + 1 ≤ _))
 clear hct hx
 replace BR := Lib.hid (bel_keep hb BR.out (by have := QB.out; omega) BR.out.lt)
 replace BB := Lib.hid (BB.out.trans (hb.mono SZ.out))
 replace SZ := Lib.hid (Nat.le_trans SZ.out hb.size)
 replace RD := Lib.hid hp
 clear hb hp
 obtain ⟨za, hza⟩ : ∃ za, Hid (w8.heap.size = za) := ⟨_, rfl⟩
 have oza : Hid (B ≤ za) := by rw [Hid, ← hza.out]; exact SZ.out
 have ozaBR : Hid (B < za) := by rw [Hid, ← hza.out]; exact BR.out.lt
 refine lin_row 5 33 (ca) za 1 (some 19) (by kernel_rfl) (by kernel_rfl) hza (exec_of _ _ (by kernel_rfl) (run_args1 TA.out _)) ?_
 intro w10 bb eb sb
 have BA := Lib.hid bb
 rw [← hza.out] at eb
 replace BR := Lib.hid (BR.out.below eb BR.out.lt)
 replace TA := Lib.hid (RwAt.low TA.out eb)
 replace RD := Lib.hid (RD.out.below eb RD.out.lt)
 replace BB := Lib.hid (BB.out.trans (Bel.of (eb.mono SZ.out)))
 replace SZ := Lib.hid (Nat.le_trans SZ.out eb.size)
 clear bb eb sb hza
 have HN : Hid (RwAt K (List.range (B + 1)) w10 (.mk 9 x (some p) s 0 [a]) (nodeC K 9 x (some p) s (.slice none 0 0) (.slice (some ⟨za, 0, none⟩) 1 1))) := node_at (LvsN.nil _ _ _ _) (args1 BA.out TA.out (range_no ozaBR.out))
 refine lnow 6 (.agg (nodeC K 9 x (some p) s (.slice none 0 0) (.slice (some ⟨za, 0, none⟩) 1 1)).toArray) (some 20) ?_
 obtain ⟨zb, hzb⟩ : ∃ zb, Hid (w10.heap.size = zb) := ⟨_, rfl⟩
 have ozb : Hid (B ≤ zb) := by rw [Hid, ← hzb.out]; exact SZ.out
 have ozbBR : Hid (B < zb) := by rw [Hid, ← hzb.out]; exact BR.out.lt
 have ozbBA : Hid (za < zb) := by rw [Hid, ← hzb.out]; exact BA.out.lt
 refine lin_alloc 7 33 (z6R) (zb) (some 7) (by kernel_rfl) (by kernel_rfl) (by kernel_rfl) zeroRw hzb ?_
 intro w11 ba ea sa
 refine lput 8 33 (.tmp 7) (.tmp 20) (zb) _ (z6R) (nodeC K 9 x (some p) s (.slice none 0 0) (.slice (some ⟨za, 0, none⟩) 1 1)) ba (HN.out.len.trans z6_len.symm) (rwSize HN.out.len) (by simpa using HN.out.one) ?_
 intro w12 bb ub
 have eb : Below zb w10 w12 := ub.below ea (Nat.le_refl _) (by have := ba.lt; omega)
 have BX := Lib.hid bb
 rw [← hzb.out] at eb
 replace BR := Lib.hid (BR.out.below eb BR.out.lt)
 replace BA := Lib.hid (BA.out.below eb BA.out.lt)
 replace TA := Lib.hid (RwAt.low TA.out eb)
 replace HN := Lib.hid (RwAt.low HN.out eb)
 replace RD := Lib.hid (RD.out.below eb RD.out.lt)
 replace BB := Lib.hid (BB.out.trans (Bel.of (eb.mono SZ.out)))
 replace SZ := Lib.hid (Nat.le_trans SZ.out eb.size)
 clear ba ea sa bb ub eb hzb
 refine ldn 9 ?_
 generalize hact : Act.put _ none _ = act
 simp only [Act.put, sA, sC, sZ] at hact
 subst hact
 go_upto_region 5 with (fail)
 refine lbeg (opsOf Try.f69 5) ?_
 refine lnow 0 (.pointer (some ⟨q, 0, none⟩)) (some 21) ?_
 refine lin_callPP 1 52 #[.pointer (some ⟨q, 0, none⟩), sT [93]] (some 22) (by kernel_rfl) (by kernel_rfl) (by kernel_rfl) (expect_walk K q w12 l9 RD.out [93] (by decide)) EQ (fun p c w' hb ho => ⟨rfl, PP.no (by rw [hB.out]; exact BB.out.trans (hb.mono SZ.out)) ho⟩) ?_
 intro x l14 vv w13 hx EQ1 hb hv hp
 replace EQ := EQ1
 clear EQ1
 obtain rfl : vv = .tuple #[] := hv
 clear hx x
 replace BR := Lib.hid (bel_keep hb BR.out (by have := QB.out; have := oza.out; have := ozaBR.out; have := ozb.out; have := ozbBR.out; have := ozbBA.out; omega) BR.out.lt)
 replace BA := Lib.hid (bel_keep hb BA.out (by have := QB.out; have := oza.out; have := ozaBR.out; have := ozb.out; have := ozbBR.out; have := ozbBA.out; omega) BA.out.lt)
 replace BX := Lib.hid (bel_keep hb BX.out (by have := QB.out; have := oza.out; have := ozaBR.out; have := ozb.out; have := ozbBR.out; have := ozbBA.out; omega) BX.out.lt)
 replace TA := Lib.hid (RwAt.call TA.out hb (by have := QB.out; have := oza.out; have := ozaBR.out; have := ozb.out; have := ozbBR.out; have := ozbBA.out; omega))
 replace HN := Lib.hid (RwAt.call HN.out hb (by have := QB.out; have := oza.out; have := ozaBR.out; have := ozb.out; have := ozbBR.out; have := ozbBA.out; omega))
 replace BB := Lib.hid (BB.out.trans (hb.mono SZ.out))
 replace SZ := Lib.hid (Nat.le_trans SZ.out hb.size)
 replace RD := Lib.hid hp
 clear hb hp
 refine ldn 2 ?_
 generalize hact : Act.put _ (some 22) _ = act
 simp only [Act.put, sA, sC, sZ] at hact
 subst hact
 go_upto_region 6 with (fail)
 refine lbeg (opsOf Try.f69 6) ?_
 refine lrl 0 (nodeC K 9 x (some p) s (.slice none 0 0) (.slice (some ⟨za, 0, none⟩) 1 1)) (some 23) 33 7 zb 0 BX.out.whole Try.underlying33 (rwSize HN.out.len) ?_
 refine lput 1 33 (.tmp 4) (.tmp 23) (B) _ z6R (nodeC K 9 x (some p) s (.slice none 0 0) (.slice (some ⟨za, 0, none⟩) 1 1)) BR.out (HN.out.len.trans z6_len.symm) (rwSize HN.out.len) (by simpa using HN.out.one) ?_
 intro w99 b99 u99
 refine ldn 2 ?_
 generalize hact : Act.put _ none _ = act
 simp only [Act.put, sA, sC, sZ] at hact
 subst hact
 have C6 := Lib.hid HN.out.len
 have FIN : Hid (PP K q oo (RRw K) w (.returned (.agg (nodeC K 9 x (some p) s (.slice none 0 0) (.slice (some ⟨za, 0, none⟩) 1 1)).toArray)) w99) := PP.yes (by rw [hB.out]; exact BB.out.newBlk u99 (Nat.le_refl _) SZ.out) EQ.out ⟨nodeC K 9 x (some p) s (.slice none 0 0) (.slice (some ⟨za, 0, none⟩) 1 1), rfl, by rw [hB.out]; exact HN.out.fin u99⟩ (RD.out.upd u99 QB.out)
 have HB := Lib.hid b99
 clear b99 u99 HN
 go_wp2
 refine bodyPost_ret (v := .agg (nodeC K 9 x (some p) s (.slice none 0 0) (.slice (some ⟨za, 0, none⟩) 1 1)).toArray) ?_ rfl FIN.out
 exact results_cell_row (g := B) (t := 33) (cs := (nodeC K 9 x (some p) s (.slice none 0 0) (.slice (some ⟨za, 0, none⟩) 1 1)).toArray) (fr := (0, 0)) Try.results69 _ _ _ rfl HB.out Try.underlying33 rfl (rwSize C6.out)
set_option maxHeartbeats 8000000 in
theorem app_walkP (K : Nat → Nat) (q : Nat) (w : World) (l : List (List UInt8)) (h : PAt K q w l) (A : List (List UInt8) → PR Rw) (hA2 : Lt2 A) (n : Nat) (HA : ∀ (w : World) (l : List (List UInt8)), l.length + 1 ≤ n → PAt K q w l → Calls Try.prog 62 #[.pointer (some ⟨q, 0, none⟩)] w (PP K q (A l) (RRw K) w)) (hn : l.length + 1 ≤ n) : Calls Try.prog 56 #[.pointer (some ⟨q, 0, none⟩)] w (PP K q (appG A l) (RRw K) w) := by
 obtain ⟨oo, hoo⟩ : ∃ oo, Hid (appG A l = oo) := ⟨_, rfl⟩
 rw [hoo.out]
 have EQ := hoo
 clear hoo
 unfold appG at EQ
 have LL := Lib.hid hn
 obtain ⟨B, hB⟩ : ∃ B, Hid (w.heap.size = B) := ⟨_, rfl⟩
 have RD := Lib.hid h
 have QB : Hid (q < B) := by rw [← hB.out]; exact h.lt
 have BB : Hid (Bel [q] B w w) := Bel.refl _ _ _
 have SZ : Hid (B ≤ w.heap.size) := by rw [Hid, hB.out]; exact Nat.le_refl _
 clear h
 go_enter Try.func56, Try.ntmps56
 go_upto_region 0 with (fail)
 refine lbeg (opsOf Try.f56 0) ?_
 refine lin_alloc 0 33 (z6R) (B) (some 2) (by kernel_rfl) (by kernel_rfl) (by kernel_rfl) zeroRw hB ?_
 intro w1 bx ex sx
 replace RD := Lib.hid (RD.out.below ex QB.out)
 replace BB : Hid (Bel [q] B w w1) := Bel.of ex
 replace SZ : Hid (B ≤ w1.heap.size) := Nat.le_of_lt bx.lt
 have BR := Lib.hid bx
 clear bx ex sx
 refine ldn 1 ?_
 generalize hact : Act.put _ (some 2) _ = act
 simp only [Act.put, sA, sC, sZ] at hact
 subst hact
 go_upto_region 1 with (fail)
 refine lbeg (opsOf Try.f56 1) ?_
 refine lnow 0 (.pointer (some ⟨q, 0, none⟩)) (some 5) ?_
 refine lcal 1 35 #[.pointer (some ⟨q, 0, none⟩)] (some 6) _ (at_walk K q w1 l RD.out) ?_
 rintro e w' ⟨rfl, hw'⟩
 obtain rfl := hw'.symm
 refine ⟨_, rfl, ?_⟩
 refine lnow 2 (.int .i64 (K l.length : Int)) (some 3) ?_
 refine ldn 3 ?_
 generalize hact : Act.put _ (some 3) _ = act
 simp only [Act.put, sA, sC, sZ] at hact
 subst hact
 go_upto_region 2 with (fail)
 refine lbeg (opsOf Try.f56 2) ?_
 refine lnow 0 (.pointer (some ⟨q, 0, none⟩)) (some 7) ?_
 refine lin_callPP 1 62 #[.pointer (some ⟨q, 0, none⟩)] (some 8) (by kernel_rfl) (by kernel_rfl) (by kernel_rfl) (HA w1 l (by have := LL.out; omega) RD.out) EQ (fun p c w' hb ho => ⟨rfl, PP.no (by rw [hB.out]; exact BB.out.trans (hb.mono SZ.out)) ho⟩) ?_
 intro a l3 vv w2 hx EQ1 hb hv hp
 replace EQ := EQ1
 clear EQ1
 obtain ⟨ca, rfl, hct⟩ := hv
 have TA := Lib.hid (hct.range (BR.out.lt : B + 1 ≤ _))
 replace BR := Lib.hid (bel_keep hb BR.out (by have := QB.out; omega) BR.out.lt)
 replace BB := Lib.hid (BB.out.trans (hb.mono SZ.out))
 replace SZ := Lib.hid (Nat.le_trans SZ.out hb.size)
 replace RD := Lib.hid hp
 clear hb hp
 have LP : Hid (l3.length + 1 ≤ n) := by have := LL.out; have := hA2 hx; rw [Hid]; omega
 clear hct hx
 obtain ⟨z, hz⟩ : ∃ z, Hid (w2.heap.size = z) := ⟨_, rfl⟩
 have oz : Hid (B ≤ z) := by rw [Hid, ← hz.out]; exact SZ.out
 have ozBR : Hid (B < z) := by rw [Hid, ← hz.out]; exact BR.out.lt
 replace TA : Hid (RzAt K B z w2 a ca) := RzAt.new TA.out (Nat.le_of_eq hz.out)
 refine lin_alloc 2 33 (z6R) (z) (some 4) (by kernel_rfl) (by kernel_rfl) (by kernel_rfl) zeroRw hz ?_
 intro w4 ba ea sa
 refine lput 3 33 (.tmp 4) (.tmp 8) (z) _ (z6R) (ca) ba (TA.out.len.trans z6_len.symm) (rwSize TA.out.len) (by simpa using TA.out.one) ?_
 intro w5 bb ub
 have eb : Below z w2 w5 := ub.below ea (Nat.le_refl _) (by have := ba.lt; omega)
 have BX := Lib.hid bb
 rw [← hz.out] at eb
 replace BR := Lib.hid (BR.out.below eb BR.out.lt)
 replace TA := Lib.hid (RzAt.low TA.out eb)
 replace RD := Lib.hid (RD.out.below eb RD.out.lt)
 replace BB := Lib.hid (BB.out.trans (Bel.of (eb.mono SZ.out)))
 replace SZ := Lib.hid (Nat.le_trans SZ.out eb.size)
 clear ba ea sa bb ub eb hz
 refine ldn 4 ?_
 generalize hact : Act.put _ none _ = act
 simp only [Act.put, sA, sC, sZ] at hact
 subst hact
 have LN := Lib.hid RD.out.len
 have ZB := Lib.hid ozBR.out
 obtain ⟨pp, hpp⟩ : ∃ y, Hid (l.length = y) := ⟨_, rfl⟩
 rw [hpp.out] at EQ ⊢
 go_wp2
 go_loopg [] l3.length (fun g wr => ∃ (f : Nat) (li : List (List UInt8)) (t : Rw) (ct : List Value), li.length = g ∧ Hid (li.length + 1 ≤ f) ∧ Hid (li.length + 1 ≤ n) ∧ Hid (appLoop A pp f t li = oo) ∧ Hid (PAt K q wr li) ∧ Hid (Bel [q] B w wr) ∧ Hid (Blk wr B 33 z6R) ∧ Hid (Blk wr z 33 ct) ∧ Hid (RzAt K B z wr t ct))
 case atStart => exact ⟨FU, l3, a, ca, rfl, (by have := LN.out; unfold FU; rw [Hid]; omega), LP, EQ, RD, BB, BR, BX, TA⟩
 case round =>
  clear EQ RD BB BR BX TA SZ LN LP
  obtain ⟨f, li, t, ct, hlg, FF, LP, EQ, RD, BB, BR, BX, TA⟩ := hrel
  subst hlg
  have SZ : Hid (B ≤ wr.heap.size) := Nat.le_of_lt BR.out.lt
  obtain ⟨f', rfl⟩ : ∃ f', f = f' + 1 := ⟨f - 1, by have := FF.out; omega⟩
  rw [appLoop] at EQ
  by_cases c : begA (nx li) = true
  rotate_left
  ·skip
   rw [if_neg c] at EQ
   go_upto_region 3 with (fail)
   refine lbeg (opsOf Try.f56 3) ?_
   refine lnow 0 (.pointer (some ⟨q, 0, none⟩)) (some 9) ?_
   refine lcal 1 39 #[.pointer (some ⟨q, 0, none⟩)] (some 10) _ (text_walk K q wr li RD.out) ?_
   rintro e w' ⟨rfl, hw'⟩
   obtain rfl := hw'.symm
   refine ⟨_, rfl, ?_⟩
   refine lcal 2 63 #[sT (nx li)] (some 11) _ (begins_walk (nx li) RD.out.nx_len wr) ?_
   rintro e w41 ⟨rfl, hb⟩
   refine ⟨_, rfl, ?_⟩
   rw [Bool.eq_false_iff.2 c]
   replace BR := Lib.hid (BR.out.below hb BR.out.lt)
   replace BX := Lib.hid (BX.out.below hb BX.out.lt)
   replace TA := Lib.hid (RzAt.low TA.out hb)
   replace RD := Lib.hid (RD.out.below hb RD.out.lt)
   replace BB := Lib.hid (BB.out.trans (Bel.of (hb.mono SZ.out)))
   replace SZ := Lib.hid (Nat.le_trans SZ.out hb.size)
   clear hb
   refine ldn 3 ?_
   generalize hact : Act.put _ (some 11) _ = act
   simp only [Act.put, sA, sC, sZ] at hact
   subst hact
   replace TA := Lib.hid TA.out.rw
   go_upto_region 5 with (fail)
   refine lbeg (opsOf Try.f56 5) ?_
   refine lrl 0 (ct) (some 18) 33 4 z 0 BX.out.whole Try.underlying33 (rwSize TA.out.len) ?_
   refine lput 1 33 (.tmp 2) (.tmp 18) (B) _ z6R (ct) BR.out (TA.out.len.trans z6_len.symm) (rwSize TA.out.len) (by simpa using TA.out.one) ?_
   intro w99 b99 u99
   refine ldn 2 ?_
   generalize hact : Act.put _ none _ = act
   simp only [Act.put, sA, sC, sZ] at hact
   subst hact
   have C6 := Lib.hid TA.out.len
   have FIN : Hid (PP K q oo (RRw K) w (.returned (.agg (ct).toArray)) w99) := PP.yes (by rw [hB.out]; exact BB.out.newBlk u99 (Nat.le_refl _) SZ.out) EQ.out ⟨ct, rfl, by rw [hB.out]; exact TA.out.fin u99⟩ (RD.out.upd u99 QB.out)
   have HB := Lib.hid b99
   clear b99 u99 TA
   go_wp2
   refine bodyPost_ret (v := .agg (ct).toArray) ?_ rfl FIN.out
   exact results_cell_row (g := B) (t := 33) (cs := (ct).toArray) (fr := (0, 0)) Try.results56 _ _ _ rfl HB.out Try.underlying33 rfl (rwSize C6.out)
  rw [if_pos c] at EQ
  go_upto_region 3 with (fail)
  refine lbeg (opsOf Try.f56 3) ?_
  refine lnow 0 (.pointer (some ⟨q, 0, none⟩)) (some 9) ?_
  refine lcal 1 39 #[.pointer (some ⟨q, 0, none⟩)] (some 10) _ (text_walk K q wr li RD.out) ?_
  rintro e w' ⟨rfl, hw'⟩
  obtain rfl := hw'.symm
  refine ⟨_, rfl, ?_⟩
  refine lcal 2 63 #[sT (nx li)] (some 11) _ (begins_walk (nx li) RD.out.nx_len wr) ?_
  rintro e w41 ⟨rfl, hb⟩
  refine ⟨_, rfl, ?_⟩
  rw [c]
  replace BR := Lib.hid (BR.out.below hb BR.out.lt)
  replace BX := Lib.hid (BX.out.below hb BX.out.lt)
  replace TA := Lib.hid (RzAt.low TA.out hb)
  replace RD := Lib.hid (RD.out.below hb RD.out.lt)
  replace BB := Lib.hid (BB.out.trans (Bel.of (hb.mono SZ.out)))
  replace SZ := Lib.hid (Nat.le_trans SZ.out hb.size)
  clear hb
  refine ldn 3 ?_
  generalize hact : Act.put _ (some 11) _ = act
  simp only [Act.put, sA, sC, sZ] at hact
  subst hact
  go_upto_region 4 with (fail)
  refine region_beginP (opsOf Try.f56 4) (fun _ => True) (by kernel_rfl) (by kernel_rfl) 7 (by kernel_rfl) ?_
  intro Q' hQN hN hP
  have HD : Below w41.heap.size w41 (World.drew w41) := (Below.refl _ _).drew
  replace BR := Lib.hid (BR.out.below HD BR.out.lt)
  replace BX := Lib.hid (BX.out.below HD BX.out.lt)
  replace TA := Lib.hid (RzAt.low TA.out HD)
  replace RD := Lib.hid (RD.out.below HD RD.out.lt)
  replace BB := Lib.hid (BB.out.trans (Bel.of (HD.mono SZ.out)))
  replace SZ := Lib.hid (Nat.le_trans SZ.out HD.size)
  clear HD
  generalize World.drew w41 = wd at RD BB SZ BR BX TA ⊢
  refine reg_now 0 (.int .i64 (K pp : Int)) (some 12) hQN trivial (by kernel_rfl) (by kernel_rfl) (fun w => by kernel_rfl) ?_
  refine reg_now 2 (.pointer (some ⟨q, 0, none⟩)) (some 14) hQN trivial (by kernel_rfl) (by kernel_rfl) (fun w => by kernel_rfl) ?_
  refine reg_lcPP 1 3 (.agg ct.toArray) 13 15 62 #[.pointer (some ⟨q, 0, none⟩)] (by kernel_rfl) (by kernel_rfl) (by kernel_rfl) (by decide) (by decide) (exec_load_mid 33 (.tmp 4) (by kernel_rfl) z 0 (by kernel_rfl) ct _ BX.out.whole Try.underlying33 rfl (rwSize TA.out.len)) (fun vj w1 hb1 => exec_load_mid 33 (.tmp 4) (by kernel_rfl) z 0 (by kernel_rfl) ct _ (bel_keep hb1 BX.out (by have := QB.out; have := ZB.out; omega) BX.out.lt).whole Try.underlying33 rfl (rwSize TA.out.len)) (by kernel_rfl) (by kernel_rfl) (HA wd li (by have := LP.out; omega) RD.out) EQ (fun p c w' hb ho a1 h1 => hP _ _ _ fun a' ha' => ⟨ha'.trans h1, PP.no (by rw [hB.out]; exact BB.out.trans (hb.mono SZ.out)) ho⟩) ?_
  intro a2 l43 vv w42 hx EQ1 hb hv hp
  replace EQ := EQ1
  clear EQ1
  obtain ⟨ca2, rfl, hct⟩ := hv
  have T2 := Lib.hid (RzAt.old hct BR.out.lt BX.out.lt)
  have AL := Lib.hid (hA2 hx)
  clear hct hx
  replace BR := Lib.hid (bel_keep hb BR.out (by have := QB.out; have := ZB.out; omega) BR.out.lt)
  replace BX := Lib.hid (bel_keep hb BX.out (by have := QB.out; have := ZB.out; omega) BX.out.lt)
  replace TA := Lib.hid (RzAt.call TA.out hb (by have := QB.out; have := ZB.out; omega))
  replace BB := Lib.hid (BB.out.trans (hb.mono SZ.out))
  replace SZ := Lib.hid (Nat.le_trans SZ.out hb.size)
  replace RD := Lib.hid hp
  clear hb hp
  obtain ⟨za, hza⟩ : ∃ za, Hid (w42.heap.size = za) := ⟨_, rfl⟩
  have oza : Hid (B ≤ za) := by rw [Hid, ← hza.out]; exact SZ.out
  have ozaBR : Hid (B < za) := by rw [Hid, ← hza.out]; exact BR.out.lt
  have ozaBX : Hid (z < za) := by rw [Hid, ← hza.out]; exact BX.out.lt
  refine reg_row 4 33 (ct ++ ca2) za 2 (some 16) (by kernel_rfl) (by kernel_rfl) hza (exec_of _ _ (by kernel_rfl) (run_args2 TA.out T2.out _)) ?_
  intro w44 bb eb sb
  refine ⟨trivial, ?_⟩
  have BA := Lib.hid bb
  rw [← hza.out] at eb
  replace BR := Lib.hid (BR.out.below eb BR.out.lt)
  replace BX := Lib.hid (BX.out.below eb BX.out.lt)
  replace TA := Lib.hid (RzAt.low TA.out eb)
  replace T2 := Lib.hid (RzAt.low T2.out eb)
  replace RD := Lib.hid (RD.out.below eb RD.out.lt)
  replace BB := Lib.hid (BB.out.trans (Bel.of (eb.mono SZ.out)))
  replace SZ := Lib.hid (Nat.le_trans SZ.out eb.size)
  clear bb eb sb hza
  have HN : Hid (RzAt K B z w44 (.mk 5 0 (some pp) [] 0 [t, a2]) (nodeC K 5 0 (some pp) [] (.slice none 0 0) (.slice (some ⟨za, 0, none⟩) 2 2))) := node_at (LvsN.nil _ _ _ _) (args2 BA.out TA.out T2.out (rz_no ozaBR.out ozaBX.out))
  refine reg_now 5 (.agg (nodeC K 5 0 (some pp) [] (.slice none 0 0) (.slice (some ⟨za, 0, none⟩) 2 2)).toArray) (some 17) hQN trivial (by kernel_rfl) (by kernel_rfl) (fun w => by kernel_rfl) ?_
  refine reg_putT 6 33 (.tmp 4) (.tmp 17) z _ ct (nodeC K 5 0 (some pp) [] (.slice none 0 0) (.slice (some ⟨za, 0, none⟩) 2 2)) (by kernel_rfl) (by kernel_rfl) (by kernel_rfl) (by kernel_rfl) (by kernel_rfl) BX.out (HN.out.len.trans TA.out.len.symm) (rwSize HN.out.len) (by simpa using HN.out.one) ?_
  intro w45 b9 u9
  refine ⟨trivial, ?_⟩
  have RD9 := Lib.hid (RD.out.upd u9 (by have := QB.out; have := ZB.out; omega))
  have BB9 : Hid (Bel [q] B w w45) := BB.out.newBlk u9 (Nat.le_of_lt ZB.out) SZ.out
  have BR9 := Lib.hid (u9.blk BR.out (by have := ZB.out; omega))
  have BX9 := Lib.hid b9
  have TA9 := Lib.hid (HN.out.upd u9)
  refine reg_done (by kernel_rfl) (hN _ _ ?_)
  generalize hact : Act.put _ none _ = act
  simp only [Act.put, sA, sC, sZ] at hact
  subst hact
  have ff := FF.out
  have al := AL.out
  have lp := LP.out
  clear hQN hN hP HN
  go_wp2
  go_roundg l43.length
  case rel => exact ⟨f', l43, _, _, rfl, (by rw [Hid]; omega), (by rw [Hid]; omega), EQ, RD9, BB9, BR9, BX9, TA9⟩
  case measure => omega
end Go.Proofs.Ytdacmogedchnaaa
