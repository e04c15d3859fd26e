/- level, levels, typeLevel. -/
import Derived.Test.YtdacmogedchnaaaQGenT
import Derived.Test.YtdacmogedchnaaaQPrsE
import Derived.Deep.LoopGhost
namespace Go.Proofs.Ytdacmogedchnaaa
open Go Go.RowKit
set_option maxRecDepth 100000
theorem LvRow.call {m q : Nat} {w w' : World} {v : Value} {ls : List Lv} (h : LvRow m w v ls) (hb : Bel [q] w.heap.size w w') (hq : q < m) : LvRow m w' v ls := RowG.call lvG h hb hq
theorem LvRow.low {m : Nat} {w w' : World} {v : Value} {ls : List Lv} (h : LvRow m w v ls) (hb : Below w.heap.size w w') : LvRow m w' v ls := RowG.low lvG h hb
theorem LvRow.sl {m : Nat} {w : World} {v : Value} {ls : List Lv} (h : LvRow m w v ls) : ∃ a c, v = .slice a ls.length c := (RowG.in lvG h).slice
theorem LvRow.lvs {m : Nat} {w : World} {v : Value} {ls : List Lv} (h : LvRow m w v ls) (hl : ls.length ≤ 1000000) : LvsN (List.range m) w v ls.length := (RowG.in lvG h).lvs hl
theorem maxL_len {ls : List Lv} (h : ∀ l ∈ ls, l.p.length = 4) : (maxL ls).p.length = 4 := by
 unfold maxL
 split
 ·exact maxRow_len ls _ rfl h
 ·rfl
def RLvs (c : Nat) (v : Value) (w w' : World) : Prop := LvsN (List.range w.heap.size) w' v c
theorem lvLoop_yes {f : Nat} {l : List (List UInt8)} (h : nx l = [124]) : lvLoop (f + 1) l = (partP true l.tail).bind fun _ r => lvLoop f r := by rw [lvLoop, if_pos h]
theorem lvLoop_no {f : Nat} {l : List (List UInt8)} (h : ¬ nx l = [124]) (hf : 0 < f) : lvLoop f l = .ok () l := by
 obtain ⟨g, rfl⟩ : ∃ g, f = g + 1 := ⟨f - 1, by omega⟩
 rw [lvLoop, if_neg h]
theorem lvsLoop_yes {k c : Nat} {l : List (List UInt8)} (h : nx l = [44]) : lvsLoop (k + 1) c l = (levelQ l.tail).bind fun _ r => lvsLoop k (c + 1) r := by rw [lvsLoop, if_pos h]
theorem lvsLoop_no {k c : Nat} {l : List (List UInt8)} (h : k = 0 ∨ ¬ nx l = [44]) : lvsLoop k c l = .ok c l := by
 cases k with
 | zero => rfl
 | succ k => rw [lvsLoop, if_neg (h.resolve_left (Nat.succ_ne_zero k))]
theorem bind_assoc {α β γ : Type} (o : PR α) (k : α → List (List UInt8) → PR β) (k2 : β → List (List UInt8) → PR γ) : PR.bind (PR.bind o k) k2 = PR.bind o (fun x l => PR.bind (k x l) k2) := by cases o <;> rfl
set_option maxHeartbeats 8000000 in
theorem level_walkP (K : Nat → Nat) (q : Nat) (w : World) (l : List (List UInt8)) (h : PAt K q w l) : Calls Try.prog 73 #[.pointer (some ⟨q, 0, none⟩)] w (PP K q (levelQ l) RLev w) := by
 obtain ⟨oo, hoo⟩ : ∃ oo, Hid (levelQ l = oo) := ⟨_, rfl⟩
 rw [hoo.out]
 have EQ := hoo
 clear hoo
 unfold levelQ at EQ
 obtain ⟨B, hB⟩ : ∃ B, Hid (w.heap.size = B) := ⟨_, rfl⟩
 have RD := Lib.hid h
 have QB : Hid (q < B) := by rw [← hB.out]; exact h.lt
 have BB : Hid (Bel [q] B w w) := Bel.refl _ _ _
 have SZ : Hid (B ≤ w.heap.size) := by rw [Hid, hB.out]; exact Nat.le_refl _
 clear h
 go_enter Try.func73, Try.ntmps73
 go_upto_region 0 with (fail)
 refine lbeg (opsOf Try.f73 0) ?_
 refine lin_alloc 0 94 (ints .i64 z5) (B) (some 2) (by kernel_rfl) (by kernel_rfl) (by kernel_rfl) zeroLv hB ?_
 intro w1 bx ex sx
 replace RD := Lib.hid (RD.out.below ex QB.out)
 replace BB : Hid (Bel [q] B w w1) := Bel.of ex
 replace SZ : Hid (B ≤ w1.heap.size) := Nat.le_of_lt bx.lt
 have BR := Lib.hid bx
 clear bx ex sx
 refine ldn 1 ?_
 generalize hact : Act.put _ (some 2) _ = act
 simp only [Act.put, sA, sC, sZ] at hact
 subst hact
 go_upto_region 1 with (fail)
 refine lbeg (opsOf Try.f73 1) ?_
 refine lnow 0 (.pointer (some ⟨q, 0, none⟩)) (some 4) ?_
 refine lin_callPP 1 72 #[.pointer (some ⟨q, 0, none⟩), .bool true] (some 5) (by kernel_rfl) (by kernel_rfl) (by kernel_rfl) (part_walk K q w1 l RD.out true) EQ (fun p c w' hb ho => ⟨rfl, PP.no (by rw [hB.out]; exact BB.out.trans (hb.mono SZ.out)) ho⟩) ?_
 intro x l1 vv w2 hx EQ1 hb hv hp
 replace EQ := EQ1
 clear EQ1
 obtain ⟨lv, rfl, h4⟩ := hv
 have H4 := Lib.hid h4
 clear h4
 have LL : Hid (x = x) := rfl
 replace BR := Lib.hid (bel_keep hb BR.out (by have := QB.out; omega) BR.out.lt)
 replace BB := Lib.hid (BB.out.trans (hb.mono SZ.out))
 replace SZ := Lib.hid (Nat.le_trans SZ.out hb.size)
 replace RD := Lib.hid hp
 clear hb hp
 obtain ⟨z, hz⟩ : ∃ z, Hid (w2.heap.size = z) := ⟨_, rfl⟩
 have oz : Hid (B ≤ z) := by rw [Hid, ← hz.out]; exact SZ.out
 have ozBR : Hid (B < z) := by rw [Hid, ← hz.out]; exact BR.out.lt
 refine lin_row 2 94 (ints .i64 lv.zs) z 1 (some 6) (by kernel_rfl) (by kernel_rfl) hz (exec_of _ _ (by kernel_rfl) (run_build_lvs1 H4.out _)) ?_
 intro wz bb eb sb
 have RWF : Hid (LvRow (B + 1) wz (.slice (some ⟨z, 0, none⟩) 1 1) [lv]) := RowG.one lvG bb ⟨rfl, H4.out⟩ (by have := QB.out; have := oz.out; have := ozBR.out; omega)
 rw [← hz.out] at eb
 replace BR := Lib.hid (BR.out.below eb BR.out.lt)
 replace RD := Lib.hid (RD.out.below eb RD.out.lt)
 replace BB := Lib.hid (BB.out.trans (Bel.of (eb.mono SZ.out)))
 replace SZ := Lib.hid (Nat.le_trans SZ.out eb.size)
 clear bb eb sb hz
 refine lnow 3 (.slice (some ⟨z, 0, none⟩) 1 1) (some 3) ?_
 refine ldn 4 ?_
 generalize hact : Act.put _ (some 3) _ = act
 simp only [Act.put, sA, sC, sZ] at hact
 subst hact
 have LN := Lib.hid RD.out.len
 clear hx LL
 go_wp2
 go_loopg [3] l1.length (fun g s3 wr => ∃ (f : Nat) (li : List (List UInt8)) (ls : List Lv) (rv : Value), li.length = g ∧ rv = s3 ∧ Hid (li.length + 1 ≤ f) ∧ Hid (lvLoop f li = oo) ∧ Hid (PAt K q wr li) ∧ Hid (Bel [q] B w wr) ∧ Hid (Blk wr B 94 (ints .i64 z5)) ∧ Hid (LvRow (B + 1) wr rv ls) ∧ Hid (ls.length + li.length ≤ 65541))
 case atStart => exact ⟨FU, l1, [lv], _, rfl, rfl, (by have := LN.out; unfold FU; rw [Hid]; omega), EQ, RD, BB, BR, RWF, (by have := LN.out; rw [Hid, List.length_singleton]; omega)⟩
 case round =>
  clear EQ RD BB BR RWF SZ LN
  obtain ⟨f, li, ls, rv, hlg, hrv, FF, EQ, RD, BB, BR, RWF, LN⟩ := hrel
  subst hlg
  subst hrv
  have SZ : Hid (B ≤ wr.heap.size) := Nat.le_of_lt BR.out.lt
  by_cases c : nx li = [124]
  rotate_left
  ·skip
   rw [lvLoop_no c (by have := FF.out; omega)] at EQ
   go_upto_region 2 with (fail)
   refine lbeg (opsOf Try.f73 2) ?_
   refine lnow 0 (.pointer (some ⟨q, 0, none⟩)) (some 7) ?_
   refine lcal 1 50 #[.pointer (some ⟨q, 0, none⟩), sT [124]] (some 8) _ (accept_no K q wr li RD.out [124] c) ?_
   rintro e w' ⟨rfl, hw'⟩
   obtain rfl := hw'.symm
   refine ⟨_, rfl, ?_⟩
   refine ldn 2 ?_
   generalize hact : Act.put _ (some 8) _ = act
   simp only [Act.put, sA, sC, sZ] at hact
   subst hact
   obtain ⟨la, lc, hrs⟩ := RWF.out.sl
   obtain ⟨ls2, -, hin⟩ := (RWF.out.lvs (by have := LN.out; omega)).in (by have := LN.out; omega)
   have L4 : ∀ l ∈ ls2, l.p.length = 4 := by obtain ⟨_, _, _, _, _, h5, _⟩ := hin; exact h5
   obtain ⟨lv, hlv⟩ : ∃ y, Hid (maxL ls2 = y) := ⟨_, rfl⟩
   have H4 : Hid (lv.p.length = 4) := by rw [← hlv.out]; exact maxL_len L4
   have MW := max_walk rv ls2 wr hin
   rw [hlv.out] at MW
   clear hin L4 hlv hrs
   go_upto_region 4 with (fail)
   refine lbeg (opsOf Try.f73 4) ?_
   refine lnow 0 (rv) (some 14) ?_
   refine lcal 1 78 #[rv] (some 15) _ (MW) ?_
   rintro e w3 ⟨rfl, hb⟩
   refine ⟨_, rfl, ?_⟩
   clear MW
   replace BR := Lib.hid (BR.out.below hb BR.out.lt)
   replace RWF := Lib.hid (LvRow.low RWF.out hb)
   replace RD := Lib.hid (RD.out.below hb RD.out.lt)
   replace BB := Lib.hid (BB.out.trans (Bel.of (hb.mono SZ.out)))
   replace SZ := Lib.hid (Nat.le_trans SZ.out hb.size)
   clear hb
   refine lput 2 94 (.tmp 2) (.tmp 15) (B) _ (ints .i64 z5) (ints .i64 (lv).zs) BR.out (Lv.zlen H4.out) (lvSize H4.out) (ints_oneCell _ _) ?_
   intro w99 b99 u99
   refine ldn 3 ?_
   generalize hact : Act.put _ none _ = act
   simp only [Act.put, sA, sC, sZ] at hact
   subst hact
   have FIN : Hid (PP K q oo RLev w (.returned (.agg (ints .i64 (lv).zs).toArray)) w99) := PP.yes (by rw [hB.out]; exact BB.out.newBlk u99 (Nat.le_refl _) SZ.out) EQ.out (RLev.of H4.out) (RD.out.upd u99 QB.out)
   have HB := Lib.hid b99
   clear b99 u99
   go_wp2
   refine bodyPost_ret (v := .agg (ints .i64 (lv).zs).toArray) ?_ rfl FIN.out
   exact results_cell_row (g := B) (t := 94) (cs := (ints .i64 (lv).zs).toArray) (fr := (0, 0)) Try.results73 _ _ _ rfl HB.out Try.underlying94 rfl (by rw [List.size_toArray]; exact lvSize H4.out)
  obtain ⟨f', rfl⟩ : ∃ f', f = f' + 1 := ⟨f - 1, by have := FF.out; omega⟩
  rw [lvLoop_yes c] at EQ
  have TL := Lib.hid (tail_lt (l := li) (by rw [c]; simp))
  go_upto_region 2 with (fail)
  refine lbeg (opsOf Try.f73 2) ?_
  refine lnow 0 (.pointer (some ⟨q, 0, none⟩)) (some 7) ?_
  refine lcal 1 50 #[.pointer (some ⟨q, 0, none⟩), sT [124]] (some 8) _ (accept_yes K q wr li RD.out [124] c (by decide)) ?_
  rintro e w3 ⟨rfl, hb, hp⟩
  refine ⟨_, rfl, ?_⟩
  obtain ⟨l4, hl4⟩ : ∃ y, Hid (li.tail = y) := ⟨_, rfl⟩
  rw [hl4.out] at hp
  try rw [hl4.out] at EQ
  replace BR := Lib.hid (bel_keep hb BR.out (by have := QB.out; omega) BR.out.lt)
  replace RWF := Lib.hid (LvRow.call RWF.out hb (by have := QB.out; omega))
  replace BB := Lib.hid (BB.out.trans (hb.mono SZ.out))
  replace SZ := Lib.hid (Nat.le_trans SZ.out hb.size)
  replace RD := Lib.hid hp
  clear hb hp
  refine ldn 2 ?_
  generalize hact : Act.put _ (some 8) _ = act
  simp only [Act.put, sA, sC, sZ] at hact
  subst hact
  rw [hl4.out] at TL
  go_upto_region 3 with (fail)
  refine lbeg (opsOf Try.f73 3) ?_
  refine lnow 0 (rv) (some 9) ?_
  refine lnow 1 (.pointer (some ⟨q, 0, none⟩)) (some 10) ?_
  refine lin_callPP 2 72 #[.pointer (some ⟨q, 0, none⟩), .bool true] (some 11) (by kernel_rfl) (by kernel_rfl) (by kernel_rfl) (part_walk K q w3 l4 RD.out true) EQ (fun p c w' hb ho => ⟨rfl, PP.no (by rw [hB.out]; exact BB.out.trans (hb.mono SZ.out)) ho⟩) ?_
  intro x l3 vv w5 hx EQ1 hb hv hp
  replace EQ := EQ1
  clear EQ1
  obtain ⟨lv, rfl, h4⟩ := hv
  have H4 := Lib.hid h4
  clear h4
  replace BR := Lib.hid (bel_keep hb BR.out (by have := QB.out; omega) BR.out.lt)
  replace RWF := Lib.hid (LvRow.call RWF.out hb (by have := QB.out; omega))
  replace BB := Lib.hid (BB.out.trans (hb.mono SZ.out))
  replace SZ := Lib.hid (Nat.le_trans SZ.out hb.size)
  replace RD := Lib.hid hp
  clear hb hp
  have PL := Lib.hid (partP_lt hx)
  clear hx
  refine lin_rowG lvG 94 30 infoLvP Try.underlying30 rfl (by decide) (by decide) (by decide) 3 (some 12) (some 13) lv (ints .i64 lv.zs) rv ls (B + 1) RWF.out (⟨rfl, H4.out⟩) (by have := LN.out; omega) (BR.out.lt) (by kernel_rfl) (by kernel_rfl) (by kernel_rfl) (fun _ => run_build_lvs1 H4.out _) (fun _ => by kernel_rfl) (by kernel_rfl) (fun _ => by kernel_rfl) ?_
  intro zz rv2 wa hrow hbel
  replace RWF : Hid (LvRow (B + 1) wa rv2 (ls ++ [lv])) := hrow
  replace RD := Lib.hid (RD.out.below hbel (by have := QB.out; omega))
  replace BR := Lib.hid (BR.out.below hbel (by omega))
  replace BB := Lib.hid (BB.out.trans (Bel.of (hbel.mono (by omega))))
  clear hrow hbel
  have tl := TL.out
  have pl := PL.out
  have ff := FF.out
  have ln := LN.out
  refine lnow 5 (rv2) (some 3) ?_
  refine ldn 6 ?_
  generalize hact : Act.put _ (some 3) _ = act
  simp only [Act.put, sA, sC, sZ] at hact
  subst hact
  go_wp2
  go_roundg l3.length
  case rel => exact ⟨f', l3, ls ++ [lv], rv2, rfl, rfl, (by rw [Hid]; omega), EQ, RD, BB, BR, RWF, (by rw [Hid, List.length_append, List.length_singleton]; omega)⟩
  case measure => omega
set_option maxHeartbeats 8000000 in
theorem levels_walkP (K : Nat → Nat) (q : Nat) (w : World) (l : List (List UInt8)) (h : PAt K q w l) : Calls Try.prog 70 #[.pointer (some ⟨q, 0, none⟩)] w (PP K q (levelsQ l) RLvs w) := by
 obtain ⟨oo, hoo⟩ : ∃ oo, Hid (levelsQ l = oo) := ⟨_, rfl⟩
 rw [hoo.out]
 have EQ := hoo
 clear hoo
 unfold levelsQ at EQ
 obtain ⟨B, hB⟩ : ∃ B, Hid (w.heap.size = B) := ⟨_, rfl⟩
 have RD := Lib.hid h
 have QB : Hid (q < B) := by rw [← hB.out]; exact h.lt
 have BB : Hid (Bel [q] B w w) := Bel.refl _ _ _
 have SZ : Hid (B ≤ w.heap.size) := by rw [Hid, hB.out]; exact Nat.le_refl _
 clear h
 go_enter Try.func70, Try.ntmps70
 go_upto_region 0 with (fail)
 refine lbeg (opsOf Try.f70 0) ?_
 refine lnow 0 (.slice none 0 0) (some 2) ?_
 refine ldn 1 ?_
 generalize hact : Act.put _ (some 2) _ = act
 simp only [Act.put, sA, sC, sZ] at hact
 subst hact
 go_upto_region 1 with (fail)
 refine lbeg (opsOf Try.f70 1) ?_
 refine lnow 0 (.pointer (some ⟨q, 0, none⟩)) (some 4) ?_
 refine lin_callPP 1 73 #[.pointer (some ⟨q, 0, none⟩)] (some 5) (by kernel_rfl) (by kernel_rfl) (by kernel_rfl) (level_walkP K q w l RD.out) EQ (fun p c w' hb ho => ⟨rfl, PP.no (by rw [hB.out]; exact BB.out.trans (hb.mono SZ.out)) ho⟩) ?_
 intro x l1 vv w1 hx EQ1 hb hv hp
 replace EQ := EQ1
 clear EQ1
 obtain ⟨lv, rfl, h4⟩ := hv
 have H4 := Lib.hid h4
 clear h4
 clear hx
 replace BB := Lib.hid (BB.out.trans (hb.mono SZ.out))
 replace SZ := Lib.hid (Nat.le_trans SZ.out hb.size)
 replace RD := Lib.hid hp
 clear hb hp
 obtain ⟨z, hz⟩ : ∃ z, Hid (w1.heap.size = z) := ⟨_, rfl⟩
 have oz : Hid (B ≤ z) := by rw [Hid, ← hz.out]; exact SZ.out
 refine lin_row 2 94 (ints .i64 lv.zs) z 1 (some 6) (by kernel_rfl) (by kernel_rfl) hz (exec_of _ _ (by kernel_rfl) (run_build_lvs1 H4.out _)) ?_
 intro wz bb eb sb
 have RWF : Hid (LvRow (B) wz (.slice (some ⟨z, 0, none⟩) 1 1) [lv]) := RowG.one lvG bb ⟨rfl, H4.out⟩ (by have := QB.out; have := oz.out; omega)
 rw [← hz.out] at eb
 replace RD := Lib.hid (RD.out.below eb RD.out.lt)
 replace BB := Lib.hid (BB.out.trans (Bel.of (eb.mono SZ.out)))
 replace SZ := Lib.hid (Nat.le_trans SZ.out eb.size)
 clear bb eb sb hz
 refine lnow 3 (.slice (some ⟨z, 0, none⟩) 1 1) (some 3) ?_
 refine ldn 4 ?_
 generalize hact : Act.put _ (some 3) _ = act
 simp only [Act.put, sA, sC, sZ] at hact
 subst hact
 go_wp2
 go_loopg [3] 3 (fun g s3 wr => ∃ (li : List (List UInt8)) (ls : List Lv) (rv : Value), rv = s3 ∧ Hid (ls.length + g = 4) ∧ Hid (PR.bind (lvsLoop g ls.length li) (fun c r => (exP [125] r).bind fun _ r => .ok c r) = oo) ∧ Hid (PAt K q wr li) ∧ Hid (Bel [q] B w wr) ∧ Hid (LvRow B wr rv ls) ∧ Hid (B ≤ wr.heap.size))
 case atStart => exact ⟨l1, [lv], _, rfl, rfl, EQ, RD, BB, RWF, SZ⟩
 case round =>
  clear EQ RD BB RWF SZ
  obtain ⟨li, ls, rv, hrv, GL, EQ, RD, BB, RWF, SZ⟩ := hrel
  subst hrv
  obtain ⟨la, lc, hrs⟩ := RWF.out.sl
  obtain ⟨M, hM⟩ : ∃ M, Hid (ls.length = M) := ⟨_, rfl⟩
  rw [hM.out] at hrs GL EQ
  subst hrs
  have gl := GL.out
  by_cases hm4 : M < 4
  rotate_left
  ·skip
   obtain rfl : M = 4 := by omega
   rw [lvsLoop_no (.inl (by omega)), PR.bind_ok] at EQ
   go_upto_region 2 with (fail)
   refine lbeg (opsOf Try.f70 2) ?_
   refine lnow 0 (.slice la 4 lc) (some 7) ?_
   refine lnow 1 (.int .i64 4) (some 8) ?_
   refine lnow 2 (.bool false) (some 9) ?_
   refine lnow 3 (.bool false) (some 10) ?_
   refine lpas 4 (some 11) ?_
   refine lpas 5 (some 12) ?_
   refine lnow 6 (.bool false) (some 13) ?_
   refine ldn 7 ?_
   generalize hact : Act.put _ (some 13) _ = act
   simp only [Act.put, sA, sC, sZ] at hact
   subst hact
   go_upto_region 4 with (fail)
   refine lbeg (opsOf Try.f70 4) ?_
   refine lnow 0 (.pointer (some ⟨q, 0, none⟩)) (some 19) ?_
   refine lin_callPP 1 52 #[.pointer (some ⟨q, 0, none⟩), sT [125]] (some 20) (by kernel_rfl) (by kernel_rfl) (by kernel_rfl) (expect_walk K q wr li RD.out [125] (by decide)) EQ (fun p c w' hb ho => ⟨rfl, PP.no (by rw [hB.out]; exact BB.out.trans (hb.mono SZ.out)) ho⟩) ?_
   intro x l9 vv w2 hx EQ1 hb hv hp
   replace EQ := EQ1
   clear EQ1
   obtain rfl : vv = .tuple #[] := hv
   clear hx
   replace RWF := Lib.hid (LvRow.call RWF.out hb (by have := QB.out; omega))
   replace BB := Lib.hid (BB.out.trans (hb.mono SZ.out))
   replace SZ := Lib.hid (Nat.le_trans SZ.out hb.size)
   replace RD := Lib.hid hp
   clear hb hp
   refine ldn 2 ?_
   generalize hact : Act.put _ (some 20) _ = act
   simp only [Act.put, sA, sC, sZ] at hact
   subst hact
   have FIN : Hid (PP K q oo RLvs w (.returned (.slice la 4 lc)) w2) := PP.yes (by rw [hB.out]; exact BB.out) EQ.out (by have h9 := RWF.out.lvs (by have := hM.out; omega); rw [hM.out] at h9; rw [RLvs, hB.out]; exact h9) RD.out
   clear RWF BB RD
   go_upto_region 5 with (fail)
   refine lbeg (opsOf Try.f70 5) ?_
   refine lnow 0 (.slice la 4 lc) (some 21) ?_
   refine lnow 1 (.slice la 4 lc) (some 2) ?_
   refine ldn 2 ?_
   generalize hact : Act.put _ (some 2) _ = act
   simp only [Act.put, sA, sC, sZ] at hact
   subst hact
   go_wp2
   go_ret
   exact FIN.out
  by_cases c : nx li = [44]
  rotate_left
  ·skip
   rw [lvsLoop_no (.inr c), PR.bind_ok] at EQ
   go_upto_region 2 with (fail)
   refine lbeg (opsOf Try.f70 2) ?_
   refine lnow 0 (.slice la M lc) (some 7) ?_
   refine lnow 1 (.int .i64 (M : Int)) (some 8) ?_
   refine lnow 2 (.bool (decide ((M : Int) < 4))) (some 9) ?_
   rw [decide_eq_true (by omega : (M : Int) < 4)]
   refine lnow 3 (.bool true) (some 10) ?_
   refine lnow 4 (.pointer (some ⟨q, 0, none⟩)) (some 11) ?_
   refine lcal 5 50 #[.pointer (some ⟨q, 0, none⟩), sT [44]] (some 12) _ (accept_no K q wr li RD.out [44] c) ?_
   rintro e w' ⟨rfl, hw'⟩
   obtain rfl := hw'.symm
   refine ⟨_, rfl, ?_⟩
   refine lnow 6 (.bool false) (some 13) ?_
   refine ldn 7 ?_
   generalize hact : Act.put _ (some 13) _ = act
   simp only [Act.put, sA, sC, sZ] at hact
   subst hact
   go_upto_region 4 with (fail)
   refine lbeg (opsOf Try.f70 4) ?_
   refine lnow 0 (.pointer (some ⟨q, 0, none⟩)) (some 19) ?_
   refine lin_callPP 1 52 #[.pointer (some ⟨q, 0, none⟩), sT [125]] (some 20) (by kernel_rfl) (by kernel_rfl) (by kernel_rfl) (expect_walk K q wr li RD.out [125] (by decide)) EQ (fun p c w' hb ho => ⟨rfl, PP.no (by rw [hB.out]; exact BB.out.trans (hb.mono SZ.out)) ho⟩) ?_
   intro x l9 vv w2 hx EQ1 hb hv hp
   replace EQ := EQ1
   clear EQ1
   obtain rfl : vv = .tuple #[] := hv
   clear hx
   replace RWF := Lib.hid (LvRow.call RWF.out hb (by have := QB.out; omega))
   replace BB := Lib.hid (BB.out.trans (hb.mono SZ.out))
   replace SZ := Lib.hid (Nat.le_trans SZ.out hb.size)
   replace RD := Lib.hid hp
   clear hb hp
   refine ldn 2 ?_
   generalize hact : Act.put _ (some 20) _ = act
   simp only [Act.put, sA, sC, sZ] at hact
   subst hact
   have FIN : Hid (PP K q oo RLvs w (.returned (.slice la M lc)) w2) := PP.yes (by rw [hB.out]; exact BB.out) EQ.out (by have h9 := RWF.out.lvs (by have := hM.out; omega); rw [hM.out] at h9; rw [RLvs, hB.out]; exact h9) RD.out
   clear RWF BB RD
   go_upto_region 5 with (fail)
   refine lbeg (opsOf Try.f70 5) ?_
   refine lnow 0 (.slice la M lc) (some 21) ?_
   refine lnow 1 (.slice la M lc) (some 2) ?_
   refine ldn 2 ?_
   generalize hact : Act.put _ (some 2) _ = act
   simp only [Act.put, sA, sC, sZ] at hact
   subst hact
   go_wp2
   go_ret
   exact FIN.out
  skip
  obtain ⟨k, hk⟩ : ∃ k, 4 - M = k + 1 := ⟨3 - M, by omega⟩
  skip
  obtain ⟨k, hk⟩ : ∃ k, Hid (gk = k + 1) := ⟨gk - 1, by rw [Hid]; omega⟩
  rw [hk.out, lvsLoop_yes c, bind_assoc] at EQ
  go_upto_region 2 with (fail)
  refine lbeg (opsOf Try.f70 2) ?_
  refine lnow 0 (.slice la M lc) (some 7) ?_
  refine lnow 1 (.int .i64 (M : Int)) (some 8) ?_
  refine lnow 2 (.bool (decide ((M : Int) < 4))) (some 9) ?_
  rw [decide_eq_true (by omega : (M : Int) < 4)]
  refine lnow 3 (.bool true) (some 10) ?_
  refine lnow 4 (.pointer (some ⟨q, 0, none⟩)) (some 11) ?_
  refine lcal 5 50 #[.pointer (some ⟨q, 0, none⟩), sT [44]] (some 12) _ (accept_yes K q wr li RD.out [44] c (by decide)) ?_
  rintro e w2 ⟨rfl, hb, hp⟩
  refine ⟨_, rfl, ?_⟩
  obtain ⟨l3, hl3⟩ : ∃ y, Hid (li.tail = y) := ⟨_, rfl⟩
  rw [hl3.out] at hp
  try rw [hl3.out] at EQ
  replace RWF := Lib.hid (LvRow.call RWF.out hb (by have := QB.out; omega))
  replace BB := Lib.hid (BB.out.trans (hb.mono SZ.out))
  replace SZ := Lib.hid (Nat.le_trans SZ.out hb.size)
  replace RD := Lib.hid hp
  clear hb hp
  refine lnow 6 (.bool true) (some 13) ?_
  refine ldn 7 ?_
  generalize hact : Act.put _ (some 13) _ = act
  simp only [Act.put, sA, sC, sZ] at hact
  subst hact
  go_upto_region 3 with (fail)
  refine lbeg (opsOf Try.f70 3) ?_
  refine lnow 0 (.slice la M lc) (some 14) ?_
  refine lnow 1 (.pointer (some ⟨q, 0, none⟩)) (some 15) ?_
  refine lin_callPP 2 73 #[.pointer (some ⟨q, 0, none⟩)] (some 16) (by kernel_rfl) (by kernel_rfl) (by kernel_rfl) (level_walkP K q w2 l3 RD.out) EQ (fun p c w' hb ho => ⟨rfl, PP.no (by rw [hB.out]; exact BB.out.trans (hb.mono SZ.out)) ho⟩) ?_
  intro x l3 vv w4 hx EQ1 hb hv hp
  replace EQ := EQ1
  clear EQ1
  obtain ⟨lv, rfl, h4⟩ := hv
  have H4 := Lib.hid h4
  clear h4
  clear hx
  replace RWF := Lib.hid (LvRow.call RWF.out hb (by have := QB.out; omega))
  replace BB := Lib.hid (BB.out.trans (hb.mono SZ.out))
  replace SZ := Lib.hid (Nat.le_trans SZ.out hb.size)
  replace RD := Lib.hid hp
  clear hb hp
  refine lin_rowG lvG 94 30 infoLvP Try.underlying30 rfl (by decide) (by decide) (by decide) 3 (some 17) (some 18) lv (ints .i64 lv.zs) (.slice la M lc) ls (B) RWF.out (⟨rfl, H4.out⟩) (by have := hM.out; omega) (SZ.out) (by kernel_rfl) (by kernel_rfl) (by kernel_rfl) (fun _ => run_build_lvs1 H4.out _) (fun _ => by kernel_rfl) (by kernel_rfl) (fun _ => by kernel_rfl) ?_
  intro zz rv2 wa hrow hbel
  replace RWF : Hid (LvRow B wa rv2 (ls ++ [lv])) := hrow
  replace RD := Lib.hid (RD.out.below hbel QB.out)
  replace BB := Lib.hid (BB.out.trans (Bel.of hbel))
  replace SZ := Lib.hid (Nat.le_trans SZ.out hbel.size)
  clear hrow hbel
  have LS : Hid ((ls ++ [lv]).length = M + 1) := by rw [Hid, List.length_append, hM.out]; rfl
  have hk2 := hk.out
  refine lnow 5 (rv2) (some 3) ?_
  refine ldn 6 ?_
  generalize hact : Act.put _ (some 3) _ = act
  simp only [Act.put, sA, sC, sZ] at hact
  subst hact
  go_wp2
  go_roundg k
  case rel => exact ⟨l3, ls ++ [lv], rv2, rfl, (by rw [Hid, LS.out]; omega), (by rw [LS.out]; exact EQ), RD, BB, RWF, SZ⟩
  case measure => omega
set_option maxHeartbeats 8000000 in
theorem tlevel_walkP (K : Nat → Nat) (q : Nat) (w : World) (l : List (List UInt8)) (h : PAt K q w l) : Calls Try.prog 68 #[.pointer (some ⟨q, 0, none⟩)] w (PP K q (tlevelP l) RLev w) := by
 obtain ⟨oo, hoo⟩ : ∃ oo, Hid (tlevelP l = oo) := ⟨_, rfl⟩
 rw [hoo.out]
 have EQ := hoo
 clear hoo
 unfold tlevelP at EQ
 obtain ⟨B, hB⟩ : ∃ B, Hid (w.heap.size = B) := ⟨_, rfl⟩
 have RD := Lib.hid h
 have QB : Hid (q < B) := by rw [← hB.out]; exact h.lt
 have BB : Hid (Bel [q] B w w) := Bel.refl _ _ _
 have SZ : Hid (B ≤ w.heap.size) := by rw [Hid, hB.out]; exact Nat.le_refl _
 clear h
 go_enter Try.func68, Try.ntmps68
 go_upto_region 0 with (fail)
 refine lbeg (opsOf Try.f68 0) ?_
 refine lin_alloc 0 94 (ints .i64 z5) (B) (some 2) (by kernel_rfl) (by kernel_rfl) (by kernel_rfl) zeroLv hB ?_
 intro w1 bx ex sx
 replace RD := Lib.hid (RD.out.below ex QB.out)
 replace BB : Hid (Bel [q] B w w1) := Bel.of ex
 replace SZ : Hid (B ≤ w1.heap.size) := Nat.le_of_lt bx.lt
 have BR := Lib.hid bx
 clear bx ex sx
 refine ldn 1 ?_
 generalize hact : Act.put _ (some 2) _ = act
 simp only [Act.put, sA, sC, sZ] at hact
 subst hact
 by_cases c : nx l = [40]
 rotate_left
 ·skip
  rw [if_neg c] at EQ
  replace EQ := PR.tail EQ
  go_upto_region 1 with (fail)
  refine lbeg (opsOf Try.f68 1) ?_
  refine lnow 0 (.pointer (some ⟨q, 0, none⟩)) (some 4) ?_
  refine lcal 1 50 #[.pointer (some ⟨q, 0, none⟩), sT [40]] (some 5) _ (accept_no K q w1 l RD.out [40] c) ?_
  rintro e w' ⟨rfl, hw'⟩
  obtain rfl := hw'.symm
  refine ⟨_, rfl, ?_⟩
  refine lnow 2 (.bool true) (some 6) ?_
  refine ldn 3 ?_
  generalize hact : Act.put _ (some 6) _ = act
  simp only [Act.put, sA, sC, sZ] at hact
  subst hact
  go_upto_region 2 with (fail)
  refine lbeg (opsOf Try.f68 2) ?_
  refine lnow 0 (.pointer (some ⟨q, 0, none⟩)) (some 7) ?_
  refine lin_callPP 1 72 #[.pointer (some ⟨q, 0, none⟩), .bool false] (some 8) (by kernel_rfl) (by kernel_rfl) (by kernel_rfl) (part_walk K q w1 l RD.out false) EQ (fun p c w' hb ho => ⟨rfl, PP.no (by rw [hB.out]; exact BB.out.trans (hb.mono SZ.out)) ho⟩) ?_
  intro x l3 vv w2 hx EQ1 hb hv hp
  replace EQ := EQ1
  clear EQ1
  obtain ⟨lv, rfl, h4⟩ := hv
  have H4 := Lib.hid h4
  clear h4
  clear hx
  replace BR := Lib.hid (bel_keep hb BR.out (by have := QB.out; omega) BR.out.lt)
  replace BB := Lib.hid (BB.out.trans (hb.mono SZ.out))
  replace SZ := Lib.hid (Nat.le_trans SZ.out hb.size)
  replace RD := Lib.hid hp
  clear hb hp
  refine lput 2 94 (.tmp 2) (.tmp 8) (B) _ (ints .i64 z5) (ints .i64 (lv).zs) BR.out (Lv.zlen H4.out) (lvSize H4.out) (ints_oneCell _ _) ?_
  intro w99 b99 u99
  refine ldn 3 ?_
  generalize hact : Act.put _ none _ = act
  simp only [Act.put, sA, sC, sZ] at hact
  subst hact
  have FIN : Hid (PP K q oo RLev w (.returned (.agg (ints .i64 (lv).zs).toArray)) w99) := PP.yes (by rw [hB.out]; exact BB.out.newBlk u99 (Nat.le_refl _) SZ.out) EQ.out (RLev.of H4.out) (RD.out.upd u99 QB.out)
  have HB := Lib.hid b99
  clear b99 u99
  go_wp2
  refine bodyPost_ret (v := .agg (ints .i64 (lv).zs).toArray) ?_ rfl FIN.out
  exact results_cell_row (g := B) (t := 94) (cs := (ints .i64 (lv).zs).toArray) (fr := (0, 0)) Try.results68 _ _ _ rfl HB.out Try.underlying94 rfl (by rw [List.size_toArray]; exact lvSize H4.out)
 rw [if_pos c] at EQ
 go_upto_region 1 with (fail)
 refine lbeg (opsOf Try.f68 1) ?_
 refine lnow 0 (.pointer (some ⟨q, 0, none⟩)) (some 4) ?_
 refine lcal 1 50 #[.pointer (some ⟨q, 0, none⟩), sT [40]] (some 5) _ (accept_yes K q w1 l RD.out [40] c (by decide)) ?_
 rintro e w2 ⟨rfl, hb, hp⟩
 refine ⟨_, rfl, ?_⟩
 obtain ⟨l3, hl3⟩ : ∃ y, Hid (l.tail = y) := ⟨_, rfl⟩
 rw [hl3.out] at hp
 try rw [hl3.out] at EQ
 replace BR := Lib.hid (bel_keep hb BR.out (by have := QB.out; omega) BR.out.lt)
 replace BB := Lib.hid (BB.out.trans (hb.mono SZ.out))
 replace SZ := Lib.hid (Nat.le_trans SZ.out hb.size)
 replace RD := Lib.hid hp
 clear hb hp
 refine lnow 2 (.bool false) (some 6) ?_
 refine ldn 3 ?_
 generalize hact : Act.put _ (some 6) _ = act
 simp only [Act.put, sA, sC, sZ] at hact
 subst hact
 go_upto_region 3 with (fail)
 refine lbeg (opsOf Try.f68 3) ?_
 refine lnow 0 (.pointer (some ⟨q, 0, none⟩)) (some 9) ?_
 refine lin_callPP 1 73 #[.pointer (some ⟨q, 0, none⟩)] (some 10) (by kernel_rfl) (by kernel_rfl) (by kernel_rfl) (level_walkP K q w2 l3 RD.out) EQ (fun p c w' hb ho => ⟨rfl, PP.no (by rw [hB.out]; exact BB.out.trans (hb.mono SZ.out)) ho⟩) ?_
 intro x l5 vv w4 hx EQ1 hb hv hp
 replace EQ := EQ1
 clear EQ1
 obtain ⟨lv, rfl, h4⟩ := hv
 have H4 := Lib.hid h4
 clear h4
 clear hx
 replace BR := Lib.hid (bel_keep hb BR.out (by have := QB.out; omega) BR.out.lt)
 replace BB := Lib.hid (BB.out.trans (hb.mono SZ.out))
 replace SZ := Lib.hid (Nat.le_trans SZ.out hb.size)
 replace RD := Lib.hid hp
 clear hb hp
 obtain ⟨z, hz⟩ : ∃ z, Hid (w4.heap.size = z) := ⟨_, rfl⟩
 have oz : Hid (B ≤ z) := by rw [Hid, ← hz.out]; exact SZ.out
 have ozBR : Hid (B < z) := by rw [Hid, ← hz.out]; exact BR.out.lt
 refine lin_alloc 2 94 (ints .i64 z5) (z) (some 3) (by kernel_rfl) (by kernel_rfl) (by kernel_rfl) zeroLv hz ?_
 intro w6 ba ea sa
 refine lput 3 94 (.tmp 3) (.tmp 10) (z) _ (ints .i64 z5) (ints .i64 lv.zs) ba (Lv.zlen H4.out) (lvSize H4.out) (ints_oneCell _ _) ?_
 intro w7 bb ub
 have eb : Below z w4 w7 := ub.below ea (Nat.le_refl _) (by have := ba.lt; omega)
 have BZ := Lib.hid bb
 rw [← hz.out] at eb
 replace BR := Lib.hid (BR.out.below eb BR.out.lt)
 replace RD := Lib.hid (RD.out.below eb RD.out.lt)
 replace BB := Lib.hid (BB.out.trans (Bel.of (eb.mono SZ.out)))
 replace SZ := Lib.hid (Nat.le_trans SZ.out eb.size)
 clear ba ea sa bb ub eb hz
 refine ldn 4 ?_
 generalize hact : Act.put _ none _ = act
 simp only [Act.put, sA, sC, sZ] at hact
 subst hact
 go_upto_region 4 with (fail)
 refine lbeg (opsOf Try.f68 4) ?_
 refine lnow 0 (.pointer (some ⟨q, 0, none⟩)) (some 11) ?_
 refine lin_callPP 1 52 #[.pointer (some ⟨q, 0, none⟩), sT [41]] (some 12) (by kernel_rfl) (by kernel_rfl) (by kernel_rfl) (expect_walk K q w7 l5 RD.out [41] (by decide)) EQ (fun p c w' hb ho => ⟨rfl, PP.no (by rw [hB.out]; exact BB.out.trans (hb.mono SZ.out)) ho⟩) ?_
 intro y l9 vv w8 hx EQ1 hb hv hp
 replace EQ := EQ1
 clear EQ1
 obtain rfl : vv = .tuple #[] := hv
 clear hx
 replace BR := Lib.hid (bel_keep hb BR.out (by have := QB.out; have := oz.out; have := ozBR.out; omega) BR.out.lt)
 replace BZ := Lib.hid (bel_keep hb BZ.out (by have := QB.out; have := oz.out; have := ozBR.out; omega) BZ.out.lt)
 replace BB := Lib.hid (BB.out.trans (hb.mono SZ.out))
 replace SZ := Lib.hid (Nat.le_trans SZ.out hb.size)
 replace RD := Lib.hid hp
 clear hb hp
 refine ldn 2 ?_
 generalize hact : Act.put _ (some 12) _ = act
 simp only [Act.put, sA, sC, sZ] at hact
 subst hact
 go_upto_region 5 with (fail)
 refine lbeg (opsOf Try.f68 5) ?_
 refine lrl 0 (ints .i64 lv.zs) (some 13) 94 3 z 0 BZ.out.whole Try.underlying94 (lvSize H4.out) ?_
 refine lput 1 94 (.tmp 2) (.tmp 13) (B) _ (ints .i64 z5) (ints .i64 (lv).zs) BR.out (Lv.zlen H4.out) (lvSize H4.out) (ints_oneCell _ _) ?_
 intro w99 b99 u99
 refine ldn 2 ?_
 generalize hact : Act.put _ none _ = act
 simp only [Act.put, sA, sC, sZ] at hact
 subst hact
 have FIN : Hid (PP K q oo RLev w (.returned (.agg (ints .i64 (lv).zs).toArray)) w99) := PP.yes (by rw [hB.out]; exact BB.out.newBlk u99 (Nat.le_refl _) SZ.out) EQ.out (RLev.of H4.out) (RD.out.upd u99 QB.out)
 have HB := Lib.hid b99
 clear b99 u99
 go_wp2
 refine bodyPost_ret (v := .agg (ints .i64 (lv).zs).toArray) ?_ rfl FIN.out
 exact results_cell_row (g := B) (t := 94) (cs := (ints .i64 (lv).zs).toArray) (fr := (0, 0)) Try.results68 _ _ _ rfl HB.out Try.underlying94 rfl (by rw [List.size_toArray]; exact lvSize H4.out)
end Go.Proofs.Ytdacmogedchnaaa
