/- Package move: Open, Close, where they do not fail. -/
import Derived.Test.YtndbpmkglddjjaaQGenT
import Derived.Test.YtndbpmkglddjjaaQMovK
import Derived.Test.YtndbpmkglddjjaaQTrmV
namespace Go.Proofs.Ytndbpmkglddjjaa
open Go Go.RowKit
set_option maxRecDepth 100000
theorem results_tmp_cell_tmp {P : Program} {fn : Func} {p q r : Tmp} {ty : TypeId} (h : fn.results = #[.tmp q, .cell p ty, .tmp r]) (tmps : Array Value) (w : World) {g : Nat} {t : TypeId} {cs : Array Value} {fr : Nat × Nat} {d : TypeDesc} {v u : Value}
    (hp : tmps.getD p undef = .pointer (some ⟨g, 0, none⟩)) (hg : w.heap[g]? = some (.cells cs t fr)) (hu : P.underlying ty = some d) (hd : (match d with | .struct _ | .array _ _ => true | _ => false) = true) (hi : (P.info? ty).map (·.size) = some cs.size) (hv : tmps.getD q undef = v) (hr : tmps.getD r undef = u) : (results fn tmps).run P w = .ok (.tuple #[v, .agg cs, u]) w := by
  have hp' : tmps[p]?.getD undef = .pointer (some ⟨g, 0, none⟩) := by simpa using hp
  have hv' : tmps[q]?.getD undef = v := by simpa using hv
  have hr' : tmps[r]?.getD undef = u := by simpa using hr
  simp [results, h, hp', hv', hr', asAddr, run_loadVar_row w g t ty cs fr d hg hu hd hi]
theorem range_tail {w : World} {b o : Nat} {v : Value} {cs : List Value} (h : w.rangeAt b o (v :: cs)) : w.rangeAt b (o + 1) cs := fun j u hu => by
  have := h (j + 1) u (by simpa using hu)
  rwa [show o + (j + 1) = o + 1 + j by omega] at this
theorem lin_rowC {ops : Array Oper} {Q : Exit → Act → World → Prop} {a : Act} {w : World} (i b n : Nat) (t : TypeId) (cs : List Value) (d : Option Tmp) (hi : (ops[i]?.isSome && Region.wanted (opAt ops i) (yielded ops a.tmps)) = true) (hd : (opAt ops i).dst = d) (hb : Hid (w.heap.size = b))
    (hrun : (execOp a.eval (opAt ops i)).run Try.prog w = .ok (.value (.slice (some ⟨w.heap.size, 0, none⟩) n n)) (w.alloc (.cells cs.toArray t)))
    (h : ∀ w', Blk w' b t cs → Below w.heap.size w w' → wpFrom Try.prog ops Q (i + 1) (a.put d (.slice (some ⟨b, 0, none⟩) n n)) w') : wpFrom Try.prog ops Q i a w := by
  obtain rfl := hb.out
  exact lin_value i _ d _ hi hd hrun (h _ (Blk.new w t cs) ((Below.refl _ _).alloc (Nat.le_refl _) _))
theorem RowS.nms {m : Nat} {w : World} {v : Value} {l : List (List UInt8)} (h : RowS m w v l) : NmsAt w v l := by
  rcases h with ⟨rfl, rfl⟩ | ⟨g, cap, cur, rfl, hb, hk, hn, -, hs, ht, -⟩
  · exact NmsAt.nil _ _ _
  · refine ⟨_, _, rfl, fun _ => ⟨g, 0, rfl, (Array.getElem?_eq_some_iff.1 hk).1, fun j u hu => ?_⟩⟩
    refine cell?_cells hk ?_
    rw [← ht, List.getElem?_take] at hu
    split at hu
    · simpa using hu
    · cases hu
theorem RowS.slice {m : Nat} {w : World} {v : Value} {l : List (List UInt8)} (h : RowS m w v l) : ∃ a c, v = .slice a l.length c := h.nms.slice
theorem RowT.len {m : Nat} {w : World} {v : Value} {ts : List Tm} (h : RowT m w v ts) : ∃ a c, v = .slice a ts.length c := h.in.slice
/-- Rows of strings and of terms lie apart. -/
theorem rows_apart {m m' : Nat} {w : World} {v u : Value} {l : List (List UInt8)} {ts : List Tm} (h : RowS m w v l) (k : RowT m' w u ts) : ∀ g, v.ownBlock = some g → u.ownBlock ≠ some g := fun g hg hu => by
  obtain ⟨-, -, cur, hc, -⟩ := h.own g hg
  obtain ⟨ds, ⟨-, hk⟩, -⟩ := k
  rcases hk with ⟨rfl, -⟩ | ⟨g', cap, cur', rfl, -, hc', -⟩
  · cases hu
  · cases hu
    rw [hc] at hc'
    simp only [Option.some.injEq, Obj.cells.injEq] at hc'
    exact absurd hc'.2.1 (by decide)
theorem run_build_str1 (s : List UInt8) (w : World) : (Instr.buildSlice 44 1 #[(0, strT s)]).run Try.prog w = .ok (.slice (some ⟨w.heap.size, 0, none⟩) 1 1) (w.alloc (.cells [strT s].toArray 9)) := by kernel_rfl
set_option maxHeartbeats 8000000 in
theorem open_walk {F : List Nat} (ns : List (List UInt8)) (M : Nat) (na : Option Addr) (nc : Nat) (k : Int) (t : Tm) (cs : List Value) (rs : List Tm) (rb : Tm) (w : World) (ht : TmAt F w t cs) (hs : SmT t) (hn : nodesT t ≤ 3000) (hv : rightP 4 1099511627776 t = true) (hk : k = 6 ∨ k = 7) (hM : ns.length = M) (hMb : M ≤ 1000000) (hcap : M ≤ nc) (hm : NmsAt w (.slice na M nc) ns) (hok : NamesOk ns) (hML : M ≤ (stripT k t).1.length) (hsr : SmT (stripT k t).2) (SMT : Hid ((stripT k t).1.length * 80 ≤ 140737488351232))
    (hrs : rs.length = M) (hr : ∀ (i : Nat) (x r : Tm), (stripT k t).1[i]? = some x → rs[i]? = some r → puO ((ns.take i).map conT) x = some r) (hfit : ∀ x ∈ (stripT k t).1, FitT x) (hfc : ∀ x ∈ ns.map conT, FitT x) (hrb : Hid (puO (ns.map conT) (bindT k (stripT k t).2 ((stripT k t).1.drop M)) = some rb)) (hfb : FitT (bindT k (stripT k t).2 ((stripT k t).1.drop M))) :
    Calls Try.prog 46 #[.agg cs.toArray, .int .i64 k, .slice na M nc] w fun e w' => ∃ lv cr, e = .returned (.tuple #[lv, .agg cr.toArray, .bool true]) ∧ LocsAt (List.range w.heap.size) w' lv (ns.zip rs) ∧ TmAt (List.range w.heap.size) w' rb cr ∧ Below w.heap.size w w' := by
  obtain ⟨q, hq⟩ : ∃ q, Hid (w.heap.size = q) := ⟨_, rfl⟩
  have HT := Lib.hid ht
  have HN := Lib.hid hm
  have C5 := Lib.hid ht.len
  clear ht hm
  go_enter Try.func46, Try.ntmps46
  go_upto_region 0 with (fail)
  refine lbeg (opsOf Try.f46 0) ?_
  refine lbox 0 25 (.tmp 0) (cs) (q) (some 3) hq ?_
  intro w1 bw1 bew1 hsw1
  refine lin_box1 1 3 (.tmp 1) (.int .i64 k) (q + 1) (some 4) (by kernel_rfl) (by kernel_rfl) (by kernel_rfl) (by kernel_rfl) (by rfl) hsw1 ?_
  intro w2 bw2 bew2 hsw2
  refine lin_box1 2 44 (.tmp 2) (.slice na M nc) (q + 1 + 1) (some 5) (by kernel_rfl) (by kernel_rfl) (by kernel_rfl) (by kernel_rfl) (by rfl) hsw2 ?_
  intro w3 bw3 bew3 hsw3
  refine lnow 3 (.slice none 0 0) (some 6) ?_
  refine lall 4 25 z5T (q + 1 + 1 + 1) (some 7) hsw3 ?_
  intro w4 bw4 bew4 hsw4
  refine lnow 5 (.bool false) (some 8) ?_
  refine ldn 6 ?_
  generalize hact : Act.put _ (some 8) _ = act
  simp only [Act.put, sA, sC, sZ] at hact
  subst hact
  have B0 : Hid (Blk w4 q 25 cs) := ((bw1.below bew2 (by omega)).below bew3 (by omega)).below bew4 (by omega)
  have B1 : Hid (IntAt w4 (q + 1) k) := (bw2.below bew3 (by omega)).below bew4 (by omega)
  have B2 : Hid (Blk w4 (q + 1 + 1) 44 [.slice na M nc]) := bw3.below bew4 (by omega)
  have BR : Hid (Blk w4 (q + 1 + 1 + 1) 25 z5T) := bw4
  have BE : Hid (Below q w w4) := ((bew1.trans (bew2.mono (by omega))).trans (bew3.mono (by omega))).trans (bew4.mono (by omega))
  have SZ : Hid (w4.heap.size = q + 4) := hsw4
  clear bw1 bew1 hsw1 bw2 bew2 hsw2 bw3 bew3 hsw3 bw4 bew4 hsw4
  obtain ⟨wa, hwa⟩ : ∃ y, y = w4 := ⟨_, rfl⟩
  rw [← hwa] at BE SZ BR B0 B1 B2 ⊢
  clear hwa
  have OW := fun (w1 : World) (h1 : Below wa.heap.size wa w1) => open1_walk (F := F) ns M na nc k t cs rs rb (q + 1) q (q + 1 + 1) w1 ((HT.out.step (Step.of_below BE.out (by have := hq.out; omega))).below h1) hs hn hv hk hM hMb hcap ((HN.out.below (by rw [hq.out]; exact BE.out)).below h1) hok hML hsr SMT hrs hr hfit hfc hrb hfb (B1.out.below h1 B1.out.lt) (B0.out.below h1 B0.out.lt) (B2.out.below h1 B2.out.lt)
  have BW := builto_cells 82 #[.pointer (some ⟨q + 1, 0, none⟩), .pointer (some ⟨q, 0, none⟩), .pointer (some ⟨q + 1 + 1, 0, none⟩)] wa (enters_of Try.func82 (by kernel_rfl) rfl) (fun cs w1 w2 => ∃ lv cr, cs = lv :: cr ∧ LocsAt (List.range w1.heap.size) w2 lv (ns.zip rs) ∧ TmAt (List.range w1.heap.size) w2 rb cr) true (fun w1 h1 => by
    show Calls Try.prog 82 #[.pointer (some ⟨q + 1, 0, none⟩), .pointer (some ⟨q, 0, none⟩), .pointer (some ⟨q + 1 + 1, 0, none⟩)] w1 _
    refine (OW w1 h1).mono fun e w2 h => ?_
    obtain ⟨lv, cr, he, hl, hc, hb⟩ := h
    obtain ⟨a1, c1, e1⟩ := hl.slice
    refine ⟨hb, .inl ⟨rfl, lv :: cr, he, by rw [List.length_cons, hc.len], fun u hu => ?_, lv, cr, rfl, hl, hc⟩⟩
    rcases List.mem_cons.1 hu with rfl | hu
    · rw [e1]; rfl
    · exact hc.one u hu)
  go_upto_region 1 with (fail)
  refine lbeg (opsOf Try.f46 1) ?_
  refine lin_now 0 (.func (.func 82) #[] #[.pointer (some ⟨q + 1, 0, none⟩), .pointer (some ⟨q, 0, none⟩), .pointer (some ⟨q + 1 + 1, 0, none⟩)]) (some 12) (by kernel_rfl) (by kernel_rfl) (by first | kernel_rfl | rfl) ?_
  refine lcal 1 81 #[.func (.func 82) #[] #[.pointer (some ⟨q + 1, 0, none⟩), .pointer (some ⟨q, 0, none⟩), .pointer (some ⟨q + 1 + 1, 0, none⟩)]] (some 13) _ (BW) ?_
  rintro e wb ⟨hbb, ⟨-, c6, w1, w2, rfl, h1, h2, ⟨lv, cr, rfl, hl, hc⟩, hu⟩ | ⟨h, -⟩⟩
  rotate_left
  · cases h
  refine ⟨_, rfl, ?_⟩
  obtain ⟨lca, lcc, rfl⟩ := hl.slice
  have z1 := SZ.out
  have LOC : Hid (LocsAt (List.range (q + 5)) wb (.slice lca (ns.zip rs).length lcc) (ns.zip rs)) := (hl.step (Step.of_upd hu (List.mem_range.2 h2))).sub (fun k hk => .inl (by simp at hk ⊢; omega))
  have TCB : Hid (TmAt (List.range (q + 5)) wb rb cr) := (TmAt.step (Step.of_upd hu (List.mem_range.2 h2)) _ _ hc).range (by omega)
  have CR5 := Lib.hid hc.len
  have CR1 := Lib.hid hc.one
  have BRb : Hid (Blk wb (q + 1 + 1 + 1) 25 z5T) := BR.out.below hbb BR.out.lt
  have BEb : Hid (Below q w wb) := BE.out.trans (hbb.mono (by omega))
  have SB : Hid (q + 4 ≤ wb.heap.size) := by have := hbb.size; rw [Hid]; omega
  obtain ⟨ZN, hZN⟩ : ∃ y, Hid ((ns.zip rs).length = y) := ⟨_, rfl⟩
  rw [hZN.out] at LOC ⊢
  clear hbb hl hc hu h1 h2 BW OW
  obtain ⟨q9, hq9⟩ : ∃ y, Hid (wb.heap.size = y) := ⟨_, rfl⟩
  refine lnow 2 (.tuple #[.agg (.slice lca ZN lcc :: cr).toArray, .bool true]) (some 11) ?_
  refine lnow 3 (.agg (.slice lca ZN lcc :: cr).toArray) (some 14) ?_
  refine lnow 4 (.bool true) (some 15) ?_
  refine lall 5 97 z6O q9 (some 9) hq9 ?_
  intro wc bwc bewc hswc
  refine lin_put 6 97 (.tmp 9) (.tmp 14) (q9) _ (z6O) (.slice lca ZN lcc :: cr) (by kernel_rfl) (by kernel_rfl) (by kernel_rfl) (by kernel_rfl) (by kernel_rfl) bwc (by rw [List.length_cons, CR5.out]; rfl) (o6Size (by rw [List.length_cons, CR5.out])) (by
    simp only [List.all_toArray, List.all_eq_true]
    intro u hu
    rcases List.mem_cons.1 hu with rfl | hu
    · rfl
    · exact CR1.out u hu) ?_
  intro wd bwd uwd
  refine lnow 7 (.bool true) (some 10) ?_
  refine ldn 8 ?_
  generalize hact : Act.put _ (some 10) _ = act
  simp only [Act.put, sA, sC, sZ] at hact
  subst hact
  have q9o := hq9.out
  have sb := SB.out
  have kp : Below q9 wb wd := uwd.below bewc (Nat.le_refl _) (by have := bewc.size; omega)
  have kp2 : Below wb.heap.size wb wd := by rw [q9o]; exact kp
  have LOCd := Lib.hid (LOC.out.below kp2)
  have TCd := Lib.hid (TCB.out.below kp2)
  have BRd : Hid (Blk wd (q + 1 + 1 + 1) 25 z5T) := BRb.out.below kp (by omega)
  have BEd : Hid (Below q w wd) := BEb.out.trans (kp.mono (by omega))
  have B9 : Hid (Blk wd q9 97 (.slice lca ZN lcc :: cr)) := bwd
  have R9 : Hid (wd.rangeAt q9 1 cr) := range_tail (v := .slice lca ZN lcc) (o := 0) bwd.whole
  clear bwc bewc hswc bwd uwd kp kp2 LOC TCB BRb BEb
  go_upto_region 2 with (fail)
  refine region_begin (opsOf Try.f46 2) (fun W => Blk W q9 97 (.slice lca ZN lcc :: cr)) (by kernel_rfl) (by kernel_rfl) 8 (by kernel_rfl) ?_
  intro Q' hQN hN
  have HS : Blk wd.drew q9 97 (.slice lca ZN lcc :: cr) := B9.out
  refine reg_now 0 (.pointer (some ⟨q9, 0, none⟩)) (some 16) hQN HS (by kernel_rfl) (by kernel_rfl) (fun w => by kernel_rfl) ?_
  refine reg_nowIf 1 (.slice lca ZN lcc) (some 17) hQN HS (by kernel_rfl) (by kernel_rfl) (fun w' hw => exec_load_cell 66 (.tmp 16) (by kernel_rfl) q9 0 (by kernel_rfl) _ (hw.cell rfl) _ Try.underlying66 rfl) ?_
  refine reg_now 4 (.bool true) (some 20) hQN HS (by kernel_rfl) (by kernel_rfl) (fun w => by kernel_rfl) ?_
  refine reg_now 2 (.pointer (some ⟨q9, 1, none⟩)) (some 18) hQN HS (by kernel_rfl) (by kernel_rfl) (fun w => by kernel_rfl) ?_
  refine reg_nowIf 3 (.agg cr.toArray) (some 19) hQN HS (by kernel_rfl) (by kernel_rfl) (fun w' hw => exec_load_mid 25 (.tmp 18) (by kernel_rfl) q9 1 (by kernel_rfl) cr _ (range_tail (o := 0) hw.whole) Try.underlying25 rfl (t5Size CR5.out)) ?_
  refine reg_value 5 (.slice lca ZN lcc) (some 6) wd.drew (by kernel_rfl) (by kernel_rfl) (by kernel_rfl) HS ?_
  have BRw : Blk wd.drew (q + 1 + 1 + 1) 25 z5T := BRd.out
  refine reg_putT 6 25 (.tmp 7) (.tmp 19) (q + 1 + 1 + 1) 25 z5T cr (by kernel_rfl) (by kernel_rfl) (by kernel_rfl) (by kernel_rfl) (by kernel_rfl) BRw (CR5.out.trans (rfl : 5 = z5T.length)) (t5Size CR5.out) (by simpa using CR1.out) ?_
  intro we bwe uwe
  have HS2 : Blk we q9 97 (.slice lca ZN lcc :: cr) := uwe.blk HS (by omega)
  refine ⟨HS2, ?_⟩
  refine reg_value 7 (.bool true) (some 8) we (by kernel_rfl) (by kernel_rfl) (by kernel_rfl) HS2 ?_
  refine reg_done (by kernel_rfl) (hN _ _ ?_)
  generalize hact : Act.put _ (some 8) _ = act
  simp only [Act.put, sA, sC, sZ] at hact
  subst hact
  have z9 : wd.drew.heap.size = wd.heap.size := rfl
  go_wp2
  refine bodyPost_ret (v := .tuple #[.slice lca ZN lcc, .agg cr.toArray, .bool true]) ?_ rfl ⟨_, _, rfl, ?_, ?_, ?_⟩
  · exact results_tmp_cell_tmp Try.results46 _ _ rfl bwe Try.underlying25 rfl (t5Size CR5.out) rfl rfl
  · exact ((LOCd.out.below (Below.refl _ _).drew).step (Step.of_upd uwe (List.mem_range.2 (by omega)))).sub (fun k hk => .inl (by have := hq.out; simp at hk ⊢; omega))
  · exact (TmAt.step (Step.of_upd uwe (List.mem_range.2 (by omega))) _ _ (TCd.out.below (Below.refl _ _).drew)).range (by have := hq.out; omega)
  · rw [hq.out]; exact uwe.below (BEd.out.trans (Below.refl _ _).drew) (by omega) (by have := BEd.out.size; have := hq.out; omega)
def z6L : List Value := [strT [], .int .i64 0, .int .i64 0, strT [], .slice none 0 0, .slice none 0 0]
theorem own_not_local {m : Nat} {w : World} {v : Value} {ts : List Tm} {g : Nat} {cs : List Value} (h : RowT m w v ts) (hb : Blk w g 71 cs) (e : v.ownBlock = some g) : False := by
  obtain ⟨ds, ⟨-, hk⟩, -⟩ := h
  rcases hk with ⟨rfl, -⟩ | ⟨g', cap, cur', rfl, -, hc', -⟩
  · cases e
  · cases e
    unfold Blk at hb
    rw [hb] at hc'
    simp only [Option.some.injEq, Obj.cells.injEq] at hc'
    exact absurd hc'.2.1 (by decide)
theorem TmCells.keepC {G : List Nat} {W W' : World} (hk : KeepC G W W') : ∀ {ts : List Tm} {cs : List (List Value)}, TmCells G W ts cs → TmCells G W' ts cs
  | [], [], _ => trivial
  | _ :: _, _ :: _, h => ⟨TmAt.keepC hk _ _ h.1, TmCells.keepC hk h.2⟩
  | [], _ :: _, h => h.elim
  | _ :: _, [], h => h.elim
theorem rowT_grown {m m' : Nat} {w w' : World} {v u : Value} {ts : List Tm} {l : List (List UInt8)} (h : RowT m w v ts) (hS : RowS m' w u l) (hg : w.grownBy w' u.ownBlock) : RowT m w' v ts := by
  have AP := rows_apart hS h
  obtain ⟨ds, hown, hc⟩ := h
  refine ⟨ds, own_grown hown hg (fun g hv e => AP g e.symm hv), TmCells.keepC ⟨hg.size, fun k o _ ho hf => ?_⟩ hc⟩
  refine (hg.block k (Array.getElem?_eq_some_iff.1 ho).1 (fun e => ?_)).trans ho
  obtain ⟨-, -, cur, hcur, hall⟩ := hS.own k e.symm
  rw [hcur] at ho
  cases ho
  simp only [firm, Array.any_eq_true, Bool.not_eq_true'] at hf
  obtain ⟨i, hi, hv⟩ := hf
  rw [hall _ (Array.getElem_mem hi)] at hv
  cases hv
set_option maxHeartbeats 8000000 in
theorem close1_walk {F : List Nat} (ls : List (List UInt8 × Tm)) (M : Nat) (la : Option Addr) (lc : Nat) (k : Int) (t : Tm) (cs : List Value) (rs : List Tm) (tb : Tm) (pk pt pl : Nat) (w : World) (ht : TmAt F w t cs) (hs : SmT t) (hn : nodesT t ≤ 3000) (hv : rightP 4 1099511627776 t = true) (hk : k = 6 ∨ k = 7) (hM : ls.length = M) (hMb : M ≤ 200) (hl : LocsAt F w (.slice la M lc) ls) (hrs : rs.length = M)
    (hr : ∀ (i : Nat) (x : List UInt8 × Tm) (r : Tm), ls[i]? = some x → rs[i]? = some r → rightP 4 1099511627776 x.2 = true ∧ pulledO ((ls.take i).map (·.1)) x.2 = some r) (hsl : ∀ x ∈ ls, SmT x.2) (hsmr : SmTs rs) (htb : pulledO (ls.map (·.1)) t = some tb) (hsb : SmT (bindT k tb rs)) (hvb : rightP 4 1099511627776 (bindT k tb rs) = true) (hb0 : IntAt w pk k) (hb1 : Blk w pt 25 cs) (hb2 : Blk w pl 66 [.slice la M lc]) :
    Calls Try.prog 85 #[.pointer (some ⟨pk, 0, none⟩), .pointer (some ⟨pl, 0, none⟩), .pointer (some ⟨pt, 0, none⟩)] w (Builds (some (bindT k tb rs)) w) := by
  have C5 := Lib.hid ht.len
  have HT := Lib.hid ht
  have HL := Lib.hid hl
  have RR := Lib.hid hr
  have SL := Lib.hid hsl
  have TBO := Lib.hid htb
  obtain ⟨q, hq⟩ : ∃ q, Hid (w.heap.size = q) := ⟨_, rfl⟩
  have HQ : Hid (pk < q ∧ pt < q ∧ pl < q) := by have := hb0.lt; have := hb1.lt; have := hb2.lt; have := hq.out; rw [Hid]; omega
  have HB0 := Lib.hid hb0
  have HB1 := Lib.hid hb1
  have HB2 := Lib.hid hb2
  clear ht hl hr hsl htb hb0 hb1 hb2
  go_enter Try.func85, Try.ntmps85
  go_upto_region 0 with (fail)
  refine lbeg (opsOf Try.f85 0) ?_
  refine lall 0 25 z5T (q) (some 3) hq ?_
  intro w1 bw1 bew1 hsw1
  refine ldn 1 ?_
  generalize hact : Act.put _ (some 3) _ = act
  simp only [Act.put, sA, sC, sZ] at hact
  subst hact
  have h3 := HQ.out
  have BR : Hid (Blk w1 q 25 z5T) := bw1
  have BE : Hid (Below q w w1) := bew1
  have S1 : Hid (w1.heap.size = q + 1) := hsw1
  have K0 : Hid (IntAt w1 pk k) := HB0.out.below BE.out h3.1
  have K1 : Hid (Blk w1 pt 25 cs) := HB1.out.below BE.out h3.2.1
  have K2 : Hid (Blk w1 pl 66 [.slice la M lc]) := HB2.out.below BE.out h3.2.2
  clear bw1 bew1 hsw1 HB0 HB1 HB2
  have TW := takes_walk k w1
  rw [decide_eq_true hk] at TW
  go_upto_region 1 with (fail)
  refine lbeg (opsOf Try.f85 1) ?_
  refine lcl 0 (.int .i64 k) (some 8) 3 0 (pk) 0 (K0.out.cell rfl) Try.underlying3 ?_
  refine lcal 1 83 #[.int .i64 k] (some 9) _ (TW) ?_
  rintro e w' ⟨rfl, hw'⟩
  obtain rfl := hw'.symm
  refine ⟨_, rfl, ?_⟩
  refine lcal 2 51 #[.bool true, .int .i64 10] (some 10) _ (need_yes 10 w1) ?_
  rintro e w' ⟨rfl, hw'⟩
  obtain rfl := hw'.symm
  refine ⟨_, rfl, ?_⟩
  refine ldn 3 ?_
  generalize hact : Act.put _ (some 10) _ = act
  simp only [Act.put, sA, sC, sZ] at hact
  subst hact
  go_upto_region 2 with (fail)
  refine lbeg (opsOf Try.f85 2) ?_
  refine lcl 0 (.slice la M lc) (some 11) 66 1 (pl) 0 (K2.out.cell rfl) Try.underlying66 ?_
  refine lnow 1 (.int .i64 (M : Int)) (some 12) ?_
  refine lnow 2 (.bool (decide ((M : Int) ≤ 200))) (some 13) ?_
  rw [show decide ((M : Int) ≤ 200) = true from decide_eq_true (by omega)]
  refine lcal 3 51 #[.bool true, .int .i64 14] (some 14) _ (need_yes 14 w1) ?_
  rintro e w' ⟨rfl, hw'⟩
  obtain rfl := hw'.symm
  refine ⟨_, rfl, ?_⟩
  refine ldn 4 ?_
  generalize hact : Act.put _ (some 14) _ = act
  simp only [Act.put, sA, sC, sZ] at hact
  subst hact
  go_upto_region 3 with (fail)
  refine lbeg (opsOf Try.f85 3) ?_
  refine lnow 0 (.slice none 0 0) (some 4) ?_
  refine ldn 1 ?_
  generalize hact : Act.put _ (some 4) _ = act
  simp only [Act.put, sA, sC, sZ] at hact
  subst hact
  go_upto_region 4 with (fail)
  refine lbeg (opsOf Try.f85 4) ?_
  refine lnow 0 (.slice none 0 0) (some 5) ?_
  refine ldn 1 ?_
  generalize hact : Act.put _ (some 5) _ = act
  simp only [Act.put, sA, sC, sZ] at hact
  subst hact
  go_upto_region 5 with (fail)
  refine lbeg (opsOf Try.f85 5) ?_
  refine lcl 0 (.slice la M lc) (some 15) 66 1 (pl) 0 (K2.out.cell rfl) Try.underlying66 ?_
  refine lnow 1 (.int .i64 (M : Int)) (some 16) ?_
  refine lnow 2 (.int .i64 0) (some 17) ?_
  refine ldn 3 ?_
  generalize hact : Act.put _ (some 17) _ = act
  simp only [Act.put, sA, sC, sZ] at hact
  subst hact
  have Z0 : Hid (RowS (q + 1) w1 (.slice none 0 0) []) := RowS.nil _ _
  have Z1 : Hid (RowT (q + 1) w1 (.slice none 0 0) []) := RowT.nil _ _
  go_wp2
  go_loopw [4, 5, 17] (fun nv tv iv wr => ∃ i : Nat, i ≤ M ∧ iv = .int .i64 (i : Int) ∧ Hid (RowS (q + 1) wr nv ((ls.take i).map (·.1))) ∧ Hid (RowT (q + 1) wr tv (rs.take i)) ∧ Hid (Below (q + 1) w1 wr)) (fun _ _ iv _ => M - (intOf iv).toNat)
  case atStart => exact ⟨0, Nat.zero_le _, rfl, by rw [List.take_zero]; exact Z0, by rw [List.take_zero]; exact Z1, Below.refl _ _⟩
  case round =>
    obtain ⟨i, hi, rfl, RS, RT, BL⟩ := hrel
    skip
    have s1 := S1.out
    have bz := BL.out.size
    have BRr : Hid (Blk wr q 25 z5T) := BR.out.below BL.out (by omega)
    have K0r : Hid (IntAt wr pk k) := K0.out.below BL.out (by omega)
    have K1r : Hid (Blk wr pt 25 cs) := K1.out.below BL.out (by omega)
    have K2r : Hid (Blk wr pl 66 [.slice la M lc]) := K2.out.below BL.out (by omega)
    have BEr : Hid (Below q w wr) := BE.out.trans (BL.out.mono (by omega))
    have hsz := hq.out
    have HTr : Hid (TmAt F wr t cs) := HT.out.step (Step.of_below BEr.out (by omega))
    have HLr : Hid (LocsAt F wr (.slice la M lc) ls) := HL.out.step (Step.of_below BEr.out (by omega))
    by_cases hlt : i < M
    rotate_left
    · skip
      have rlt : ¬ (i : Int) < (M : Int) := by omega
      obtain rfl : i = M := by omega
      have hRS := RS.out
      have hRT := RT.out
      rw [List.take_of_length_le (by omega)] at hRS hRT
      obtain ⟨na, nc, rfl⟩ := hRS.slice
      have nl : (ls.map (·.1)).length = i := by rw [List.length_map]; exact hM
      rw [nl] at hRS ⊢
      obtain ⟨ta, tc, rfl⟩ := hRT.len
      have NMS := Lib.hid hRS.nms
      have TMS := Lib.hid hRT.in
      clear hRS hRT RS RT
      go_upto_region 11 with (fail)
      refine region_begin (opsOf Try.f85 11) (fun W => (∃ x, Blk W q 25 x) ∧ IntAt W pk k ∧ Blk W pt 25 cs) (by kernel_rfl) (by kernel_rfl) 9 (by kernel_rfl) ?_
      intro Q' hQN hN
      have HS : Blk wr.drew q 25 z5T ∧ IntAt wr.drew pk k ∧ Blk wr.drew pt 25 cs := ⟨BRr.out, K0r.out, K1r.out⟩
      have BD : Hid (Below q w wr.drew) := BEr.out.drew
      have SD : Hid (q + 1 ≤ wr.drew.heap.size) := by have : w1.heap.size ≤ wr.drew.heap.size := bz; rw [Hid]; omega
      refine reg_nowIf 0 (.int .i64 k) (some 35) hQN ⟨⟨_, HS.1⟩, HS.2⟩ (by kernel_rfl) (by kernel_rfl) (fun w' hw => exec_load_cell 3 (.tmp 0) (by kernel_rfl) pk 0 (by kernel_rfl) _ (hw.2.1.cell rfl) _ Try.underlying3 rfl) ?_
      refine reg_nowIf 1 (.agg (cs).toArray) (some 36) hQN ⟨⟨_, HS.1⟩, HS.2⟩ (by kernel_rfl) (by kernel_rfl) (fun w' hw => exec_load_mid 25 (.tmp 2) (by kernel_rfl) (pt) 0 (by kernel_rfl) (cs) _ hw.2.2.whole Try.underlying25 rfl (t5Size C5.out)) ?_
      refine reg_now 3 (.slice na i nc) (some 38) hQN ⟨⟨_, HS.1⟩, HS.2⟩ (by kernel_rfl) (by kernel_rfl) (fun w => by kernel_rfl) ?_
      refine reg_now 5 (.slice ta rs.length tc) (some 40) hQN ⟨⟨_, HS.1⟩, HS.2⟩ (by kernel_rfl) (by kernel_rfl) (fun w => by kernel_rfl) ?_
      refine reg_call 2 52 #[.agg cs.toArray] (some 37) _ (by kernel_rfl) (by kernel_rfl) (by kernel_rfl) (valid_ok t cs wr.drew (HTr.out.below (Below.refl _ _).drew) hs hv) ?_
      rintro e w2 ⟨rfl, hb2⟩
      have HS2 : Blk w2 q 25 z5T ∧ IntAt w2 pk k ∧ Blk w2 pt 25 cs := ⟨HS.1.below hb2 HS.1.lt, HS.2.1.below hb2 HS.2.1.lt, HS.2.2.below hb2 HS.2.2.lt⟩
      refine ⟨_, rfl, ⟨⟨_, HS2.1⟩, HS2.2⟩, ?_⟩
      have hb2' : Below wr.heap.size wr w2 := ((Below.refl _ wr).drew).trans hb2
      have BE2 : Hid (Below q w w2) := BEr.out.trans (hb2'.mono (by omega))
      have S2 : Hid (q + 1 ≤ w2.heap.size) := by have := hb2'.size; rw [Hid]; omega
      have T2 := Lib.hid (TMS.out.below hb2')
      have PW := pulled_walk (ls.map (·.1)) i na nc t cs w2 (HTr.out.below hb2') nl (by omega) (NMS.out.below hb2') hs (rightP_bnd hv) (by omega)
      rw [TBO.out] at PW
      refine reg_call 4 80 #[.agg cs.toArray, .slice na i nc] (some 39) _ (by kernel_rfl) (by kernel_rfl) (by kernel_rfl) PW ?_
      rintro e w3 ⟨hb3, cb, rfl, hcb⟩
      have HS3 : Blk w3 q 25 z5T ∧ IntAt w3 pk k ∧ Blk w3 pt 25 cs := ⟨HS2.1.below hb3 HS2.1.lt, HS2.2.1.below hb3 HS2.2.1.lt, HS2.2.2.below hb3 HS2.2.2.lt⟩
      refine ⟨_, rfl, ⟨⟨_, HS3.1⟩, HS3.2⟩, ?_⟩
      have s2 := S2.out
      have BE3 : Hid (Below q w w3) := BE2.out.trans (hb3.mono (by omega))
      have S3 : Hid (q + 1 ≤ w3.heap.size) := by have := hb3.size; rw [Hid]; omega
      have T3 := Lib.hid (T2.out.below hb3)
      have TBS := pulledO_sm TBO.out hs
      refine reg_call 6 15 #[.int .i64 k, .agg cb.toArray, .slice ta rs.length tc] (some 41) _ (by kernel_rfl) (by kernel_rfl) (by kernel_rfl) (bind_walk (F := List.range (q + 1)) k tb rs cb _ w3 (hcb.range (by omega)) TBS.1 T3.out hsmr (by omega)) ?_
      rintro e w4 ⟨cd, rfl, hcd, hb4⟩
      have HS4 : Blk w4 q 25 z5T ∧ IntAt w4 pk k ∧ Blk w4 pt 25 cs := ⟨HS3.1.below hb4 HS3.1.lt, HS3.2.1.below hb4 HS3.2.1.lt, HS3.2.2.below hb4 HS3.2.2.lt⟩
      refine ⟨_, rfl, ⟨⟨_, HS4.1⟩, HS4.2⟩, ?_⟩
      have s3 := S3.out
      have BE4 : Hid (Below q w w4) := BE3.out.trans (hb4.mono (by omega))
      have S4 : Hid (q + 1 ≤ w4.heap.size) := by have := hb4.size; rw [Hid]; omega
      have D4 : Hid (TmAt (List.range (q + 1)) w4 (bindT k tb rs) cd) := hcd.range (by omega)
      refine reg_call 7 52 #[.agg cd.toArray] (some 42) _ (by kernel_rfl) (by kernel_rfl) (by kernel_rfl) (valid_ok _ cd w4 D4.out hsb hvb) ?_
      rintro e w5 ⟨rfl, hb5⟩
      have HS5 : Blk w5 q 25 z5T ∧ IntAt w5 pk k ∧ Blk w5 pt 25 cs := ⟨HS4.1.below hb5 HS4.1.lt, HS4.2.1.below hb5 HS4.2.1.lt, HS4.2.2.below hb5 HS4.2.2.lt⟩
      refine ⟨_, rfl, ⟨⟨_, HS5.1⟩, HS5.2⟩, ?_⟩
      have s4 := S4.out
      have BE5 : Hid (Below q w w5) := BE4.out.trans (hb5.mono (by omega))
      have D5 := Lib.hid (D4.out.below hb5)
      have CD5 := Lib.hid D5.out.len
      have ONE := Lib.hid D5.out.one
      refine reg_putT 8 25 (.tmp 3) (.tmp 42) q 25 z5T cd (by kernel_rfl) (by kernel_rfl) (by kernel_rfl) (by kernel_rfl) (by kernel_rfl) HS5.1 (CD5.out.trans (rfl : 5 = z5T.length)) (t5Size CD5.out) (by simpa using ONE.out) ?_
      intro w6 bw6 uw6
      refine ⟨⟨⟨_, bw6⟩, uw6.blk HS5.2.1 (by omega), uw6.blk HS5.2.2 (by omega)⟩, ?_⟩
      refine reg_done (by kernel_rfl) (hN _ _ ?_)
      generalize hact : Act.put _ none _ = act
      simp only [Act.put, sA, sC, sZ] at hact
      subst hact
      go_wp2
      refine bodyPost_ret (v := .agg cd.toArray) ?_ rfl (Builds.yes (by rw [hq.out]; exact uw6.below BE5.out (by omega) (by have := BE5.out.size; omega)) rfl rfl (by rw [hq.out]; exact (TmAt.step (Step.of_upd uw6 (List.mem_range.2 (by omega))) _ _ D5.out).range (by omega)))
      exact results_cell_row (g := q) (t := 25) (cs := (cd).toArray) (fr := (0, 0)) Try.results85 _ _ _ rfl bw6 Try.underlying25 rfl (t5Size CD5.out)
    have rlt : (i : Int) < (M : Int) := by omega
    obtain ⟨x, pb, po, cx, hx, hla, -, hpb, hrx, htx⟩ := HLr.out.get hM hlt
    subst hla
    have HRX := Lib.hid hrx
    have X5 := Lib.hid htx.len
    have X1 := Lib.hid htx.one
    have HTX := Lib.hid htx
    obtain ⟨r, hr1⟩ : ∃ r, rs[i]? = some r := ⟨_, List.getElem?_eq_getElem (by omega)⟩
    have RX := RR.out i x r hx hr1
    have SX := SL.out x (List.mem_of_getElem? hx)
    have TKN : Hid ((ls.take (i + 1)).map (·.1) = (ls.take i).map (·.1) ++ [x.1]) := by rw [Hid, List.take_add_one, hx]; simp
    have TKR : Hid (rs.take (i + 1) = rs.take i ++ [r]) := by rw [Hid, List.take_add_one, hr1]; rfl
    obtain ⟨na, nc, rfl⟩ := RS.out.slice
    have nl : ((ls.take i).map (·.1)).length = i := by rw [List.length_map, List.length_take]; omega
    rw [nl] at RS ⊢
    obtain ⟨ta, tc, rfl⟩ := RT.out.len
    have tl : (rs.take i).length = i := by rw [List.length_take]; omega
    rw [tl] at RT ⊢
    obtain ⟨nm, hnm⟩ : ∃ y, Hid (x.1 = y) := ⟨_, rfl⟩
    rw [hnm.out] at HRX TKN
    clear hx hrx htx hr1
    obtain ⟨qx, hqx⟩ : ∃ y, Hid (wr.heap.size = y) := ⟨_, rfl⟩
    have qxo := hqx.out
    go_upto_region 7 with (fail)
    refine lbeg (opsOf Try.f85 7) ?_
    refine lix 0 (.pointer (some ⟨pb, po + 6 * i, none⟩)) (some 19) 66 15 17 (run_at_loc pb po M lc i hlt _) ?_
    refine lrl 1 (strT nm :: cx) (some 20) 71 19 pb (po + 6 * i) HRX.out Try.underlying71 (l6Size (by rw [List.length_cons, X5.out])) ?_
    refine lall 2 71 z6L qx (some 7) hqx ?_
    intro w5 bw5 bew5 hsw5
    refine lin_put 3 71 (.tmp 7) (.tmp 20) (qx) _ (z6L) (strT nm :: cx) (by kernel_rfl) (by kernel_rfl) (by kernel_rfl) (by kernel_rfl) (by kernel_rfl) bw5 (by rw [List.length_cons, X5.out]; rfl) (l6Size (by rw [List.length_cons, X5.out])) (by
      simp only [List.all_toArray, List.all_eq_true]
      intro u hu
      rcases List.mem_cons.1 hu with rfl | hu
      · rfl
      · exact X1.out u hu) ?_
    intro w6 bw6 uw6
    refine ldn 4 ?_
    generalize hact : Act.put _ none _ = act
    simp only [Act.put, sA, sC, sZ] at hact
    subst hact
    have kp : Below wr.heap.size wr w6 := by rw [qxo]; exact uw6.below bew5 (Nat.le_refl _) (by have := bew5.size; omega)
    have BX6 : Hid (Blk w6 qx 71 (strT nm :: cx)) := bw6
    have RX6 : Hid (w6.rangeAt qx 1 cx) := range_tail (v := strT nm) (o := 0) bw6.whole
    have RS6 := Lib.hid (RS.out.below kp)
    have RT6 := Lib.hid (RT.out.below kp)
    have BL6 : Hid (Below (q + 1) w1 w6) := BL.out.trans (kp.mono (by omega))
    have HT6 := Lib.hid (HTX.out.below kp)
    have S6 : Hid (qx < w6.heap.size) := bw6.lt
    clear bw5 bew5 hsw5 bw6 uw6 kp RS RT BL HTX HRX K0r K1r K2r BRr BEr HTr HLr
    have PW := fun w7 (h : Below w6.heap.size w6 w7) => pulled_walk ((ls.take i).map (·.1)) i na nc x.2 cx w7 (HT6.out.below h) nl (by omega) ((RS6.out.below h).nms) SX (rightP_bnd RX.1) (by have := (rightP_parts RX.1).2.1; omega)
    rw [RX.2] at PW
    go_upto_region 8 with (fail)
    refine lbeg (opsOf Try.f85 8) ?_
    refine lnow 0 (.slice ta i tc) (some 21) ?_
    refine lnow 1 (.pointer (some ⟨qx, 1, none⟩)) (some 22) ?_
    refine lrl 2 cx (some 23) 25 22 qx 1 RX6.out Try.underlying25 (t5Size X5.out) ?_
    refine lcal 3 52 #[.agg cx.toArray] (some 24) _ (valid_ok x.2 cx w6 HT6.out SX RX.1) ?_
    rintro e w7 ⟨rfl, hb7⟩
    refine ⟨_, rfl, ?_⟩
    refine lnow 4 (.slice na i nc) (some 25) ?_
    refine lcal 5 80 #[.agg cx.toArray, .slice na i nc] (some 26) _ (PW w7 hb7) ?_
    rintro e w8 ⟨hb8, cr, rfl, hcr⟩
    refine ⟨_, rfl, ?_⟩
    have s6 := S6.out
    have z7 := hb7.size
    have z8 := hb8.size
    have hb68 : Below w6.heap.size w6 w8 := hb7.trans (hb8.mono z7)
    have RS8 := Lib.hid (RS6.out.below hb68)
    have RT8 := Lib.hid (RT6.out.below hb68)
    have BL8 : Hid (Below (q + 1) w1 w8) := BL6.out.trans (hb68.mono (by omega))
    have BX8 : Hid (Blk w8 qx 71 (strT nm :: cx)) := BX6.out.below hb68 BX6.out.lt
    have RTB : Hid (RowT (q + 1) w7 (.slice ta i tc) (rs.take i)) := RT6.out.below hb7
    have OWN := RTB.out.own
    clear RS6 RT6 BL6 BX6 RX6 hb7 hb68 PW
    obtain ⟨q9, hq9⟩ : ∃ y, Hid (w8.heap.size = y) := ⟨_, rfl⟩
    refine lin_rowC 6 q9 1 25 cr (some 27) (by kernel_rfl) (by kernel_rfl) hq9 (exec_of _ _ (by kernel_rfl) (run_build_tm1 hcr w8)) ?_
    intro w9 bw9 bew9
    have RT9 : Hid (RowT (q + 1) w9 (.slice ta i tc) (rs.take i)) := RT8.out.below bew9
    have RS9 : Hid (RowS (q + 1) w9 (.slice na i nc) ((ls.take i).map (·.1))) := RS8.out.below bew9
    have hcr9 : TmAt (List.range (q + 1) ++ ownL (.slice ta i tc)) w9 r cr := (TmAt.sub (fun k hk => .inl (by
      rcases List.mem_append.1 hk with hk | hk
      · simp at hk ⊢; omega
      · have := OWN k (ownL_mem.1 hk); simp; omega)) _ _ hcr).below bew9
    obtain ⟨tv', wA, hrun, RTA, hgA, -⟩ := RT9.out.append bw9 hcr9 (by rw [tl]; omega) (by have := bew9.size; omega)
    have AP := rows_apart RS9.out RT9.out
    have RSA : Hid (RowS (q + 1) wA (.slice na i nc) ((ls.take i).map (·.1))) := RS9.out.kept (fun g hg => hgA.block g (RS9.out.own g hg).2.1 (fun e => AP g hg e.symm))
    have RTAh : Hid (RowT (q + 1) wA tv' (rs.take (i + 1))) := by rw [Hid, TKR.out]; exact RTA
    have BL9 : Below (q + 1) w1 w9 := BL8.out.trans (bew9.mono (by omega))
    have BLA : Hid (Below (q + 1) w1 wA) := BL9.trans (grown_below hgA (by have := bew9.size; omega) (fun g hg => (RT9.out.own g hg).1))
    have BX9 : Blk w9 qx 71 (strT nm :: cx) := BX8.out.below bew9 BX8.out.lt
    have NQX : (.slice ta i tc : Value).ownBlock ≠ some qx := fun e => own_not_local RT9.out BX9 e
    have BXA : Hid (Blk wA qx 71 (strT nm :: cx)) := grown_blk hgA BX9 NQX
    have SA : Hid (q + 1 ≤ wA.heap.size) := by have := hgA.size; have := bew9.size; rw [Hid]; omega
    refine lin_value 7 tv' (some 28) wA (by kernel_rfl) (by kernel_rfl) (exec_of _ _ (by kernel_rfl) hrun) ?_
    clear hrun RTA hgA bw9 bew9 hcr9 AP RS9 RT9 BL9 BX9 NQX RS8 RT8 BL8 BX8 hcr RTB OWN
    refine lnow 8 (tv') (some 5) ?_
    refine ldn 9 ?_
    generalize hact : Act.put _ (some 5) _ = act
    simp only [Act.put, sA, sC, sZ] at hact
    subst hact
    obtain ⟨qs, hqs⟩ : ∃ y, Hid (wA.heap.size = y) := ⟨_, rfl⟩
    go_upto_region 9 with (fail)
    refine lbeg (opsOf Try.f85 9) ?_
    refine lnow 0 (.slice na i nc) (some 29) ?_
    refine lnow 1 (.pointer (some ⟨qx, 0, none⟩)) (some 30) ?_
    refine lcl 2 (strT nm) (some 31) 9 30 qx 0 (BXA.out.cell rfl) Try.underlying9 ?_
    refine lin_rowC 3 qs 1 9 [strT nm] (some 32) (by kernel_rfl) (by kernel_rfl) hqs (exec_of _ _ (by kernel_rfl) (run_build_str1 nm wA)) ?_
    intro wB bwB bewB
    have RSB : Hid (RowS (q + 1) wB (.slice na i nc) ((ls.take i).map (·.1))) := RSA.out.below bewB
    have RTB : Hid (RowT (q + 1) wB tv' (rs.take (i + 1))) := RTAh.out.below bewB
    obtain ⟨nv', wC, hrun, RSC, hgC⟩ := RSB.out.append bwB (by rw [nl]; omega) (by have := bewB.size; have := SA.out; omega)
    have NR : Hid (RowS (q + 1) wC nv' ((ls.take (i + 1)).map (·.1))) := by rw [Hid, TKN.out]; exact RSC
    have NT : Hid (RowT (q + 1) wC tv' (rs.take (i + 1))) := rowT_grown RTB.out RSB.out hgC
    have NB : Hid (Below (q + 1) w1 wC) := (BLA.out.trans (bewB.mono SA.out)).trans (grown_below hgC (by have := bewB.size; have := SA.out; omega) (fun g hg => (RSB.out.own g hg).1))
    refine lin_value 4 nv' (some 33) wC (by kernel_rfl) (by kernel_rfl) (exec_of _ _ (by kernel_rfl) hrun) ?_
    clear hrun RSC hgC bwB bewB RSB RTB RSA RTAh BLA BXA SA hqs
    refine lnow 5 (nv') (some 4) ?_
    refine ldn 6 ?_
    generalize hact : Act.put _ (some 4) _ = act
    simp only [Act.put, sA, sC, sZ] at hact
    subst hact
    go_wp2
    go_roundw
    case rel => exact ⟨i + 1, by omega, by go_num, NR, NT, NB⟩
    case measure => simp [intOf]; omega
set_option maxHeartbeats 4000000 in
theorem close_walk {F : List Nat} (ls : List (List UInt8 × Tm)) (M : Nat) (la : Option Addr) (lc : Nat) (k : Int) (t : Tm) (cs : List Value) (rs : List Tm) (tb : Tm) (w : World) (ht : TmAt F w t cs) (hs : SmT t) (hn : nodesT t ≤ 3000) (hv : rightP 4 1099511627776 t = true) (hk : k = 6 ∨ k = 7) (hM : ls.length = M) (hMb : M ≤ 200) (hl : LocsAt F w (.slice la M lc) ls) (hrs : rs.length = M) (hr : ∀ (i : Nat) (x : List UInt8 × Tm) (r : Tm), ls[i]? = some x → rs[i]? = some r → rightP 4 1099511627776 x.2 = true ∧ pulledO ((ls.take i).map (·.1)) x.2 = some r) (hsl : ∀ x ∈ ls, SmT x.2) (hsmr : SmTs rs) (htb : pulledO (ls.map (·.1)) t = some tb) (hsb : SmT (bindT k tb rs)) (hvb : rightP 4 1099511627776 (bindT k tb rs) = true) : Calls Try.prog 47 #[.agg cs.toArray, .int .i64 k, .slice la M lc] w fun e w' => ∃ cs', e = .returned (.tuple #[.agg cs'.toArray, .bool ((some (bindT k tb rs))).isSome]) ∧ TmAt (List.range w.heap.size) w' (((some (bindT k tb rs))).getD zT) cs' ∧ Below w.heap.size w w' := by
  obtain ⟨q, hq⟩ : ∃ q, Hid (w.heap.size = q) := ⟨_, rfl⟩
  have HT := Lib.hid ht
  have C5 := Lib.hid ht.len
  have HL := Lib.hid hl
  clear hl
  clear ht
  obtain ⟨R, hR⟩ : ∃ R, Hid ((some (bindT k tb rs)) = R) := ⟨_, rfl⟩
  rw [hR.out]
  go_enter Try.func47, Try.ntmps47
  go_upto_region 0 with (fail)
  refine lbeg (opsOf Try.f47 0) ?_
  refine lbox 0 25 (.tmp 0) (cs) (q) (some 3) hq ?_
  intro w1 bw1 bew1 hsw1
  refine lin_box1 1 3 (.tmp 1) (.int .i64 k) (q + 1) (some 4) (by kernel_rfl) (by kernel_rfl) (by kernel_rfl) (by kernel_rfl) (by rfl) hsw1 ?_
  intro w2 bw2 bew2 hsw2
  refine lin_box1 2 66 (.tmp 2) (.slice la M lc) (q + 1 + 1) (some 5) (by kernel_rfl) (by kernel_rfl) (by kernel_rfl) (by kernel_rfl) (by rfl) hsw2 ?_
  intro w3 bw3 bew3 hsw3
  refine lall 3 25 z5T (q + 1 + 1 + 1) (some 6) hsw3 ?_
  intro w4 bw4 bew4 hsw4
  refine lnow 4 (.bool false) (some 7) ?_
  refine ldn 5 ?_
  generalize hact : Act.put _ (some 7) _ = act
  simp only [Act.put, sA, sC, sZ] at hact
  subst hact
  have B0 : Hid (Blk w4 (q) 25 cs) := (((bw1.below bew2 (by omega)).below bew3 (by omega)).below bew4 (by omega))
  have B1 : Hid (Blk w4 (q + 1) 3 [.int .i64 k]) := ((bw2.below bew3 (by omega)).below bew4 (by omega))
  have B2 : Hid (Blk w4 (q + 1 + 1) 66 [.slice la M lc]) := (bw3.below bew4 (by omega))
  have BR : Hid (Blk w4 (q + 1 + 1 + 1) 25 z5T) := bw4
  have BE : Hid (Below q w w4) := (((bew1.trans (bew2.mono (by omega))).trans (bew3.mono (by omega))).trans (bew4.mono (by omega)))
  have SZ : Hid (w4.heap.size = q + 4) := hsw4
  have LB : Hid (∀ k, w.heap.size ≤ k → True) := fun _ _ => trivial
  clear bw1 bew1 hsw1
  clear bw2 bew2 hsw2
  clear bw3 bew3 hsw3
  clear bw4 bew4 hsw4
  obtain ⟨wa, hwa⟩ : ∃ y, y = w4 := ⟨_, rfl⟩
  rw [← hwa] at BE SZ BR B0 B1 B2 ⊢
  clear hwa
  go_upto_region 1 with (fail)
  refine lbeg (opsOf Try.f47 1) ?_
  refine lin_now 0 (.func (.func 85) #[] #[.pointer (some ⟨q + 1, 0, none⟩), .pointer (some ⟨q + 1 + 1, 0, none⟩), .pointer (some ⟨q, 0, none⟩)]) (some 8) (by kernel_rfl) (by kernel_rfl) (by first | kernel_rfl | rfl) ?_
  have BW := built_walk 85 #[.pointer (some ⟨q + 1, 0, none⟩), .pointer (some ⟨q + 1 + 1, 0, none⟩), .pointer (some ⟨q, 0, none⟩)] wa (enters_of Try.func85 (by kernel_rfl) rfl) R (fun w1 h1 => by
    show Calls Try.prog 85 #[.pointer (some ⟨q + 1, 0, none⟩), .pointer (some ⟨q + 1 + 1, 0, none⟩), .pointer (some ⟨q, 0, none⟩)] w1 _
    rw [← hR.out]
    exact close1_walk ls M la lc k t cs rs tb (q + 1) q (q + 1 + 1) w1 ((HT.out.step (Step.of_below BE.out (by have := hq.out; omega))).below h1) hs hn hv hk hM hMb ((HL.out.step (Step.of_below BE.out (by have := hq.out; omega))).below h1) hrs hr hsl hsmr htb hsb hvb (B1.out.below h1 B1.out.lt) (B0.out.below h1 B0.out.lt) (B2.out.below h1 B2.out.lt))
  refine lcal 1 49 #[.func (.func 85) #[] #[.pointer (some ⟨q + 1, 0, none⟩), .pointer (some ⟨q + 1 + 1, 0, none⟩), .pointer (some ⟨q, 0, none⟩)]] (some 9) _ (BW) ?_
  rintro e wb ⟨cr, rfl, hcr, hbb⟩
  refine ⟨_, rfl, ?_⟩
  refine lnow 2 (.agg cr.toArray) (some 10) ?_
  refine lnow 3 (.bool R.isSome) (some 11) ?_
  have CR5 := Lib.hid hcr.len
  have BRb : Hid (Blk wb (q + 1 + 1 + 1) 25 z5T) := BR.out.below hbb BR.out.lt
  have BEb : Hid (Below q w wb) := BE.out.trans (hbb.mono (by have := SZ.out; omega))
  refine lin_put 4 25 (.tmp 6) (.tmp 10) (q + 1 + 1 + 1) _ (z5T) (cr) (by kernel_rfl) (by kernel_rfl) (by kernel_rfl) (by kernel_rfl) (by kernel_rfl) BRb.out (CR5.out.trans (rfl : z5T.length = 5).symm) (t5Size CR5.out) (by simpa using hcr.one) ?_
  intro wc bwc uwc
  refine lnow 5 (.bool R.isSome) (some 7) ?_
  refine ldn 6 ?_
  generalize hact : Act.put _ (some 7) _ = act
  simp only [Act.put, sA, sC, sZ] at hact
  subst hact
  go_wp2
  refine bodyPost_ret (v := .tuple #[.agg cr.toArray, .bool R.isSome]) ?_ rfl ⟨cr, rfl, (TmAt.step (Step.of_upd uwc (List.mem_range.2 (by have := SZ.out; omega))) _ _ hcr).range (by have := SZ.out; have := hq.out; omega), by rw [hq.out]; exact uwc.below BEb.out (by omega) (by have := BEb.out.size; have := hq.out; omega)⟩
  exact results_cell_tmp Try.results47 _ _ (q + 1 + 1 + 1) 25 cr.toArray (0, 0) _ _ rfl rfl bwc Try.underlying25 rfl (t5Size CR5.out)
end Go.Proofs.Ytndbpmkglddjjaa
