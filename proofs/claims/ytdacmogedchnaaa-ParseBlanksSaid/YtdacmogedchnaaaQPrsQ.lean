/- read; Source and Term. -/
import Derived.Test.YtdacmogedchnaaaQGenT
import Derived.Test.YtdacmogedchnaaaQPrsO
namespace Go.Proofs.Ytdacmogedchnaaa
open Go Go.RowKit
set_option maxRecDepth 100000
theorem SlG.low {α : Type} {P : List Nat → World → α → List Value → Prop} {sz : Nat} (hP : PredG P sz) {m n : Nat} {w : World} {v : Value} {xs : List α} (h : SlG P sz (List.range n) w v xs) (hm : m ≤ n) : SlG P sz (List.range m) w v xs := h.sub hP (fun k hk => .inl (List.mem_range.2 (by have := List.mem_range.1 hk; omega)))
section
variable {P : Program} {fn : Func} {w : World} {t1 t2 t0 : TypeId} {d1 d2 d0 : TypeDesc} {p a b : Tmp} {tmps : Array Value} {g0 g1 g2 : Nat} {v u1 u2 : Value}
theorem run_loadVar_cell (hd : P.underlying t1 = some d1) (hr : d1.isRow = false) (hc : w.cell? ⟨g1, 0, none⟩ = some u1) : (loadVar t1 ⟨g1, 0, none⟩).run P w = .ok u1 w := by
 have hagg : (isAgg t1).run P w = .ok false w := by
  unfold isAgg
  rw [Sem.run_bind, run_underlying hd w]
  cases d1 <;> simp_all
 simp [loadVar, Sem.run_bind, hagg, hc]
theorem res_tcc (h : fn.results = #[.tmp p, .cell a t1, .cell b t2]) (hp : tmps.getD p undef = v) (ha : tmps.getD a undef = .pointer (some ⟨g1, 0, none⟩)) (hb : tmps.getD b undef = .pointer (some ⟨g2, 0, none⟩)) (hd1 : P.underlying t1 = some d1) (hr1 : d1.isRow = false) (h1 : w.cell? ⟨g1, 0, none⟩ = some u1) (hd2 : P.underlying t2 = some d2) (hr2 : d2.isRow = false) (h2 : w.cell? ⟨g2, 0, none⟩ = some u2) : (results fn tmps).run P w = .ok (.tuple #[v, u1, u2]) w := by
 have hp' : tmps[p]?.getD undef = v := by simpa using hp
 have ha' : tmps[a]?.getD undef = .pointer (some ⟨g1, 0, none⟩) := by simpa using ha
 have hb' : tmps[b]?.getD undef = .pointer (some ⟨g2, 0, none⟩) := by simpa using hb
 simp [results, h, hp', ha', hb', asAddr, run_loadVar_cell hd1 hr1 h1, run_loadVar_cell hd2 hr2 h2]
theorem res_ccc {t : TypeId} {cs : Array Value} {fr : Nat × Nat} (h : fn.results = #[.cell p t0, .cell a t1, .cell b t2]) (hp : tmps.getD p undef = .pointer (some ⟨g0, 0, none⟩)) (hg : w.heap[g0]? = some (.cells cs t fr)) (hu : P.underlying t0 = some d0) (hd : (match d0 with | .struct _ | .array _ _ => true | _ => false) = true) (hi : (P.info? t0).map (·.size) = some cs.size) (ha : tmps.getD a undef = .pointer (some ⟨g1, 0, none⟩)) (hb : tmps.getD b undef = .pointer (some ⟨g2, 0, none⟩)) (hd1 : P.underlying t1 = some d1) (hr1 : d1.isRow = false) (h1 : w.cell? ⟨g1, 0, none⟩ = some u1) (hd2 : P.underlying t2 = some d2) (hr2 : d2.isRow = false) (h2 : w.cell? ⟨g2, 0, none⟩ = some u2) : (results fn tmps).run P w = .ok (.tuple #[.agg cs, u1, u2]) w := by
 have hp' : tmps[p]?.getD undef = .pointer (some ⟨g0, 0, none⟩) := by simpa using hp
 have ha' : tmps[a]?.getD undef = .pointer (some ⟨g1, 0, none⟩) := by simpa using ha
 have hb' : tmps[b]?.getD undef = .pointer (some ⟨g2, 0, none⟩) := by simpa using hb
 simp [results, h, hp', ha', hb', asAddr, run_loadVar_row w g0 t t0 cs fr d0 hg hu hd hi, run_loadVar_cell hd1 hr1 h1, run_loadVar_cell hd2 hr2 h2]
end
theorem eq_code {s : List UInt8} : ∃ ts p c, scanR s = (ts, p, c) := ⟨_, _, _, rfl⟩
theorem OwnX.updE {ty : TypeId} {q b : Nat} {w w' : World} {v : Value} {ts : List Tk} (h : OwnX ty q w v ts) (hu : Upd b w w') (hb : b < q) : OwnX ty q w' v ts := own_step (F := [b]) (F' := [b]) h (Step.of_upd hu (by simp)) (fun g hg hgF => by have h9 := (own_where h g hg).1; rw [List.mem_singleton.1 hgF] at h9; omega)
set_option maxHeartbeats 8000000 in
theorem read_walkD (s : List UInt8) (w : World) : Calls Try.prog 16 #[sT s, .func (.func 17) #[] #[]] w (RdPost sourceP (.slice none 0 0) (RDls (lookK s)) s w) := by
 obtain ⟨q, hq⟩ : ∃ q, Hid (w.heap.size = q) := ⟨_, rfl⟩
 go_enter_defers Try.func16, Try.ntmps16
 go_upto_region 0 with (fail)
 refine lbeg (opsOf Try.f16 0) ?_
 refine lnow 0 (.slice none 0 0) (some 4) ?_
 refine lin_alloc1 1 3 (.int .i64 0) (q) (some 5) (by kernel_rfl) (by kernel_rfl) (by kernel_rfl) infoIntZ (by rfl) hq ?_
 intro wa ba ea sa
 refine lin_alloc1 2 24 (.int .i64 0) (q + 1) (some 6) (by kernel_rfl) (by kernel_rfl) (by kernel_rfl) infoErr (by rfl) sa ?_
 intro wb bb eb sb
 refine ldn 3 ?_
 generalize hact : Act.put _ (some 6) _ = act
 simp only [Act.put, sA, sC, sZ] at hact
 subst hact
 have BE : Hid (Below q w wb) := ea.trans (eb.mono (by omega))
 have B5 := Lib.hid (ba.below eb (by omega))
 have B6 := Lib.hid bb
 have SQ : Hid (q < wb.heap.size) := by rw [Hid, sb.out]; omega
 have LQ : Hid (q + 1 < wb.heap.size) := by rw [Hid, sb.out]; omega
 clear ba ea sa bb eb sb
 obtain ⟨ts, pl, c, hsc⟩ := eq_code (s := s)
 have HSC := Lib.hid hsc
 clear hsc
 have C := xscan_walk s wb
 unfold ScanPost at C
 rw [HSC.out] at C
 dsimp only at C
 go_upto_region 1 with (fail)
 refine lbeg (opsOf Try.f16 1) ?_
 refine lnow 0 (sT s) (some 10) ?_
 refine lcal 1 6 #[sT s] (some 11) _ (C) ?_
 rintro e0 wc ⟨vs, rfl, hos, hbs⟩
 refine ⟨_, rfl, ?_⟩
 have OS := Lib.hid hos
 replace B5 := Lib.hid (B5.out.below hbs B5.out.lt)
 replace B6 := Lib.hid (B6.out.below hbs B6.out.lt)
 replace BE : Hid (Below q w wc) := BE.out.trans (hbs.mono (Nat.le_of_lt SQ.out))
 replace SQ : Hid (q < wc.heap.size) := Nat.lt_of_lt_of_le SQ.out hbs.size
 have WS : Hid (wb.heap.size ≤ wc.heap.size) := hbs.size
 clear hos hbs C
 obtain ⟨sa, sc, hvs⟩ := OS.out.slice
 subst hvs
 obtain ⟨M, hM⟩ : ∃ M, Hid (ts.length = M) := ⟨_, rfl⟩
 rw [hM.out] at OS ⊢
 refine lnow 2 (.tuple #[.slice sa M sc, .int .i64 (pl : Int), .int .i64 (c : Int)]) (some 9) ?_
 refine lnow 3 (.slice sa M sc) (some 12) ?_
 refine lnow 4 (.int .i64 (pl : Int)) (some 13) ?_
 refine lnow 5 (.int .i64 (c : Int)) (some 14) ?_
 refine lnow 6 (.slice sa M sc) (some 7) ?_
 refine lin_put1 7 3 (.tmp 5) (.tmp 13) (q) _ (.int .i64 0) (.int .i64 (pl : Int)) (by kernel_rfl) (by kernel_rfl) (by kernel_rfl) (by kernel_rfl) (by kernel_rfl) B5.out (by kernel_rfl) (by rfl) (by rfl) ?_
 intro wd bwd uwd
 replace B6 := Lib.hid (uwd.blk B6.out (by omega))
 replace B5 := Lib.hid bwd
 replace OS := Lib.hid (OwnX.updE OS.out uwd (by have := LQ.out; omega))
 replace WS := Lib.hid (Nat.le_trans WS.out uwd.size)
 replace BE : Hid (Below q w wd) := uwd.below BE.out (by omega) (Nat.le_of_lt SQ.out)
 replace SQ : Hid (q < wd.heap.size) := Nat.lt_of_lt_of_le SQ.out uwd.size
 clear bwd uwd
 refine lin_put1 8 24 (.tmp 6) (.tmp 14) (q + 1) _ (.int .i64 0) (.int .i64 (c : Int)) (by kernel_rfl) (by kernel_rfl) (by kernel_rfl) (by kernel_rfl) (by kernel_rfl) B6.out (by kernel_rfl) (by rfl) (by rfl) ?_
 intro we bwe uwe
 replace B5 := Lib.hid (uwe.blk B5.out (by omega))
 replace B6 := Lib.hid bwe
 replace OS := Lib.hid (OwnX.updE OS.out uwe (by have := LQ.out; omega))
 replace WS := Lib.hid (Nat.le_trans WS.out uwe.size)
 replace BE : Hid (Below q w we) := uwe.below BE.out (by omega) (Nat.le_of_lt SQ.out)
 replace SQ : Hid (q < we.heap.size) := Nat.lt_of_lt_of_le SQ.out uwe.size
 clear bwe uwe
 refine ldn 9 ?_
 generalize hact : Act.put _ none _ = act
 simp only [Act.put, sA, sC, sZ] at hact
 subst hact
 go_upto_region 2 with (fail)
 refine lbeg (opsOf Try.f16 2) ?_
 refine lcl 0 (.int .i64 (c : Int)) (some 15) 24 6 (q + 1) 0 (B6.out.cell rfl) Try.underlying24 ?_
 refine lnow 1 (.bool (!decide ((c : Int) = 0))) (some 16) ?_
 by_cases hc : c = 0
 rotate_left
 ·skip
  rw [decide_eq_false (by omega : ¬ (c : Int) = 0), show (!false) = true from rfl]
  refine ldn 2 ?_
  generalize hact : Act.put _ (some 16) _ = act
  simp only [Act.put, sA, sC, sZ] at hact
  subst hact
  go_upto_region 3 with (fail)
  refine region_beginP (opsOf Try.f16 3) (fun w' => w'.cell? ⟨q, 0, none⟩ = some (.int .i64 (pl : Int)) ∧ w'.cell? ⟨q + 1, 0, none⟩ = some (.int .i64 (c : Int))) (by kernel_rfl) (by kernel_rfl) 6 (by kernel_rfl) ?_
  intro Q' hQN hN hP
  have HD : Below we.heap.size we (World.drew we) := (Below.refl _ _).drew
  replace BE : Hid (Below q w (World.drew we)) := BE.out.trans (HD.mono (Nat.le_of_lt SQ.out))
  replace B5 := Lib.hid (B5.out.below HD B5.out.lt)
  replace B6 := Lib.hid (B6.out.below HD B6.out.lt)
  replace SQ : Hid (q < (World.drew we).heap.size) := SQ.out
  clear HD OS
  generalize World.drew we = wg at BE SQ B5 B6  ⊢
  have HS : Hid ((fun w' => w'.cell? ⟨q, 0, none⟩ = some (.int .i64 (pl : Int)) ∧ w'.cell? ⟨q + 1, 0, none⟩ = some (.int .i64 (c : Int))) wg) := ⟨B5.out.cell rfl, B6.out.cell rfl⟩
  refine reg_now 0 (.slice none 0 0) (some 17) hQN HS.out (by kernel_rfl) (by kernel_rfl) (fun w => by kernel_rfl) ?_
  refine reg_nowIf 1 (.int .i64 (pl : Int)) (some 18) hQN HS.out (by kernel_rfl) (by kernel_rfl) (fun w' hw => exec_load_cell 3 (.tmp 5) (by kernel_rfl) (q) 0 (by kernel_rfl) _ hw.1 _ Try.underlying3 rfl) ?_
  refine reg_nowIf 2 (.int .i64 (c : Int)) (some 19) hQN HS.out (by kernel_rfl) (by kernel_rfl) (fun w' hw => exec_load_cell 24 (.tmp 6) (by kernel_rfl) (q + 1) 0 (by kernel_rfl) _ hw.2 _ Try.underlying24 rfl) ?_
  refine reg_now 3 (.slice none 0 0) (some 4) hQN HS.out (by kernel_rfl) (by kernel_rfl) (fun w => by kernel_rfl) ?_
  refine reg_put1 4 3 (.tmp 5) (.tmp 18) (q) _ (.int .i64 (pl : Int)) (.int .i64 (pl : Int)) (by kernel_rfl) (by kernel_rfl) (by kernel_rfl) (by kernel_rfl) (by kernel_rfl) B5.out (by kernel_rfl) (by rfl) (by rfl) ?_
  intro x2 bx2 ux2
  have B69 := ux2.blk B6.out (by omega)
  replace B6 := Lib.hid B69
  replace B5 := Lib.hid bx2
  replace BE : Hid (Below q w x2) := ux2.below BE.out (by omega) (Nat.le_of_lt SQ.out)
  replace SQ : Hid (q < x2.heap.size) := Nat.lt_of_lt_of_le SQ.out ux2.size
  clear bx2 ux2 B69
  refine ⟨⟨B5.out.cell rfl, B6.out.cell rfl⟩, ?_⟩
  refine reg_put1 5 24 (.tmp 6) (.tmp 19) (q + 1) _ (.int .i64 (c : Int)) (.int .i64 (c : Int)) (by kernel_rfl) (by kernel_rfl) (by kernel_rfl) (by kernel_rfl) (by kernel_rfl) B6.out (by kernel_rfl) (by rfl) (by rfl) ?_
  intro x3 bx3 ux3
  have B59 := ux3.blk B5.out (by omega)
  replace B5 := Lib.hid B59
  replace B6 := Lib.hid bx3
  replace BE : Hid (Below q w x3) := ux3.below BE.out (by omega) (Nat.le_of_lt SQ.out)
  replace SQ : Hid (q < x3.heap.size) := Nat.lt_of_lt_of_le SQ.out ux3.size
  clear bx3 ux3 B59
  refine ⟨⟨B5.out.cell rfl, B6.out.cell rfl⟩, ?_⟩
  refine reg_done (by kernel_rfl) (hN _ _ ?_)
  generalize hact : Act.put _ none _ = act
  simp only [Act.put, sA, sC, sZ] at hact
  subst hact
  clear hQN hN hP HS
  have FIN : Hid (RdPost sourceP (.slice none 0 0) (RDls (lookK s)) s w (.returned (.tuple #[.slice none 0 0, .int .i64 (pl : Int), .int .i64 (c : Int)])) x3) := RdPost.scan (by rw [hq.out]; exact BE.out) HSC.out hc
  go_wp2
  exact ⟨_, res_tcc Try.results16 rfl rfl rfl Try.underlying3 rfl (B5.out.cell rfl) Try.underlying24 rfl (B6.out.cell rfl), FIN.out⟩
 rw [decide_eq_true (by omega : (c : Int) = 0), show (!true) = false from rfl]
 refine ldn 2 ?_
 generalize hact : Act.put _ (some 16) _ = act
 simp only [Act.put, sA, sC, sZ] at hact
 subst hact
 obtain rfl : c = 0 := hc
 obtain ⟨rfl, hsl, hsc⟩ := scanR_inv HSC.out
 have SL := Lib.hid hsl
 have TL : Hid (ts.length ≤ 65536) := by have := (scan_toks _ s 0 ts (Nat.le_refl _) hsc).2.2.1; rw [Hid]; omega
 clear hsl hsc
 have SE : Hid (wb.heap.size ≤ we.heap.size) := WS.out
 go_upto_region 5 with (fail)
 refine lbeg (opsOf Try.f16 5) ?_
 refine lnow 0 (.slice sa M sc) (some 21) ?_
 refine lnow 1 (sT s) (some 22) ?_
 refine lnow 2 (.int .i64 (s.length : Int)) (some 23) ?_
 refine lnow 3 (.agg (tkC ⟨0, [], s.length⟩).toArray) (some 24) ?_
 refine lin_tok 51 23 infoTok Try.underlying23 mkTok 4 (some 25) (some 26) ⟨0, [], s.length⟩ (.slice sa M sc) ts wb.heap.size OS.out (by have := TL.out; omega) SE.out (by kernel_rfl) (by kernel_rfl) (by kernel_rfl) (fun _ => by kernel_rfl) (by kernel_rfl) (fun _ => by kernel_rfl) ?_
 intro g9 v9 wf ow be
 have lq := LQ.out
 replace B5 := Lib.hid (B5.out.below be (by omega))
 replace B6 := Lib.hid (B6.out.below be (by omega))
 replace BE : Hid (Below q w wf) := BE.out.trans (be.mono (by omega))
 replace SQ : Hid (q < wf.heap.size) := Nat.lt_of_lt_of_le SQ.out be.size
 have LF : Hid (q + 1 < wf.heap.size) := Nat.lt_of_lt_of_le LQ.out (Nat.le_trans SE.out be.size)
 replace OS := Lib.hid ow
 clear ow be lq
 obtain ⟨a9, c9, hv9⟩ := OS.out.slice
 obtain ⟨n9, hn9⟩ : ∃ y, Hid ((ts ++ [(⟨0, [], s.length⟩ : Tk)]).length = y) := ⟨_, rfl⟩
 rw [hn9.out] at hv9
 subst hv9
 refine lnow 6 (.agg ([.slice a9 n9 c9] : List Value).toArray) (some 27) ?_
 obtain ⟨y, hy⟩ : ∃ y, Hid (wf.heap.size = y) := ⟨_, rfl⟩
 refine lall 7 77 [.slice none 0 0] y (some 8) hy ?_
 intro wg bg eg sg
 refine lput 8 77 (.tmp 8) (.tmp 27) y _ [.slice none 0 0] [.slice a9 n9 c9] bg rfl (by kernel_rfl) (by simp [Value.oneCell']) ?_
 intro wh bh uh
 refine ldn 9 ?_
 generalize hact : Act.put _ none _ = act
 simp only [Act.put, sA, sC, sZ] at hact
 subst hact
 have EY : Below y wf wh := uh.below eg (Nat.le_refl _) (by have := bg.lt; omega)
 have RD : Hid (PAt (lookK s) y wh (textsOf ts)) := PAt.start HSC.out OS.out hy.out bh EY
 have YL : Hid (q + 1 < y) := by rw [Hid, ← hy.out]; exact LF.out
 have yl := YL.out
 replace B5 := Lib.hid (B5.out.below EY (by omega))
 replace B6 := Lib.hid (B6.out.below EY (by omega))
 replace BE : Hid (Below q w wh) := BE.out.trans (EY.mono (by omega))
 replace SQ : Hid (y < wh.heap.size) := bh.lt
 clear bg eg sg bh uh EY OS yl LF
 have CALL := fS_walk (lookK s) y wh (textsOf ts) RD.out
 go_upto_region 6 with (fail)
 refine lbeg (opsOf Try.f16 6) ?_
 refine lnow 0 (.func (.func 17) #[] #[]) (some 28) ?_
 cases hf : sourceP (textsOf ts) with
 | err p c =>
  rw [hf] at CALL
  refine lin_callP 1 17 #[.pointer (some ⟨y, 0, none⟩)] (some 29) _ (by kernel_rfl) (by kernel_rfl) (by kernel_rfl) (CALL) ?_
  rintro e wk ⟨hb, hr⟩
  obtain rfl : e = fellP (lookK s p : Int) (c : Int) := hr
  have yl := YL.out
  replace B5 := Lib.hid (bel_keep hb B5.out (by omega) B5.out.lt)
  replace B6 := Lib.hid (bel_keep hb B6.out (by omega) B6.out.lt)
  replace BE : Hid (Below q w wk) := BE.out.trans (Bel.below (hb.mono (by have := SQ.out; omega) : Bel [y] q wh wk) (fun k hk => by rw [List.mem_singleton.1 hk]; omega))
  refine .inr ⟨_, rfl, ?_⟩
  refine leaves_cons (f := 34) (args := #[.pointer (some ⟨q, 0, none⟩), .pointer (some ⟨q + 1, 0, none⟩)]) (by simp) (by kernel_rfl) ?_
  refine (read_catchD (q) (q + 1) (by omega) _ _ (lookK s p : Int) (c : Int) [] wk B5.out B6.out).mono ?_
  rintro e u' wl ⟨rfl, rfl, h5, h6, hbl⟩
  have FIN : RdPost sourceP (.slice none 0 0) (RDls (lookK s)) s w (.returned (.tuple #[.slice none 0 0, .int .i64 (lookK s p : Int), .int .i64 (c : Int)])) wl := RdPost.no (by rw [hq.out]; exact BE.out.trans (Bel.below (hbl.mono (by have := SQ.out; have := hb.size; omega) : Bel [q, q + 1] q wk wl) (fun k hk => by simp at hk; omega))) HSC.out hf
  exact ⟨_, res_tcc Try.results16 rfl rfl rfl Try.underlying3 rfl (h5.cell rfl) Try.underlying24 rfl (h6.cell rfl), FIN⟩
 | ok x r =>
  rw [hf] at CALL
  refine lin_callP 1 17 #[.pointer (some ⟨y, 0, none⟩)] (some 29) _ (by kernel_rfl) (by kernel_rfl) (by kernel_rfl) (CALL) ?_
  rintro e wk ⟨hb, v, rfl, hv, -⟩
  have yl := YL.out
  replace B5 := Lib.hid (bel_keep hb B5.out (by omega) B5.out.lt)
  replace B6 := Lib.hid (bel_keep hb B6.out (by omega) B6.out.lt)
  replace BE : Hid (Below q w wk) := BE.out.trans (Bel.below (hb.mono (by have := SQ.out; omega) : Bel [y] q wh wk) (fun k hk => by rw [List.mem_singleton.1 hk]; omega))
  have TA : Hid (SlG (DlAt (lookK s)) 18 (List.range y) wk v x) := SlG.low (dlG _) hv (Nat.le_of_lt SQ.out)
  clear hv
  have SK : Hid (q ≤ wk.heap.size) := by have := hb.size; have := SQ.out; rw [Hid]; omega
  clear hb CALL RD
  refine .inl ⟨_, rfl, ?_⟩
  refine lnow 2 (v) (some 4) ?_
  refine lin_put1 3 3 (.tmp 5) (.const (.int .i64 0)) (q) _ (.int .i64 ((0 : Nat) : Int)) (.int .i64 0) (by kernel_rfl) (by kernel_rfl) (by kernel_rfl) (by kernel_rfl) (by kernel_rfl) B5.out (by kernel_rfl) (by rfl) (by rfl) ?_
  intro wn bwn uwn
  replace BE : Hid (Below q w wn) := uwn.below BE.out (by omega) SK.out
  replace SK : Hid (q ≤ wn.heap.size) := Nat.le_trans SK.out uwn.size
  replace B6 := Lib.hid (uwn.blk B6.out (by omega))
  replace TA := Lib.hid (TA.out.step (dlG _) (Step.of_upd uwn (List.mem_range.2 (by omega))))
  replace B5 := Lib.hid bwn
  clear bwn uwn
  refine lin_put1 4 24 (.tmp 6) (.const (.int .i64 0)) (q + 1) _ (.int .i64 ((0 : Nat) : Int)) (.int .i64 0) (by kernel_rfl) (by kernel_rfl) (by kernel_rfl) (by kernel_rfl) (by kernel_rfl) B6.out (by kernel_rfl) (by rfl) (by rfl) ?_
  intro wo bwo uwo
  replace BE : Hid (Below q w wo) := uwo.below BE.out (by omega) SK.out
  replace SK : Hid (q ≤ wo.heap.size) := Nat.le_trans SK.out uwo.size
  replace B5 := Lib.hid (uwo.blk B5.out (by omega))
  replace TA := Lib.hid (TA.out.step (dlG _) (Step.of_upd uwo (List.mem_range.2 (by omega))))
  replace B6 := Lib.hid bwo
  clear bwo uwo
  refine ldn 5 ?_
  generalize hact : Act.put _ none _ = act
  simp only [Act.put, sA, sC, sZ] at hact
  subst hact
  have FIN : Hid (RdPost sourceP (.slice none 0 0) (RDls (lookK s)) s w (.returned (.tuple #[v, .int .i64 0, .int .i64 0])) wo) := RdPost.yes (by rw [hq.out]; exact BE.out) HSC.out hf (SlG.low (dlG _) TA.out (by have := YL.out; have := hq.out; omega))
  clear BE TA yl
  go_wp2
  refine leaves_cons (f := 34) (args := #[.pointer (some ⟨q, 0, none⟩), .pointer (some ⟨q + 1, 0, none⟩)]) (by simp) (by kernel_rfl) ?_
  refine (read_idleD (q) (q + 1) wo).mono ?_
  rintro e u' w5 ⟨rfl, rfl, rfl⟩
  exact ⟨_, res_tcc Try.results16 rfl rfl rfl Try.underlying3 rfl (B5.out.cell rfl) Try.underlying24 rfl (B6.out.cell rfl), FIN.out⟩
set_option maxHeartbeats 8000000 in
theorem read_walkR (s : List UInt8) (w : World) : Calls Try.prog 19 #[sT s, .func (.func 20) #[] #[]] w (RdPost topP (.agg z6R.toArray) (RRw (lookK s)) s w) := by
 obtain ⟨q, hq⟩ : ∃ q, Hid (w.heap.size = q) := ⟨_, rfl⟩
 go_enter_defers Try.func19, Try.ntmps19
 go_upto_region 0 with (fail)
 refine lbeg (opsOf Try.f19 0) ?_
 refine lin_alloc 0 33 z6R q (some 4) (by kernel_rfl) (by kernel_rfl) (by kernel_rfl) zeroRw hq ?_
 intro wz bz ez sz
 refine lin_alloc1 1 3 (.int .i64 0) (q + 1) (some 5) (by kernel_rfl) (by kernel_rfl) (by kernel_rfl) infoIntZ (by rfl) sz ?_
 intro wa ba ea sa
 refine lin_alloc1 2 24 (.int .i64 0) (q + 1 + 1) (some 6) (by kernel_rfl) (by kernel_rfl) (by kernel_rfl) infoErr (by rfl) sa ?_
 intro wb bb eb sb
 refine ldn 3 ?_
 generalize hact : Act.put _ (some 6) _ = act
 simp only [Act.put, sA, sC, sZ] at hact
 subst hact
 have B4 := Lib.hid ((bz.below ea (by omega)).below eb (by omega))
 have BE : Hid (Below q w wb) := ez.trans ((ea.mono (by omega)).trans (eb.mono (by omega)))
 clear bz ez sz
 have B5 := Lib.hid (ba.below eb (by omega))
 have B6 := Lib.hid bb
 have SQ : Hid (q < wb.heap.size) := by rw [Hid, sb.out]; omega
 have LQ : Hid (q + 1 + 1 < wb.heap.size) := by rw [Hid, sb.out]; omega
 clear ba ea sa bb eb sb
 obtain ⟨ts, pl, c, hsc⟩ := eq_code (s := s)
 have HSC := Lib.hid hsc
 clear hsc
 have C := xscan_walk s wb
 unfold ScanPost at C
 rw [HSC.out] at C
 dsimp only at C
 go_upto_region 1 with (fail)
 refine lbeg (opsOf Try.f19 1) ?_
 refine lnow 0 (sT s) (some 10) ?_
 refine lcal 1 6 #[sT s] (some 11) _ (C) ?_
 rintro e0 wc ⟨vs, rfl, hos, hbs⟩
 refine ⟨_, rfl, ?_⟩
 have OS := Lib.hid hos
 replace B5 := Lib.hid (B5.out.below hbs B5.out.lt)
 replace B6 := Lib.hid (B6.out.below hbs B6.out.lt)
 replace B4 := Lib.hid (B4.out.below hbs B4.out.lt)
 replace BE : Hid (Below q w wc) := BE.out.trans (hbs.mono (Nat.le_of_lt SQ.out))
 replace SQ : Hid (q < wc.heap.size) := Nat.lt_of_lt_of_le SQ.out hbs.size
 have WS : Hid (wb.heap.size ≤ wc.heap.size) := hbs.size
 clear hos hbs C
 obtain ⟨sa, sc, hvs⟩ := OS.out.slice
 subst hvs
 obtain ⟨M, hM⟩ : ∃ M, Hid (ts.length = M) := ⟨_, rfl⟩
 rw [hM.out] at OS ⊢
 refine lnow 2 (.tuple #[.slice sa M sc, .int .i64 (pl : Int), .int .i64 (c : Int)]) (some 9) ?_
 refine lnow 3 (.slice sa M sc) (some 12) ?_
 refine lnow 4 (.int .i64 (pl : Int)) (some 13) ?_
 refine lnow 5 (.int .i64 (c : Int)) (some 14) ?_
 refine lnow 6 (.slice sa M sc) (some 7) ?_
 refine lin_put1 7 3 (.tmp 5) (.tmp 13) (q + 1) _ (.int .i64 0) (.int .i64 (pl : Int)) (by kernel_rfl) (by kernel_rfl) (by kernel_rfl) (by kernel_rfl) (by kernel_rfl) B5.out (by kernel_rfl) (by rfl) (by rfl) ?_
 intro wd bwd uwd
 replace B6 := Lib.hid (uwd.blk B6.out (by omega))
 replace B4 := Lib.hid (uwd.blk B4.out (by omega))
 replace B5 := Lib.hid bwd
 replace OS := Lib.hid (OwnX.updE OS.out uwd (by have := LQ.out; omega))
 replace WS := Lib.hid (Nat.le_trans WS.out uwd.size)
 replace BE : Hid (Below q w wd) := uwd.below BE.out (by omega) (Nat.le_of_lt SQ.out)
 replace SQ : Hid (q < wd.heap.size) := Nat.lt_of_lt_of_le SQ.out uwd.size
 clear bwd uwd
 refine lin_put1 8 24 (.tmp 6) (.tmp 14) (q + 1 + 1) _ (.int .i64 0) (.int .i64 (c : Int)) (by kernel_rfl) (by kernel_rfl) (by kernel_rfl) (by kernel_rfl) (by kernel_rfl) B6.out (by kernel_rfl) (by rfl) (by rfl) ?_
 intro we bwe uwe
 replace B5 := Lib.hid (uwe.blk B5.out (by omega))
 replace B4 := Lib.hid (uwe.blk B4.out (by omega))
 replace B6 := Lib.hid bwe
 replace OS := Lib.hid (OwnX.updE OS.out uwe (by have := LQ.out; omega))
 replace WS := Lib.hid (Nat.le_trans WS.out uwe.size)
 replace BE : Hid (Below q w we) := uwe.below BE.out (by omega) (Nat.le_of_lt SQ.out)
 replace SQ : Hid (q < we.heap.size) := Nat.lt_of_lt_of_le SQ.out uwe.size
 clear bwe uwe
 refine ldn 9 ?_
 generalize hact : Act.put _ none _ = act
 simp only [Act.put, sA, sC, sZ] at hact
 subst hact
 go_upto_region 2 with (fail)
 refine lbeg (opsOf Try.f19 2) ?_
 refine lcl 0 (.int .i64 (c : Int)) (some 15) 24 6 (q + 1 + 1) 0 (B6.out.cell rfl) Try.underlying24 ?_
 refine lnow 1 (.bool (!decide ((c : Int) = 0))) (some 16) ?_
 by_cases hc : c = 0
 rotate_left
 ·skip
  rw [decide_eq_false (by omega : ¬ (c : Int) = 0), show (!false) = true from rfl]
  refine ldn 2 ?_
  generalize hact : Act.put _ (some 16) _ = act
  simp only [Act.put, sA, sC, sZ] at hact
  subst hact
  go_upto_region 3 with (fail)
  refine region_beginP (opsOf Try.f19 3) (fun w' => w'.cell? ⟨q + 1, 0, none⟩ = some (.int .i64 (pl : Int)) ∧ w'.cell? ⟨q + 1 + 1, 0, none⟩ = some (.int .i64 (c : Int)) ∧ w'.rangeAt q 0 z6R) (by kernel_rfl) (by kernel_rfl) 6 (by kernel_rfl) ?_
  intro Q' hQN hN hP
  have HD : Below we.heap.size we (World.drew we) := (Below.refl _ _).drew
  replace BE : Hid (Below q w (World.drew we)) := BE.out.trans (HD.mono (Nat.le_of_lt SQ.out))
  replace B5 := Lib.hid (B5.out.below HD B5.out.lt)
  replace B6 := Lib.hid (B6.out.below HD B6.out.lt)
  replace B4 := Lib.hid (B4.out.below HD B4.out.lt)
  replace SQ : Hid (q < (World.drew we).heap.size) := SQ.out
  clear HD OS
  generalize World.drew we = wg at BE SQ B5 B6 B4 ⊢
  have HS : Hid ((fun w' => w'.cell? ⟨q + 1, 0, none⟩ = some (.int .i64 (pl : Int)) ∧ w'.cell? ⟨q + 1 + 1, 0, none⟩ = some (.int .i64 (c : Int)) ∧ w'.rangeAt q 0 z6R) wg) := ⟨B5.out.cell rfl, B6.out.cell rfl, B4.out.whole⟩
  refine reg_nowIf 0 (.agg z6R.toArray) (some 17) hQN HS.out (by kernel_rfl) (by kernel_rfl) (fun w' hw => exec_load_mid 33 (.tmp 4) (by kernel_rfl) q 0 (by kernel_rfl) z6R _ hw.2.2 Try.underlying33 rfl (rwSize rfl)) ?_
  refine reg_nowIf 1 (.int .i64 (pl : Int)) (some 18) hQN HS.out (by kernel_rfl) (by kernel_rfl) (fun w' hw => exec_load_cell 3 (.tmp 5) (by kernel_rfl) (q + 1) 0 (by kernel_rfl) _ hw.1 _ Try.underlying3 rfl) ?_
  refine reg_nowIf 2 (.int .i64 (c : Int)) (some 19) hQN HS.out (by kernel_rfl) (by kernel_rfl) (fun w' hw => exec_load_cell 24 (.tmp 6) (by kernel_rfl) (q + 1 + 1) 0 (by kernel_rfl) _ hw.2.1 _ Try.underlying24 rfl) ?_
  refine reg_putT 3 33 (.tmp 4) (.tmp 17) q _ z6R z6R (by kernel_rfl) (by kernel_rfl) (by kernel_rfl) (by kernel_rfl) (by kernel_rfl) B4.out rfl (rwSize rfl) (by simpa using (zRw_at id [] wg).one) ?_
  intro x1 bx1 ux1
  have B59 := ux1.blk B5.out (by omega)
  have B69 := ux1.blk B6.out (by omega)
  replace B5 := Lib.hid B59
  replace B6 := Lib.hid B69
  replace B4 := Lib.hid bx1
  replace BE : Hid (Below q w x1) := ux1.below BE.out (by omega) (Nat.le_of_lt SQ.out)
  replace SQ : Hid (q < x1.heap.size) := Nat.lt_of_lt_of_le SQ.out ux1.size
  clear bx1 ux1 B59 B69
  refine ⟨⟨B5.out.cell rfl, B6.out.cell rfl, B4.out.whole⟩, ?_⟩
  refine reg_put1 4 3 (.tmp 5) (.tmp 18) (q + 1) _ (.int .i64 (pl : Int)) (.int .i64 (pl : Int)) (by kernel_rfl) (by kernel_rfl) (by kernel_rfl) (by kernel_rfl) (by kernel_rfl) B5.out (by kernel_rfl) (by rfl) (by rfl) ?_
  intro x2 bx2 ux2
  have B69 := ux2.blk B6.out (by omega)
  have B49 := ux2.blk B4.out (by omega)
  replace B6 := Lib.hid B69
  replace B4 := Lib.hid B49
  replace B5 := Lib.hid bx2
  replace BE : Hid (Below q w x2) := ux2.below BE.out (by omega) (Nat.le_of_lt SQ.out)
  replace SQ : Hid (q < x2.heap.size) := Nat.lt_of_lt_of_le SQ.out ux2.size
  clear bx2 ux2 B69 B49
  refine ⟨⟨B5.out.cell rfl, B6.out.cell rfl, B4.out.whole⟩, ?_⟩
  refine reg_put1 5 24 (.tmp 6) (.tmp 19) (q + 1 + 1) _ (.int .i64 (c : Int)) (.int .i64 (c : Int)) (by kernel_rfl) (by kernel_rfl) (by kernel_rfl) (by kernel_rfl) (by kernel_rfl) B6.out (by kernel_rfl) (by rfl) (by rfl) ?_
  intro x3 bx3 ux3
  have B59 := ux3.blk B5.out (by omega)
  have B49 := ux3.blk B4.out (by omega)
  replace B5 := Lib.hid B59
  replace B4 := Lib.hid B49
  replace B6 := Lib.hid bx3
  replace BE : Hid (Below q w x3) := ux3.below BE.out (by omega) (Nat.le_of_lt SQ.out)
  replace SQ : Hid (q < x3.heap.size) := Nat.lt_of_lt_of_le SQ.out ux3.size
  clear bx3 ux3 B59 B49
  refine ⟨⟨B5.out.cell rfl, B6.out.cell rfl, B4.out.whole⟩, ?_⟩
  refine reg_done (by kernel_rfl) (hN _ _ ?_)
  generalize hact : Act.put _ none _ = act
  simp only [Act.put, sA, sC, sZ] at hact
  subst hact
  clear hQN hN hP HS
  have FIN : Hid (RdPost topP (.agg z6R.toArray) (RRw (lookK s)) s w (.returned (.tuple #[.agg z6R.toArray, .int .i64 (pl : Int), .int .i64 (c : Int)])) x3) := RdPost.scan (by rw [hq.out]; exact BE.out) HSC.out hc
  go_wp2
  exact ⟨_, res_ccc Try.results19 rfl (B4.out) Try.underlying33 rfl (by rw [List.size_toArray]; exact rwSize rfl) rfl rfl Try.underlying3 rfl (B5.out.cell rfl) Try.underlying24 rfl (B6.out.cell rfl), FIN.out⟩
 rw [decide_eq_true (by omega : (c : Int) = 0), show (!true) = false from rfl]
 refine ldn 2 ?_
 generalize hact : Act.put _ (some 16) _ = act
 simp only [Act.put, sA, sC, sZ] at hact
 subst hact
 obtain rfl : c = 0 := hc
 obtain ⟨rfl, hsl, hsc⟩ := scanR_inv HSC.out
 have SL := Lib.hid hsl
 have TL : Hid (ts.length ≤ 65536) := by have := (scan_toks _ s 0 ts (Nat.le_refl _) hsc).2.2.1; rw [Hid]; omega
 clear hsl hsc
 have SE : Hid (wb.heap.size ≤ we.heap.size) := WS.out
 go_upto_region 5 with (fail)
 refine lbeg (opsOf Try.f19 5) ?_
 refine lnow 0 (.slice sa M sc) (some 21) ?_
 refine lnow 1 (sT s) (some 22) ?_
 refine lnow 2 (.int .i64 (s.length : Int)) (some 23) ?_
 refine lnow 3 (.agg (tkC ⟨0, [], s.length⟩).toArray) (some 24) ?_
 refine lin_tok 51 23 infoTok Try.underlying23 mkTok 4 (some 25) (some 26) ⟨0, [], s.length⟩ (.slice sa M sc) ts wb.heap.size OS.out (by have := TL.out; omega) SE.out (by kernel_rfl) (by kernel_rfl) (by kernel_rfl) (fun _ => by kernel_rfl) (by kernel_rfl) (fun _ => by kernel_rfl) ?_
 intro g9 v9 wf ow be
 have lq := LQ.out
 replace B5 := Lib.hid (B5.out.below be (by omega))
 replace B6 := Lib.hid (B6.out.below be (by omega))
 replace B4 := Lib.hid (B4.out.below be (by omega))
 replace BE : Hid (Below q w wf) := BE.out.trans (be.mono (by omega))
 replace SQ : Hid (q < wf.heap.size) := Nat.lt_of_lt_of_le SQ.out be.size
 have LF : Hid (q + 1 + 1 < wf.heap.size) := Nat.lt_of_lt_of_le LQ.out (Nat.le_trans SE.out be.size)
 replace OS := Lib.hid ow
 clear ow be lq
 obtain ⟨a9, c9, hv9⟩ := OS.out.slice
 obtain ⟨n9, hn9⟩ : ∃ y, Hid ((ts ++ [(⟨0, [], s.length⟩ : Tk)]).length = y) := ⟨_, rfl⟩
 rw [hn9.out] at hv9
 subst hv9
 refine lnow 6 (.agg ([.slice a9 n9 c9] : List Value).toArray) (some 27) ?_
 obtain ⟨y, hy⟩ : ∃ y, Hid (wf.heap.size = y) := ⟨_, rfl⟩
 refine lall 7 77 [.slice none 0 0] y (some 8) hy ?_
 intro wg bg eg sg
 refine lput 8 77 (.tmp 8) (.tmp 27) y _ [.slice none 0 0] [.slice a9 n9 c9] bg rfl (by kernel_rfl) (by simp [Value.oneCell']) ?_
 intro wh bh uh
 refine ldn 9 ?_
 generalize hact : Act.put _ none _ = act
 simp only [Act.put, sA, sC, sZ] at hact
 subst hact
 have EY : Below y wf wh := uh.below eg (Nat.le_refl _) (by have := bg.lt; omega)
 have RD : Hid (PAt (lookK s) y wh (textsOf ts)) := PAt.start HSC.out OS.out hy.out bh EY
 have YL : Hid (q + 1 + 1 < y) := by rw [Hid, ← hy.out]; exact LF.out
 have yl := YL.out
 replace B5 := Lib.hid (B5.out.below EY (by omega))
 replace B6 := Lib.hid (B6.out.below EY (by omega))
 replace B4 := Lib.hid (B4.out.below EY (by omega))
 replace BE : Hid (Below q w wh) := BE.out.trans (EY.mono (by omega))
 replace SQ : Hid (y < wh.heap.size) := bh.lt
 clear bg eg sg bh uh EY OS yl LF
 have CALL := fT_walk (lookK s) y wh (textsOf ts) RD.out
 go_upto_region 6 with (fail)
 refine lbeg (opsOf Try.f19 6) ?_
 refine lnow 0 (.func (.func 20) #[] #[]) (some 28) ?_
 cases hf : topP (textsOf ts) with
 | err p c =>
  rw [hf] at CALL
  refine lin_callP 1 20 #[.pointer (some ⟨y, 0, none⟩)] (some 29) _ (by kernel_rfl) (by kernel_rfl) (by kernel_rfl) (CALL) ?_
  rintro e wk ⟨hb, hr⟩
  obtain rfl : e = fellP (lookK s p : Int) (c : Int) := hr
  have yl := YL.out
  replace B5 := Lib.hid (bel_keep hb B5.out (by omega) B5.out.lt)
  replace B6 := Lib.hid (bel_keep hb B6.out (by omega) B6.out.lt)
  replace B4 := Lib.hid (bel_keep hb B4.out (by omega) B4.out.lt)
  replace BE : Hid (Below q w wk) := BE.out.trans (Bel.below (hb.mono (by have := SQ.out; omega) : Bel [y] q wh wk) (fun k hk => by rw [List.mem_singleton.1 hk]; omega))
  refine .inr ⟨_, rfl, ?_⟩
  refine leaves_cons (f := 37) (args := #[.pointer (some ⟨q + 1, 0, none⟩), .pointer (some ⟨q + 1 + 1, 0, none⟩)]) (by simp) (by kernel_rfl) ?_
  refine (read_catchR (q + 1) (q + 1 + 1) (by omega) _ _ (lookK s p : Int) (c : Int) [] wk B5.out B6.out).mono ?_
  rintro e u' wl ⟨rfl, rfl, h5, h6, hbl⟩
  have B49 := hbl.blk B4.out B4.out.lt (by simp; omega)
  have FIN : RdPost topP (.agg z6R.toArray) (RRw (lookK s)) s w (.returned (.tuple #[.agg z6R.toArray, .int .i64 (lookK s p : Int), .int .i64 (c : Int)])) wl := RdPost.no (by rw [hq.out]; exact BE.out.trans (Bel.below (hbl.mono (by have := SQ.out; have := hb.size; omega) : Bel [q + 1, q + 1 + 1] q wk wl) (fun k hk => by simp at hk; omega))) HSC.out hf
  exact ⟨_, res_ccc Try.results19 rfl (B49) Try.underlying33 rfl (by rw [List.size_toArray]; exact rwSize rfl) rfl rfl Try.underlying3 rfl (h5.cell rfl) Try.underlying24 rfl (h6.cell rfl), FIN⟩
 | ok x r =>
  rw [hf] at CALL
  refine lin_callP 1 20 #[.pointer (some ⟨y, 0, none⟩)] (some 29) _ (by kernel_rfl) (by kernel_rfl) (by kernel_rfl) (CALL) ?_
  rintro e wk ⟨hb, v, rfl, hv, -⟩
  have yl := YL.out
  replace B5 := Lib.hid (bel_keep hb B5.out (by omega) B5.out.lt)
  replace B6 := Lib.hid (bel_keep hb B6.out (by omega) B6.out.lt)
  replace B4 := Lib.hid (bel_keep hb B4.out (by omega) B4.out.lt)
  replace BE : Hid (Below q w wk) := BE.out.trans (Bel.below (hb.mono (by have := SQ.out; omega) : Bel [y] q wh wk) (fun k hk => by rw [List.mem_singleton.1 hk]; omega))
  obtain ⟨ca, rfl, hct⟩ := hv
  have TA : Hid (RwAt (lookK s) (List.range y) wk x ca) := hct.range (Nat.le_of_lt SQ.out)
  clear hct
  have SK : Hid (q ≤ wk.heap.size) := by have := hb.size; have := SQ.out; rw [Hid]; omega
  clear hb CALL RD
  refine .inl ⟨_, rfl, ?_⟩
  refine lput 2 33 (.tmp 4) (.tmp 29) q _ z6R ca B4.out (TA.out.len.trans z6_len.symm) (rwSize TA.out.len) (by simpa using TA.out.one) ?_
  intro wm bwm uwm
  replace BE : Hid (Below q w wm) := uwm.below BE.out (by omega) SK.out
  replace SK : Hid (q ≤ wm.heap.size) := Nat.le_trans SK.out uwm.size
  replace B5 := Lib.hid (uwm.blk B5.out (by omega))
  replace B6 := Lib.hid (uwm.blk B6.out (by omega))
  replace TA := Lib.hid (TA.out.updS uwm (by omega))
  replace B4 := Lib.hid bwm
  clear bwm uwm
  refine lin_put1 3 3 (.tmp 5) (.const (.int .i64 0)) (q + 1) _ (.int .i64 ((0 : Nat) : Int)) (.int .i64 0) (by kernel_rfl) (by kernel_rfl) (by kernel_rfl) (by kernel_rfl) (by kernel_rfl) B5.out (by kernel_rfl) (by rfl) (by rfl) ?_
  intro wn bwn uwn
  replace BE : Hid (Below q w wn) := uwn.below BE.out (by omega) SK.out
  replace SK : Hid (q ≤ wn.heap.size) := Nat.le_trans SK.out uwn.size
  replace B6 := Lib.hid (uwn.blk B6.out (by omega))
  replace B4 := Lib.hid (uwn.blk B4.out (by omega))
  replace TA := Lib.hid (TA.out.updS uwn (by omega))
  replace B5 := Lib.hid bwn
  clear bwn uwn
  refine lin_put1 4 24 (.tmp 6) (.const (.int .i64 0)) (q + 1 + 1) _ (.int .i64 ((0 : Nat) : Int)) (.int .i64 0) (by kernel_rfl) (by kernel_rfl) (by kernel_rfl) (by kernel_rfl) (by kernel_rfl) B6.out (by kernel_rfl) (by rfl) (by rfl) ?_
  intro wo bwo uwo
  replace BE : Hid (Below q w wo) := uwo.below BE.out (by omega) SK.out
  replace SK : Hid (q ≤ wo.heap.size) := Nat.le_trans SK.out uwo.size
  replace B5 := Lib.hid (uwo.blk B5.out (by omega))
  replace B4 := Lib.hid (uwo.blk B4.out (by omega))
  replace TA := Lib.hid (TA.out.updS uwo (by omega))
  replace B6 := Lib.hid bwo
  clear bwo uwo
  refine ldn 5 ?_
  generalize hact : Act.put _ none _ = act
  simp only [Act.put, sA, sC, sZ] at hact
  subst hact
  have C6 := Lib.hid TA.out.len
  have FIN : Hid (RdPost topP (.agg z6R.toArray) (RRw (lookK s)) s w (.returned (.tuple #[.agg ca.toArray, .int .i64 0, .int .i64 0])) wo) := RdPost.yes (by rw [hq.out]; exact BE.out) HSC.out hf (⟨ca, rfl, TA.out.range (by have := YL.out; have := hq.out; omega)⟩)
  clear BE TA yl
  go_wp2
  refine leaves_cons (f := 37) (args := #[.pointer (some ⟨q + 1, 0, none⟩), .pointer (some ⟨q + 1 + 1, 0, none⟩)]) (by simp) (by kernel_rfl) ?_
  refine (read_idleR (q + 1) (q + 1 + 1) wo).mono ?_
  rintro e u' w5 ⟨rfl, rfl, rfl⟩
  exact ⟨_, res_ccc Try.results19 rfl (B4.out) Try.underlying33 rfl (by rw [List.size_toArray]; exact rwSize C6.out) rfl rfl Try.underlying3 rfl (B5.out.cell rfl) Try.underlying24 rfl (B6.out.cell rfl), FIN.out⟩
theorem res_ctt {P : Program} {fn : Func} {p q r : Tmp} {ty : TypeId} (h : fn.results = #[.cell p ty, .tmp q, .tmp r]) (tmps : Array Value) (w : World) (g : Nat) (t : TypeId) (cs : Array Value) (fr : Nat × Nat) (d : TypeDesc) (v u : Value)
    (hp : tmps.getD p undef = .pointer (some ⟨g, 0, none⟩)) (hq : tmps.getD q undef = v) (hr : tmps.getD r undef = u) (hg : w.heap[g]? = some (.cells cs t fr))
    (hu : P.underlying ty = some d) (hd : (match d with | .struct _ | .array _ _ => true | _ => false) = true) (hi : (P.info? ty).map (·.size) = some cs.size) :
    (results fn tmps).run P w = .ok (.tuple #[.agg cs, v, u]) w := by
  have hp' : tmps[p]?.getD undef = .pointer (some ⟨g, 0, none⟩) := by simpa using hp
  have hq' : tmps[q]?.getD undef = v := by simpa using hq
  have hr' : tmps[r]?.getD undef = u := by simpa using hr
  simp [results, h, hp', hq', hr', asAddr, run_loadVar_row w g t ty cs fr d hg hu hd hi]
set_option maxHeartbeats 4000000 in
theorem Source_walk (s : List UInt8) (w : World) : Calls Try.prog 7 #[sT s] w (RdPost sourceP (.slice none 0 0) (RDls (lookK s)) s w) := by
 have CALL := read_walkD s w
 unfold RdPost at CALL
 go_enter Try.func7, Try.ntmps7
 go_upto_region 0 with (fail)
 refine lbeg (opsOf Try.f7 0) ?_
 refine lnow 0 (.slice none 0 0) (some 2) ?_
 refine lnow 1 (.int .i64 0) (some 3) ?_
 refine lnow 2 (.int .i64 0) (some 4) ?_
 refine ldn 3 ?_
 generalize hact : Act.put _ (some 4) _ = act
 simp only [Act.put, sA, sC, sZ] at hact
 subst hact
 go_upto_region 1 with (fail)
 refine lbeg (opsOf Try.f7 1) ?_
 refine lnow 0 (sT s) (some 5) ?_
 cases hra : readA sourceP s with
 | error pc =>
  obtain ⟨p, c⟩ := pc
  rw [hra] at CALL
  refine lcal 1 16 #[sT s, .func (.func 17) #[] #[]] (some 6) _ (CALL) ?_
  rintro e w1 ⟨hb, rfl⟩
  refine ⟨_, rfl, ?_⟩
  have POST : Hid (RdPost sourceP (.slice none 0 0) (RDls (lookK s)) s w (.returned (.tuple #[.slice none 0 0, .int .i64 (p : Int), .int .i64 (c : Int)])) w1) := ⟨hb, by rw [hra]⟩
  clear hb
  refine lnow 2 (.slice none 0 0) (some 7) ?_
  refine lnow 3 (.int .i64 (p : Int)) (some 8) ?_
  refine lnow 4 (.int .i64 (c : Int)) (some 9) ?_
  refine lnow 5 (.slice none 0 0) (some 2) ?_
  refine lnow 6 (.int .i64 (p : Int)) (some 3) ?_
  refine lnow 7 (.int .i64 (c : Int)) (some 4) ?_
  refine ldn 8 ?_
  generalize hact : Act.put _ (some 4) _ = act
  simp only [Act.put, sA, sC, sZ] at hact
  subst hact
  go_wp2
  refine bodyPost_ret (v := .tuple #[.slice none 0 0, .int .i64 (p : Int), .int .i64 (c : Int)]) ?_ rfl POST.out
  kernel_rfl
 | ok x =>
  rw [hra] at CALL
  refine lcal 1 16 #[sT s, .func (.func 17) #[] #[]] (some 6) _ (CALL) ?_
  rintro e w1 ⟨hb, v, rfl, hv⟩
  refine ⟨_, rfl, ?_⟩
  have POST : Hid (RdPost sourceP (.slice none 0 0) (RDls (lookK s)) s w (.returned (.tuple #[v, .int .i64 0, .int .i64 0])) w1) := ⟨hb, by rw [hra]; exact ⟨v, rfl, hv⟩⟩
  clear hb hv
  refine lnow 2 (v) (some 7) ?_
  refine lnow 3 (.int .i64 0) (some 8) ?_
  refine lnow 4 (.int .i64 0) (some 9) ?_
  refine lnow 5 (v) (some 2) ?_
  refine lnow 6 (.int .i64 0) (some 3) ?_
  refine lnow 7 (.int .i64 0) (some 4) ?_
  refine ldn 8 ?_
  generalize hact : Act.put _ (some 4) _ = act
  simp only [Act.put, sA, sC, sZ] at hact
  subst hact
  go_wp2
  refine bodyPost_ret (v := .tuple #[v, .int .i64 0, .int .i64 0]) ?_ rfl POST.out
  kernel_rfl
set_option maxHeartbeats 4000000 in
theorem Term_walk (s : List UInt8) (w : World) : Calls Try.prog 8 #[sT s] w (RdPost topP (.agg z6R.toArray) (RRw (lookK s)) s w) := by
 obtain ⟨B, hB⟩ : ∃ B, Hid (w.heap.size = B) := ⟨_, rfl⟩
 go_enter Try.func8, Try.ntmps8
 go_upto_region 0 with (fail)
 refine lbeg (opsOf Try.f8 0) ?_
 refine lin_alloc 0 33 z6R B (some 2) (by kernel_rfl) (by kernel_rfl) (by kernel_rfl) zeroRw hB ?_
 intro w0 b0 e0 s0
 refine lnow 1 (.int .i64 0) (some 3) ?_
 refine lnow 2 (.int .i64 0) (some 4) ?_
 refine ldn 3 ?_
 generalize hact : Act.put _ (some 4) _ = act
 simp only [Act.put, sA, sC, sZ] at hact
 subst hact
 have BR := Lib.hid b0
 have BE : Hid (Below B w w0) := e0
 clear b0 e0 s0
 have CALL := read_walkR s w0
 unfold RdPost at CALL
 go_upto_region 1 with (fail)
 refine lbeg (opsOf Try.f8 1) ?_
 refine lnow 0 (sT s) (some 5) ?_
 cases hra : readA topP s with
 | error pc =>
  obtain ⟨p, c⟩ := pc
  rw [hra] at CALL
  refine lcal 1 19 #[sT s, .func (.func 20) #[] #[]] (some 6) _ (CALL) ?_
  rintro e w1 ⟨hb, rfl⟩
  refine ⟨_, rfl, ?_⟩
  replace BE : Hid (Below B w w1) := BE.out.trans (hb.mono (Nat.le_of_lt BR.out.lt))
  replace BR := Lib.hid (BR.out.below hb BR.out.lt)
  have ONE := Lib.hid ((zRw_at id [] w).one)
  clear hb
  refine lnow 2 (.agg (z6R).toArray) (some 7) ?_
  refine lnow 3 (.int .i64 (p : Int)) (some 8) ?_
  refine lnow 4 (.int .i64 (c : Int)) (some 9) ?_
  refine lput 5 33 (.tmp 2) (.tmp 7) B _ z6R (z6R) BR.out (z6_len.trans z6_len.symm) (rwSize z6_len) (by simpa using ONE.out) ?_
  intro w9 b9 u9
  refine lnow 6 (.int .i64 (p : Int)) (some 3) ?_
  refine lnow 7 (.int .i64 (c : Int)) (some 4) ?_
  refine ldn 8 ?_
  generalize hact : Act.put _ (some 4) _ = act
  simp only [Act.put, sA, sC, sZ] at hact
  subst hact
  replace BE : Hid (Below B w w9) := u9.below BE.out (Nat.le_refl _) (Nat.le_of_lt BR.out.lt)
  have HB := Lib.hid b9
  have POST : Hid (RdPost topP (.agg z6R.toArray) (RRw (lookK s)) s w (.returned (.tuple #[.agg z6R.toArray, .int .i64 (p : Int), .int .i64 (c : Int)])) w9) := ⟨by rw [hB.out]; exact BE.out, by rw [hra]⟩
  clear u9 b9
  go_wp2
  refine bodyPost_ret (v := .tuple #[.agg (z6R).toArray, .int .i64 (p : Int), .int .i64 (c : Int)]) ?_ rfl POST.out
  exact res_ctt Try.results8 _ _ B 33 (z6R).toArray (0, 0) _ _ _ rfl rfl rfl HB.out Try.underlying33 rfl (by rw [List.size_toArray]; exact rwSize z6_len)
 | ok x =>
  rw [hra] at CALL
  refine lcal 1 19 #[sT s, .func (.func 20) #[] #[]] (some 6) _ (CALL) ?_
  rintro e w1 ⟨hb, v, rfl, ca, rfl, hct⟩
  refine ⟨_, rfl, ?_⟩
  replace BE : Hid (Below B w w1) := BE.out.trans (hb.mono (Nat.le_of_lt BR.out.lt))
  have TA : Hid (RwAt (lookK s) (List.range (B + 1)) w1 x ca) := hct.range (BR.out.lt)
  replace BR := Lib.hid (BR.out.below hb BR.out.lt)
  have ONE := Lib.hid TA.out.one
  have T6 := Lib.hid TA.out.len
  clear hb hct
  refine lnow 2 (.agg (ca).toArray) (some 7) ?_
  refine lnow 3 (.int .i64 0) (some 8) ?_
  refine lnow 4 (.int .i64 0) (some 9) ?_
  refine lput 5 33 (.tmp 2) (.tmp 7) B _ z6R (ca) BR.out (T6.out.trans z6_len.symm) (rwSize T6.out) (by simpa using ONE.out) ?_
  intro w9 b9 u9
  refine lnow 6 (.int .i64 0) (some 3) ?_
  refine lnow 7 (.int .i64 0) (some 4) ?_
  refine ldn 8 ?_
  generalize hact : Act.put _ (some 4) _ = act
  simp only [Act.put, sA, sC, sZ] at hact
  subst hact
  replace BE : Hid (Below B w w9) := u9.below BE.out (Nat.le_refl _) (Nat.le_of_lt BR.out.lt)
  have HB := Lib.hid b9
  have POST : Hid (RdPost topP (.agg z6R.toArray) (RRw (lookK s)) s w (.returned (.tuple #[.agg ca.toArray, .int .i64 0, .int .i64 0])) w9) := ⟨by rw [hB.out]; exact BE.out, by rw [hra]; exact ⟨_, rfl, ca, rfl, by rw [hB.out]; exact TA.out.fin u9⟩⟩
  clear u9 b9
  go_wp2
  refine bodyPost_ret (v := .tuple #[.agg (ca).toArray, .int .i64 0, .int .i64 0]) ?_ rfl POST.out
  exact res_ctt Try.results8 _ _ B 33 (ca).toArray (0, 0) _ _ _ rfl rfl rfl HB.out Try.underlying33 rfl (by rw [List.size_toArray]; exact rwSize T6.out)
end Go.Proofs.Ytdacmogedchnaaa
