/- Terms, by the given answers: SameTerm. -/
import Derived.Test.YteohjbggicchgaaKGenT
import Derived.Test.YteohjbggicchgaaKLevB
namespace Go.Proofs.Yteohjbggicchgaa
open Go Go.RowKit
set_option maxRecDepth 100000
noncomputable def eqT (x y : Tm) : Bool := @decide (x = y) (Classical.propDecidable _)
theorem eqT_yes {x y : Tm} (h : x = y) : eqT x y = true := @decide_eq_true _ (Classical.propDecidable _) h
theorem eqT_no {x y : Tm} (h : x ≠ y) : eqT x y = false := @decide_eq_false _ (Classical.propDecidable _) h
theorem eqT_of {x y : Tm} (h : eqT x y = true) : x = y := @of_decide_eq_true _ (Classical.propDecidable _) h
theorem eqT_not {x y : Tm} (h : eqT x y = false) : x ≠ y := @of_decide_eq_false _ (Classical.propDecidable _) h
theorem ba_ne {a b : ByteArray} (h : ¬ a = b) : ¬ a.toList = b.toList := fun e => h (by
 obtain ⟨⟨x⟩⟩ := a
 obtain ⟨⟨y⟩⟩ := b
 rw [ByteArray.toList_mk, ByteArray.toList_mk] at e
 simpa using e)
theorem exec_neqlv {a : Act} {w : World} {op : Oper} (x y : Operand) (yt : TypeId) (ho : op.op = .binOp .neq 80 x y yt) {l m : Lv} (hl : l.p.length = 4) (hm : m.p.length = 4) (ex : a.eval x = .agg (ints .i64 l.zs).toArray) (ey : a.eval y = .agg (ints .i64 m.zs).toArray) : (execOp a.eval op).run Try.prog w = .ok (.value (.bool (!decide (l = m)))) w := by
 unfold execOp
 have hg : Try.prog.eqGuardType Try.prog.depth 80 = false := by kernel_rfl
 simp only [ho, ex, ey, Sem.run_bind, run_neq_struct, run_eqGuard_agg w _ 80 x y _ _ hg, run_eq_lv hl hm, Result.andThen_ok]
 rfl
theorem LvsOff.at {F : List Nat} {w : World} {a : Option Addr} {n c i : Nat} {ls : List Lv} {x : Lv} (h : LvsOff F w (.slice a n c) ls) (hi : ls[i]? = some x) : x.p.length = 4 ∧ ∃ pb po, a = some ⟨pb, po, none⟩ ∧ pb < w.heap.size := by
 obtain ⟨a2, c2, e, -, -, h4, hp⟩ := h
 obtain ⟨rfl, -, rfl⟩ := Value.slice.inj e
 have hlt := (List.getElem?_eq_some_iff.1 hi).1
 obtain ⟨pb, po, ea, -, hb, -⟩ := hp (by omega)
 exact ⟨h4 x (List.mem_of_getElem? hi), pb, po, ea, hb⟩
theorem LvsOff.rng {F : List Nat} {w : World} {pb po n c i : Nat} {ls : List Lv} {x : Lv} (h : LvsOff F w (.slice (some ⟨pb, po, none⟩) n c) ls) (hi : ls[i]? = some x) : w.rangeAt pb (po + 5 * i) (ints .i64 x.zs) := by
 obtain ⟨a2, c2, e, -, -, h4, hp⟩ := h
 obtain ⟨rfl, -, rfl⟩ := Value.slice.inj e
 have hlt := (List.getElem?_eq_some_iff.1 hi).1
 obtain ⟨pb', po', ea, -, -, hr⟩ := hp (by omega)
 obtain ⟨rfl, rfl, -⟩ := Addr.mk.inj (Option.some.inj ea)
 exact hr i x hi
/-- Both terms' boxes, and what hangs on them. -/
structure SmS (F G : List Nat) (q : Nat) (w0 : World) (CS CS' : List Value) (lv av lv' av' : Value) (l l' : List Lv) (a a' : List Tm) (w : World) : Prop where
 x : Blk w q 25 CS
 y : Blk w (q + 1) 25 CS'
 lx : LvsOff F w lv l
 ly : LvsOff G w lv' l'
 ax : TmsAt F w a av
 ay : TmsAt G w a' av'
 b : Below q w0 w
 s : q ≤ w.heap.size
theorem SmS.next {F G : List Nat} {q : Nat} {w0 w w' : World} {CS CS' : List Value} {lv av lv' av' : Value} {l l' : List Lv} {a a' : List Tm} (h : SmS F G q w0 CS CS' lv av lv' av' l l' a a' w) (hb : Below w.heap.size w w') : SmS F G q w0 CS CS' lv av lv' av' l l' a a' w' :=
 ⟨h.x.below hb h.x.lt, h.y.below hb h.y.lt, h.lx.step (Step.of_below hb (Nat.le_refl _)), h.ly.step (Step.of_below hb (Nat.le_refl _)), h.ax.below hb, h.ay.below hb, h.b.trans (hb.mono h.s), Nat.le_trans h.s hb.size⟩
theorem rangeBelow {w w' : World} {pb o : Nat} {cs : List Value} (hb : Below w.heap.size w w') (hp : pb < w.heap.size) (h : w.rangeAt pb o cs) : w'.rangeAt pb o cs := Step.range (F := []) (F' := []) (Step.of_below hb (Nat.le_refl _)) hp (by simp) h
theorem tm_take_next {α : Type} {l l' : List α} {i : Nat} {x y : α} (h : l.take i = l'.take i) (hx : l[i]? = some x) (hy : l'[i]? = some y) (e : x = y) : l.take (i + 1) = l'.take (i + 1) := by
 rw [List.take_add_one, List.take_add_one, h, hx, hy, e]
set_option maxHeartbeats 8000000 in
theorem sameterm_walk : ∀ (x y : Tm) (cx cy : List Value) (w : World) (F G : List Nat), TmAt F w x cx → TmAt G w y cy → SmT x → Calls Try.prog 26 #[.agg cx.toArray, .agg cy.toArray] w fun e w' => e = .returned (.bool (eqT x y)) ∧ Below w.heap.size w w' := by
 refine Tm.byParts fun k n s l a ih y cx cy w F G hx hy hs => ?_
 obtain ⟨-, sl, sa, ss⟩ := hs.open
 clear hs
 have SS := Lib.hid ss
 clear ss
 obtain ⟨k', n', s', l', a'⟩ := y
 obtain ⟨lv, av, rfl, h1, h2⟩ := hx.open
 obtain ⟨lv', av', rfl, h1', h2'⟩ := hy.open
 dsimp only [Tm.kind, Tm.n, Tm.name, Tm.levels, Tm.args] at h1 h2 h1' h2' sl sa SS ⊢
 rw [show reachBytes = 140737488351232 from rfl] at sl sa
 obtain ⟨la, lc, rfl⟩ := h1.slice
 obtain ⟨aa, ac, rfl⟩ := h2.slice
 obtain ⟨la', lc', rfl⟩ := h1'.slice
 obtain ⟨aa', ac', rfl⟩ := h2'.slice
 obtain ⟨E, hE⟩ : ∃ E, Hid (eqT (.mk k n s l a) (.mk k' n' s' l' a') = E) := ⟨_, rfl⟩
 rw [hE.out]
 obtain ⟨bs, hbs⟩ : ∃ b, Hid ((⟨s.toArray⟩ : ByteArray) = b) := ⟨_, rfl⟩
 obtain ⟨bs', hbs'⟩ : ∃ b, Hid ((⟨s'.toArray⟩ : ByteArray) = b) := ⟨_, rfl⟩
 have HS : Hid (bs = bs' → s = s') := fun h => by
  rw [← hbs.out, ← hbs'.out] at h
  have := congrArg (fun b : ByteArray => b.data.toList) h
  simpa using this
 have NE : Hid (¬ (k = k' ∧ n = n' ∧ bs = bs' ∧ l = l' ∧ a = a') → E = false) := fun h => by
  rw [← hE.out]
  refine eqT_no fun e => h ?_
  injection e with e1 e2 e3 e4 e5
  exact ⟨e1, e2, by rw [← hbs.out, ← hbs'.out, e3], e4, e5⟩
 have YES : Hid (k = k' → n = n' → bs = bs' → l = l' → a = a' → E = true) := fun e1 e2 e3 e4 e5 => by
  rw [← hE.out, e1, e2, HS.out e3, e4, e5]
  exact eqT_yes rfl
 clear hE
 have eS : strT s = .string bs := by rw [strT, hbs.out]
 have eS' : strT s' = .string bs' := by rw [strT, hbs'.out]
 rw [eS, eS']
 clear eS eS' hbs hbs'
 obtain ⟨L, hL⟩ : ∃ L, Hid (l.length = L) := ⟨_, rfl⟩
 obtain ⟨N, hN⟩ : ∃ N, Hid (a.length = N) := ⟨_, rfl⟩
 obtain ⟨L', hL'⟩ : ∃ L, Hid (l'.length = L) := ⟨_, rfl⟩
 obtain ⟨N', hN'⟩ : ∃ N, Hid (a'.length = N) := ⟨_, rfl⟩
 rw [hL.out] at h1 sl ⊢
 rw [hN.out] at h2 sa ⊢
 rw [hL'.out] at h1' ⊢
 rw [hN'.out] at h2' ⊢
 have HL := Lib.hid h1
 have HA := Lib.hid h2
 have HL' := Lib.hid h1'
 have HA' := Lib.hid h2'
 obtain ⟨q, hq⟩ : ∃ q, Hid (w.heap.size = q) := ⟨_, rfl⟩
 rw [hq.out]
 obtain ⟨CS, hCS⟩ : ∃ x, Hid ([Value.int .i64 k, .int .i64 n, .string bs, .slice la L lc, .slice aa N ac] = x) := ⟨_, rfl⟩
 obtain ⟨CS', hCS'⟩ : ∃ x, Hid ([Value.int .i64 k', .int .i64 n', .string bs', .slice la' L' lc', .slice aa' N' ac'] = x) := ⟨_, rfl⟩
 rw [hCS.out, hCS'.out]
 clear hx hy h1 h2 h1' h2'
 go_enter Try.func26, Try.ntmps26
 go_upto_region 0 with (fail)
 refine lbeg (opsOf Try.f26 0) ?_
 refine lbox 0 25 (.tmp 0) CS q (some 2) hq ?_
 intro w1 b1 be1 hs1
 refine lbox 1 25 (.tmp 1) CS' (q + 1) (some 3) hs1 ?_
 intro w2 b2 be2 hs2
 refine lnow 2 (.bool false) (some 4) ?_
 refine ldn 3 ?_
 have B1 : Hid (Blk w2 q 25 CS) := b1.below be2 (Nat.lt_succ_self _)
 have B2 := Lib.hid b2
 have BE : Hid (Below q w w2) := be1.trans (be2.mono (Nat.le_succ _))
 clear b1 be1 b2 be2 hs1
 generalize hact : Act.put _ (some 4) _ = act
 simp only [Act.put, sA, sC, sZ] at hact
 subst hact
 have c0 : w2.cell? ⟨q, 0, none⟩ = some (.int .i64 k) := B1.out.cell (by rw [← hCS.out]; rfl)
 have c1 : w2.cell? ⟨q, 1, none⟩ = some (.int .i64 n) := B1.out.cell (by rw [← hCS.out]; rfl)
 have c2 : w2.cell? ⟨q, 2, none⟩ = some (.string bs) := B1.out.cell (by rw [← hCS.out]; rfl)
 have c3 : w2.cell? ⟨q, 3, none⟩ = some (.slice la L lc) := B1.out.cell (by rw [← hCS.out]; rfl)
 have c4 : w2.cell? ⟨q, 4, none⟩ = some (.slice aa N ac) := B1.out.cell (by rw [← hCS.out]; rfl)
 have d0 : w2.cell? ⟨q + 1, 0, none⟩ = some (.int .i64 k') := B2.out.cell (by rw [← hCS'.out]; rfl)
 have d1 : w2.cell? ⟨q + 1, 1, none⟩ = some (.int .i64 n') := B2.out.cell (by rw [← hCS'.out]; rfl)
 have d2 : w2.cell? ⟨q + 1, 2, none⟩ = some (.string bs') := B2.out.cell (by rw [← hCS'.out]; rfl)
 have d3 : w2.cell? ⟨q + 1, 3, none⟩ = some (.slice la' L' lc') := B2.out.cell (by rw [← hCS'.out]; rfl)
 have d4 : w2.cell? ⟨q + 1, 4, none⟩ = some (.slice aa' N' ac') := B2.out.cell (by rw [← hCS'.out]; rfl)
 by_cases hk : k = k'
 ·by_cases hn : n = n'
  ·by_cases hb : bs = bs'
   ·by_cases hl : L = L'
    ·by_cases ha : N = N'
     ·subst hk hn hb hl ha
      have HW : Hid (SmS F G q w CS CS' (.slice la L lc) (.slice aa N ac) (.slice la' L lc') (.slice aa' N ac') l l' a a' w2) :=
       ⟨B1.out, B2.out, HL.out.step (Step.of_below BE.out (Nat.le_of_eq hq.out)), HL'.out.step (Step.of_below BE.out (Nat.le_of_eq hq.out)), TmsAt.step (Step.of_below BE.out (Nat.le_of_eq hq.out)) a _ HA.out, TmsAt.step (Step.of_below BE.out (Nat.le_of_eq hq.out)) a' _ HA'.out, BE.out, by rw [← hq.out]; exact BE.out.size⟩
      go_upto_region 3 with (fail)
      clear B1 B2 BE HL HL' HA HA' c0 c1 c2 c3 c4 d0 d1 d2 d3 d4
      go_wp2
      go_loopw [5] (fun iv wr => ∃ i : Nat, i ≤ L ∧ iv = .int .i64 (i : Int) ∧ Hid (l.take i = l'.take i) ∧ Hid (SmS F G q w CS CS' (.slice la L lc) (.slice aa N ac) (.slice la' L lc') (.slice aa' N ac') l l' a a' wr)) (fun iv _ => L - (intOf iv).toNat)
      case atStart => exact ⟨0, Nat.zero_le _, rfl, rfl, HW⟩
      case round =>
       obtain ⟨i, hi, rfl, hT, HR⟩ := hrel
       have c3 : wr.cell? ⟨q, 3, none⟩ = some (.slice la L lc) := HR.out.x.cell (by rw [← hCS.out]; rfl)
       by_cases hlt : i < L
       ·have r1 : (i : Int) < (L : Int) := by omega
        obtain ⟨x, hxi⟩ : ∃ x, l[i]? = some x := ⟨_, List.getElem?_eq_getElem (by have := hL.out; omega)⟩
        obtain ⟨y, hyi⟩ : ∃ y, l'[i]? = some y := ⟨_, List.getElem?_eq_getElem (by have := hL'.out; omega)⟩
        obtain ⟨x4, pb, po, rfl, hpb⟩ := HR.out.lx.at hxi
        obtain ⟨y4, pb', po', rfl, hpb'⟩ := HR.out.ly.at hyi
        have X4 := Lib.hid x4
        have Y4 := Lib.hid y4
        have XI := Lib.hid hxi
        have YI := Lib.hid hyi
        clear x4 y4 hxi hyi
        go_upto_region 6 with (fail)
        refine region_begin (opsOf Try.f26 6) (SmS F G q w CS CS' (.slice (some ⟨pb, po, none⟩) L lc) (.slice aa N ac) (.slice (some ⟨pb', po', none⟩) L lc') (.slice aa' N ac') l l' a a') (by kernel_rfl) (by kernel_rfl) 11 (by kernel_rfl) ?_
        intro Q' hQN hN
        have X1 := HR.out.next (Below.refl _ _).drew
        generalize World.drew _ = wr1 at X1 ⊢
        refine reg_now 0 (.pointer (some ⟨q, 3, none⟩)) (some 51) hQN X1 (by kernel_rfl) (by kernel_rfl) (fun w => by kernel_rfl) ?_
        refine reg_nowIf 1 (.slice (some ⟨pb, po, none⟩) L lc) (some 52) hQN X1 (by kernel_rfl) (by kernel_rfl) (fun w' hw => exec_load_cell 22 (.tmp 51) (by kernel_rfl) q 3 (by kernel_rfl) _ (hw.x.cell (by rw [← hCS.out]; rfl)) _ Try.underlying22 rfl) ?_
        refine reg_now 2 (.int .i64 (i : Int)) (some 53) hQN X1 (by kernel_rfl) (by kernel_rfl) (fun w => by kernel_rfl) ?_
        refine reg_nowIf 3 (.pointer (some ⟨pb, po + 5 * i, none⟩)) (some 54) hQN X1 (by kernel_rfl) (by kernel_rfl) (fun w' hw => exec_indexAt 22 (.tmp 52) (.tmp 53) (by kernel_rfl) _ _ _ (by kernel_rfl) (by kernel_rfl) (run_at_lv pb po L lc i hlt _)) ?_
        refine reg_nowIf 4 (.agg (ints .i64 x.zs).toArray) (some 55) hQN X1 (by kernel_rfl) (by kernel_rfl) (fun w' hw => exec_load_mid 80 (.tmp 54) (by kernel_rfl) pb (po + 5 * i) (by kernel_rfl) (ints .i64 x.zs) _ (hw.lx.rng XI.out) Try.underlying80 rfl (lvSize X4.out)) ?_
        refine reg_now 5 (.pointer (some ⟨q + 1, 3, none⟩)) (some 56) hQN X1 (by kernel_rfl) (by kernel_rfl) (fun w => by kernel_rfl) ?_
        refine reg_nowIf 6 (.slice (some ⟨pb', po', none⟩) L lc') (some 57) hQN X1 (by kernel_rfl) (by kernel_rfl) (fun w' hw => exec_load_cell 22 (.tmp 56) (by kernel_rfl) (q + 1) 3 (by kernel_rfl) _ (hw.y.cell (by rw [← hCS'.out]; rfl)) _ Try.underlying22 rfl) ?_
        refine reg_now 7 (.int .i64 (i : Int)) (some 58) hQN X1 (by kernel_rfl) (by kernel_rfl) (fun w => by kernel_rfl) ?_
        refine reg_nowIf 8 (.pointer (some ⟨pb', po' + 5 * i, none⟩)) (some 59) hQN X1 (by kernel_rfl) (by kernel_rfl) (fun w' hw => exec_indexAt 22 (.tmp 57) (.tmp 58) (by kernel_rfl) _ _ _ (by kernel_rfl) (by kernel_rfl) (run_at_lv pb' po' L lc' i hlt _)) ?_
        refine reg_nowIf 9 (.agg (ints .i64 y.zs).toArray) (some 60) hQN X1 (by kernel_rfl) (by kernel_rfl) (fun w' hw => exec_load_mid 80 (.tmp 59) (by kernel_rfl) pb' (po' + 5 * i) (by kernel_rfl) (ints .i64 y.zs) _ (hw.ly.rng YI.out) Try.underlying80 rfl (lvSize Y4.out)) ?_
        refine reg_nowIf 10 (.bool (!decide (x = y))) (some 61) hQN X1 (by kernel_rfl) (by kernel_rfl) (fun w' hw => exec_neqlv (.tmp 55) (.tmp 60) 80 (by kernel_rfl) X4.out Y4.out (by kernel_rfl) (by kernel_rfl)) ?_
        obtain ⟨eb, heb⟩ : ∃ z, Hid (decide (x = y) = z) := ⟨_, rfl⟩
        rw [heb.out]
        refine reg_done (by kernel_rfl) (hN _ _ ?_)
        have S5 := Lib.hid X1
        clear hQN hN X1 c3
        generalize hact : Act.put _ (some 61) _ = act
        simp only [Act.put, sA, sC, sZ] at hact
        subst hact
        cases eb with
        | true =>
         have HT2 : Hid (l.take (i + 1) = l'.take (i + 1)) := tm_take_next hT.out XI.out YI.out (of_decide_eq_true heb.out)
         go_wp2
         go_roundw
         case rel => exact ⟨i + 1, by omega, by go_num, HT2, S5⟩
         case measure => simp [intOf]; omega
        | false =>
         have NO : Hid (E = false) := NE.out fun h => of_decide_eq_false heb.out (by
          have e := h.2.2.2.1
          have h1 := XI.out
          rw [e, YI.out] at h1
          exact (Option.some.inj h1).symm)
         go_wp2
         go_ret
         exact ⟨bool_eq NO.out.symm, S5.out.b⟩
       ·have r1 : ¬ (i : Int) < (L : Int) := by omega
        have EQL : Hid (l = l') := by
         have := hT.out
         rw [List.take_of_length_le (by have := hL.out; omega), List.take_of_length_le (by have := hL'.out; omega)] at this
         exact this
        clear hT
        go_wp2
        go_loopw [6] (fun iv wr => ∃ i : Nat, i ≤ N ∧ iv = .int .i64 (i : Int) ∧ Hid (a.take i = a'.take i) ∧ Hid (SmS F G q w CS CS' (.slice la L lc) (.slice aa N ac) (.slice la' L lc') (.slice aa' N ac') l l' a a' wr)) (fun iv _ => N - (intOf iv).toNat)
        case atStart => exact ⟨0, Nat.zero_le _, rfl, rfl, HR⟩
        case round =>
         clear HR c3 r1
         obtain ⟨j, hj, rfl, hT, HR⟩ := hrel
         have c4 : wr.cell? ⟨q, 4, none⟩ = some (.slice aa N ac) := HR.out.x.cell (by rw [← hCS.out]; rfl)
         by_cases hjt : j < N
         ·have r1 : (j : Int) < (N : Int) := by omega
          obtain ⟨x, pb, po, cx, hxi, hxm, rfl, -, hpb, -, hxr, hxt⟩ := HR.out.ax.get hN.out hjt
          obtain ⟨y, pb', po', cy, hyi, hym, rfl, -, hpb', -, hyr, hyt⟩ := HR.out.ay.get hN'.out hjt
          have X5 := Lib.hid hxt.len
          have Y5 := Lib.hid hyt.len
          have XI := Lib.hid hxi
          have YI := Lib.hid hyi
          go_upto_region 11 with (fail)
          refine region_begin (opsOf Try.f26 11) (fun w2 => SmS F G q w CS CS' (.slice la L lc) (.slice (some ⟨pb, po, none⟩) N ac) (.slice la' L lc') (.slice (some ⟨pb', po', none⟩) N ac') l l' a a' w2 ∧ w2.rangeAt pb (po + 5 * j) cx ∧ w2.rangeAt pb' (po' + 5 * j) cy) (by kernel_rfl) (by kernel_rfl) 12 (by kernel_rfl) ?_
          intro Q' hQN hN0
          have X1 : SmS F G q w CS CS' (.slice la L lc) (.slice (some ⟨pb, po, none⟩) N ac) (.slice la' L lc') (.slice (some ⟨pb', po', none⟩) N ac') l l' a a' wr.drew ∧ wr.drew.rangeAt pb (po + 5 * j) cx ∧ wr.drew.rangeAt pb' (po' + 5 * j) cy := ⟨HR.out.next (Below.refl _ _).drew, hxr, hyr⟩
          have T1 : TmAt F wr.drew x cx := hxt.below (Below.refl _ _).drew
          have T2 : TmAt G wr.drew y cy := hyt.below (Below.refl _ _).drew
          have P1 : pb < wr.drew.heap.size := hpb
          have P2 : pb' < wr.drew.heap.size := hpb'
          clear hxr hyr hxt hyt HR c4 hpb hpb' hxi hyi hym
          generalize World.drew _ = wr1 at X1 T1 T2 P1 P2 ⊢
          have CALL := ih x hxm y cx cy wr1 F G T1 T2 (SmTs.mem SS.out hxm)
          refine reg_now 0 (.pointer (some ⟨q, 4, none⟩)) (some 69) hQN X1 (by kernel_rfl) (by kernel_rfl) (fun w => by kernel_rfl) ?_
          refine reg_nowIf 1 (.slice (some ⟨pb, po, none⟩) N ac) (some 70) hQN X1 (by kernel_rfl) (by kernel_rfl) (fun w' hw => exec_load_cell 23 (.tmp 69) (by kernel_rfl) q 4 (by kernel_rfl) _ (hw.1.x.cell (by rw [← hCS.out]; rfl)) _ Try.underlying23 rfl) ?_
          refine reg_now 2 (.int .i64 (j : Int)) (some 71) hQN X1 (by kernel_rfl) (by kernel_rfl) (fun w => by kernel_rfl) ?_
          refine reg_nowIf 3 (.pointer (some ⟨pb, po + 5 * j, none⟩)) (some 72) hQN X1 (by kernel_rfl) (by kernel_rfl) (fun w' hw => exec_indexAt 23 (.tmp 70) (.tmp 71) (by kernel_rfl) _ _ _ (by kernel_rfl) (by kernel_rfl) (run_at_tm pb po N ac j hjt _)) ?_
          refine reg_nowIf 4 (.agg cx.toArray) (some 73) hQN X1 (by kernel_rfl) (by kernel_rfl) (fun w' hw => exec_load_mid 25 (.tmp 72) (by kernel_rfl) pb (po + 5 * j) (by kernel_rfl) cx _ hw.2.1 Try.underlying25 rfl (t5Size X5.out)) ?_
          refine reg_now 5 (.pointer (some ⟨q + 1, 4, none⟩)) (some 74) hQN X1 (by kernel_rfl) (by kernel_rfl) (fun w => by kernel_rfl) ?_
          refine reg_nowIf 6 (.slice (some ⟨pb', po', none⟩) N ac') (some 75) hQN X1 (by kernel_rfl) (by kernel_rfl) (fun w' hw => exec_load_cell 23 (.tmp 74) (by kernel_rfl) (q + 1) 4 (by kernel_rfl) _ (hw.1.y.cell (by rw [← hCS'.out]; rfl)) _ Try.underlying23 rfl) ?_
          refine reg_now 7 (.int .i64 (j : Int)) (some 76) hQN X1 (by kernel_rfl) (by kernel_rfl) (fun w => by kernel_rfl) ?_
          refine reg_nowIf 8 (.pointer (some ⟨pb', po' + 5 * j, none⟩)) (some 77) hQN X1 (by kernel_rfl) (by kernel_rfl) (fun w' hw => exec_indexAt 23 (.tmp 75) (.tmp 76) (by kernel_rfl) _ _ _ (by kernel_rfl) (by kernel_rfl) (run_at_tm pb' po' N ac' j hjt _)) ?_
          refine reg_nowIf 9 (.agg cy.toArray) (some 78) hQN X1 (by kernel_rfl) (by kernel_rfl) (fun w' hw => exec_load_mid 25 (.tmp 77) (by kernel_rfl) pb' (po' + 5 * j) (by kernel_rfl) cy _ hw.2.2 Try.underlying25 rfl (t5Size Y5.out)) ?_
          refine reg_call 10 26 #[.agg cx.toArray, .agg cy.toArray] (some 79) _ (by kernel_rfl) (by kernel_rfl) (by kernel_rfl) CALL ?_
          rintro e w3 ⟨rfl, hb3⟩
          have Y1 : SmS F G q w CS CS' (.slice la L lc) (.slice (some ⟨pb, po, none⟩) N ac) (.slice la' L lc') (.slice (some ⟨pb', po', none⟩) N ac') l l' a a' w3 ∧ w3.rangeAt pb (po + 5 * j) cx ∧ w3.rangeAt pb' (po' + 5 * j) cy := ⟨X1.1.next hb3, rangeBelow hb3 P1 X1.2.1, rangeBelow hb3 P2 X1.2.2⟩
          refine ⟨_, rfl, Y1, ?_⟩
          obtain ⟨eb, heb⟩ : ∃ z, Hid (eqT x y = z) := ⟨_, rfl⟩
          rw [heb.out]
          refine reg_now 11 (.bool (!eb)) (some 80) hQN Y1 (by kernel_rfl) (by kernel_rfl) (fun w => by kernel_rfl) ?_
          refine reg_done (by kernel_rfl) (hN0 _ _ ?_)
          have S5 := Lib.hid Y1.1
          clear hQN hN0 X1 Y1 T1 T2 P1 P2 hb3 CALL
          generalize hact : Act.put _ (some 80) _ = act
          simp only [Act.put, sA, sC, sZ] at hact
          subst hact
          cases eb with
          | true =>
           have HT2 : Hid (a.take (j + 1) = a'.take (j + 1)) := tm_take_next hT.out XI.out YI.out (eqT_of heb.out)
           go_wp2
           go_roundw
           case rel => exact ⟨j + 1, by omega, by go_num, HT2, S5⟩
           case measure => simp [intOf]; omega
          | false =>
           have NO : Hid (E = false) := NE.out fun h => eqT_not heb.out (by
            have e := h.2.2.2.2
            have h1 := XI.out
            rw [e, YI.out] at h1
            exact (Option.some.inj h1).symm)
           go_wp2
           go_ret
           exact ⟨bool_eq NO.out.symm, S5.out.b⟩
         ·have r1 : ¬ (j : Int) < (N : Int) := by omega
          have EQA : Hid (a = a') := by
           have := hT.out
           rw [List.take_of_length_le (by have := hN.out; omega), List.take_of_length_le (by have := hN'.out; omega)] at this
           exact this
          have OK : Hid (E = true) := YES.out (by trivial) (by trivial) (by trivial) EQL.out EQA.out
          go_wp2
          go_ret
          exact ⟨bool_eq OK.out.symm, HR.out.b⟩
     ·have NO : Hid (E = false) := NE.out fun h => ha (by rw [← hN.out, ← hN'.out, h.2.2.2.2])
      subst hk hn hb hl
      have r1 : ¬ (N : Int) = (N' : Int) := by omega
      go_wp2
      go_ret
      exact ⟨bool_eq NO.out.symm, BE.out⟩
    ·have NO : Hid (E = false) := NE.out fun h => hl (by rw [← hL.out, ← hL'.out, h.2.2.2.1])
     subst hk hn hb
     have r1 : ¬ (L : Int) = (L' : Int) := by omega
     go_wp2
     go_ret
     exact ⟨bool_eq NO.out.symm, BE.out⟩
   ·have NO : Hid (E = false) := NE.out fun h => hb h.2.2.1
    have hb2 := ba_ne hb
    subst hk hn
    go_wp2
    go_ret
    exact ⟨bool_eq NO.out.symm, BE.out⟩
  ·have NO : Hid (E = false) := NE.out fun h => hn h.2.1
   subst hk
   go_wp2
   go_ret
   exact ⟨bool_eq NO.out.symm, BE.out⟩
 ·have NO : Hid (E = false) := NE.out fun h => hk h.1
  go_wp2
  go_ret
  exact ⟨bool_eq NO.out.symm, BE.out⟩
end Go.Proofs.Yteohjbggicchgaa
