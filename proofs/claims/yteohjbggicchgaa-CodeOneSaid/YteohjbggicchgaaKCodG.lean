/- Terms as bytes: the program's appendTerm. -/
import Derived.Test.YteohjbggicchgaaKGenT
import Derived.Test.YteohjbggicchgaaKCodF
import Derived.Deep.CutBlock
namespace Go.Proofs.Yteohjbggicchgaa
open Go Go.RowKit
set_option maxRecDepth 100000
/-- A term that is right somewhere, whose variables are not far. -/
def Ok10 (t : Tm) : Prop := (∃ p v d, rightT wordB p v d t = true) ∧ nearT t
theorem nears_mem : ∀ {ts : List Tm} {x : Tm}, nearTs ts → x ∈ ts → nearT x
 | t :: ts, x, h, hx => by
  rw [nearTs] at h
  rcases List.mem_cons.1 hx with rfl | hx
  ·exact h.1
  ·exact nears_mem h.2 hx
theorem rights_mem {wo : List UInt8 → Bool} {p v d k : Int} : ∀ {ts : List Tm} {i : Nat} {x : Tm}, rightTs wo p v d k i ts = true → x ∈ ts → ∃ v' d', rightT wo p v' d' x = true
 | t :: ts, i, x, h, hx => by
  rw [rightTs, Bool.and_eq_true] at h
  rcases List.mem_cons.1 hx with rfl | hx
  ·exact ⟨_, _, h.1⟩
  ·exact rights_mem h.2 hx
theorem args_le (k : Int) : argsOf k ≤ 3 := by unfold argsOf; split; omega; split; omega; split <;> omega
theorem Ok10.open {k n : Int} {s : List UInt8} {l : List Lv} {a : List Tm} (h : Ok10 (.mk k n s l a)) : (1 ≤ k ∧ k ≤ 9) ∧ (∀ x ∈ l, rightL x = true) ∧ (k = 4 ∨ k = 9 → s.length ≤ 32) ∧ l.length ≤ 4 ∧ (0 ≤ n ∧ (k = 1 ∨ k = 9 → n ≤ 1099511627776)) ∧ (∀ x ∈ a, Ok10 x) ∧ a.length ≤ 3 := by
 obtain ⟨⟨p, v, d, hr⟩, hn⟩ := h
 obtain ⟨g1, -, g3⟩ := right_argsC hr
 obtain ⟨c1, c2, c3, c4, c5, c6, c7, c8⟩ := head_parts g1
 rw [nearT] at hn
 refine ⟨c1, c4, fun hk => ?_, ?_, ⟨c6, fun hk => ?_⟩, fun x hx => ⟨?_, nears_mem hn.2 hx⟩, by rw [c2]; exact args_le k⟩
 ·rw [if_pos hk] at c5
  exact word_len c5
 ·split at c3
  ·omega
  ·split at c3 <;> omega
 ·rcases hk with hk | hk
  ·exact hn.1 hk
  ·have := c8 hk; omega
 ·obtain ⟨v', d', h⟩ := rights_mem g3 hx
  exact ⟨p, v', d', h⟩
def headB (k : Int) (n : Nat) (s : List UInt8) (m : Nat) : List Int := (k % 256) :: ((if k = 1 ∨ k = 9 then numB n else []) ++ ((if k = 4 ∨ k = 9 then textB s else []) ++ (if k = 4 then [((m % 256 : Nat) : Int)] else [])))
def lvsB (ls : List Lv) : List Int := (ls.map levelB).flatten
theorem termB_head (k : Int) (n : Nat) (s : List UInt8) (l : List Lv) (a : List Tm) : termB (.mk k (n : Int) s l a) = headB k n s l.length ++ (lvsB l ++ termsB a) := by
 rw [termB, headB, lvsB, Int.toNat_natCast]
 simp only [List.cons_append, List.append_assoc]
theorem lvsB_snoc (ls : List Lv) (x : Lv) : lvsB (ls ++ [x]) = lvsB ls ++ levelB x := by simp [lvsB]
theorem lvsB_len : ∀ {ls : List Lv}, (∀ x ∈ ls, x.p.length = 4) → (lvsB ls).length = 5 * ls.length
 | [], _ => rfl
 | x :: ls, h => by
  have h1 := levelB_len (h x (by simp))
  have h2 := lvsB_len (ls := ls) (fun y hy => h y (by simp [hy]))
  unfold lvsB at h2 ⊢
  rw [List.map_cons, List.flatten_cons, List.length_append, h1, h2, List.length_cons]
  omega
theorem termsB_append : ∀ (ts us : List Tm), termsB (ts ++ us) = termsB ts ++ termsB us
 | [], us => by rw [List.nil_append, termsB, List.nil_append]
 | t :: ts, us => by rw [List.cons_append, termsB, termsB_append ts us, termsB, List.append_assoc]
theorem termsB_one (x : Tm) : termsB [x] = termB x := by rw [termsB, termsB, List.append_nil]
theorem textB_len (s : List UInt8) (h : s.length < 2 ^ 64) : (textB s).length ≤ 9 + s.length := by
 have := numB_len s.length h
 rw [textB, List.length_append, strB_len]
 omega
theorem headB_len {k : Int} {n : Nat} {s : List UInt8} {m : Nat} (hn : k = 1 ∨ k = 9 → n < 2 ^ 64) (hs : k = 4 ∨ k = 9 → s.length ≤ 32) : (headB k n s m).length ≤ 52 := by
 have h1 : (if k = 1 ∨ k = 9 then numB n else []).length ≤ 9 := by
  split
  ·exact numB_len n (hn ‹_›)
  ·simp
 have h2 : (if k = 4 ∨ k = 9 then textB s else []).length ≤ 41 := by
  split
  ·have := hs ‹_›; have := textB_len s (by omega); omega
  ·simp
 have h3 : (if k = 4 then [((m % 256 : Nat) : Int)] else []).length ≤ 1 := by split <;> simp
 rw [headB, List.length_cons, List.length_append, List.length_append]
 omega
theorem nodesTs_cons (t : Tm) (ts : List Tm) : nodesTs (t :: ts) = nodesT t + nodesTs ts := by rw [nodesTs]
theorem nodesTs_app : ∀ (ts us : List Tm), nodesTs (ts ++ us) = nodesTs ts + nodesTs us
 | [], us => by rw [List.nil_append, nodesTs, Nat.zero_add]
 | t :: ts, us => by rw [List.cons_append, nodesTs, nodesTs_app ts us, nodesTs, Nat.add_assoc]
theorem termsB_len {ts : List Tm} (h : ∀ x ∈ ts, (termB x).length ≤ 60 * nodesT x) : (termsB ts).length ≤ 60 * nodesTs ts := by
 induction ts with
 | nil => rw [termsB]; simp
 | cons t ts ih =>
  have h1 := h t (by simp)
  have h2 := ih (fun x hx => h x (by simp [hx]))
  rw [termsB, List.length_append, nodesTs]
  omega
/-- Every level has four numbers: told by where it lies. -/
theorem termB_len : ∀ t : Tm, Ok10 t → LvT t → (termB t).length ≤ 60 * nodesT t := by
 refine Tm.byParts fun k n s l a ih h hl => ?_
 obtain ⟨h1, h2, h3, h4, ⟨h5, h6⟩, h7, -⟩ := h.open
 obtain ⟨N, rfl⟩ := Int.eq_ofNat_of_zero_le h5
 have lv_mem : ∀ {ts : List Tm} {x : Tm}, LvTs ts → x ∈ ts → LvT x := by
  intro ts
  induction ts with
  | nil => intro x _ hx; simp at hx
  | cons t ts ih2 =>
   intro x hh hx
   rw [LvTs] at hh
   rcases List.mem_cons.1 hx with rfl | hx
   ·exact hh.1
   ·exact ih2 hh.2 hx
 rw [LvT] at hl
 have e := termsB_len (ts := a) (fun x hx => ih x hx (h7 x hx) (lv_mem hl.2 hx))
 have e1 := headB_len (k := k) (n := N) (s := s) (m := l.length) (fun hk => by have := h6 hk; omega) h3
 rw [termB_head, List.length_append, List.length_append, lvsB_len hl.1, nodesT]
 omega
theorem LvsOff.get {F : List Nat} {w : World} {a : Option Addr} {n c : Nat} {ls : List Lv} (h : LvsOff F w (.slice a n c) ls) {i : Nat} {x : Lv} (hx : ls[i]? = some x) : x.p.length = 4 ∧ ∃ pb po, a = some ⟨pb, po, none⟩ ∧ pb ∉ F ∧ pb < w.heap.size ∧ w.rangeAt pb (po + 5 * i) (ints .i64 x.zs) := by
 obtain ⟨a', cap, h1, h2, h3, h4, h5⟩ := h
 injection h1 with e1 e2 e3
 subst e1
 have hi := (List.getElem?_eq_some_iff.1 hx).1
 obtain ⟨pb, po, e, hF, hb, hr⟩ := h5 (by omega)
 exact ⟨h4 x (List.mem_of_getElem? hx), pb, po, e, hF, hb, hr i x hx⟩
mutual
/-- What lies in memory has levels of four numbers. -/
theorem TmAt.lv {F : List Nat} {w : World} : ∀ (t : Tm) (cs : List Value), TmAt F w t cs → LvT t
 | .mk k n s l a, cs, h => by
  rw [TmAt] at h
  obtain ⟨lv, av, -, h2, h3⟩ := h
  rw [LvT]
  exact ⟨h2.choose_spec.choose_spec.2.2.2.1, TmsAt.lv a av h3⟩
theorem TmsAt.lv {F : List Nat} {w : World} : ∀ (ts : List Tm) (v : Value), TmsAt F w ts v → LvTs ts
 | [], _, _ => by rw [LvTs]; trivial
 | t :: ts, v, h => by
  rw [TmsAt] at h
  obtain ⟨cap, pb, po, h1, h2, h3, h4, h5⟩ := h
  exact TmRow.lv (t :: ts) pb po h5
theorem TmRow.lv {F : List Nat} {w : World} : ∀ (ts : List Tm) (pb po : Nat), TmRow F w ts pb po → LvTs ts
 | [], _, _, _ => by rw [LvTs]; trivial
 | t :: ts, pb, po, h => by
  rw [TmRow] at h
  obtain ⟨⟨cs, h1, h2⟩, h3⟩ := h
  rw [LvTs]
  exact ⟨TmAt.lv t cs h2, TmRow.lv ts pb (po + 5) h3⟩
end
/-- A call beside a row that is made, where the call may write. -/
theorem reg_cp2 {P : Program} {ops : Array Oper} {Q : Exit → Act → World → Prop} {S : World → Prop} {fuel : Nat} {listed : Array Bool} {a : Act} {w : World} (c p : Nat) (dc dp : Tmp) (f : FuncId) (args : Array Value) (R : World → Ending → World → Prop) (vp : Nat → Value) (o : Obj) (X : Value → Nat → World → Prop)
    (hst : (ops[c]?.isSome && ops[p]?.isSome && (opAt ops c).guard.isNone && (opAt ops p).guard.isNone && (Region.ready .any ops listed == [c, p]) && (Region.ready .any ops (listed.setIfInBounds c true) == [p]) && (Region.ready .any ops (listed.setIfInBounds p true) == [c])) = true)
    (hdc : (opAt ops c).dst = some dc) (hdp : (opAt ops p).dst = some dp) (n : dc ≠ dp) (ecp : c ≠ p)
    (rc0 : (execOp a.eval (opAt ops c)).run P w = .ok (.enter f args) w) (rc1 : ∀ v w1, (execOp (a.put (some dp) v).eval (opAt ops c)).run P w1 = .ok (.enter f args) w1)
    (rp0 : ∀ w1 : World, (execOp a.eval (opAt ops p)).run P w1 = .ok (.value (vp w1.heap.size)) (w1.alloc o)) (rp1 : ∀ v w1, (execOp (a.put (some dc) v).eval (opAt ops p)).run P w1 = .ok (.value (vp w1.heap.size)) (w1.alloc o))
    (hc : ∀ w1, Below w.heap.size w w1 → Calls P f args w1 (R w1)) (hSo : S (w.alloc o))
    (hA : ∀ e w2, R w e w2 → S w2 ∧ S (w2.alloc o) ∧ ∃ v, e = .returned v ∧ X v w2.heap.size (w2.alloc o)) (hB : ∀ e w3, R (w.alloc o) e w3 → S w3 ∧ ∃ v, e = .returned v ∧ X v w.heap.size w3)
    (h : ∀ v q w3, X v q w3 → wpAnyH P .any ops Q S fuel ((listed.setIfInBounds c true).setIfInBounds p true) ((a.put (some dc) v).put (some dp) (vp q)) w3) : wpAnyH P .any ops Q S (fuel + 2) listed a w := by
  simp only [Bool.and_eq_true, beq_iff_eq] at hst
  obtain ⟨⟨⟨⟨⟨⟨g1, g2⟩, n1⟩, n2⟩, r0⟩, rc⟩, rp⟩ := hst
  have wc : ∀ y, Region.wanted (opAt ops c) y = true := fun y => by simp [Region.wanted, Option.isNone_iff_eq_none.1 n1]
  have wp : ∀ y, Region.wanted (opAt ops p) y = true := fun y => by simp [Region.wanted, Option.isNone_iff_eq_none.1 n2]
  have al : Below w.heap.size w (w.alloc o) := (Below.refl _ _).alloc (Nat.le_refl _) o
  refine wpAnyH_two r0 ?_ ?_
  · refine wpOp_callE f args (R w) (get_opAt g1) (wc _) rc0 (hc w (Below.refl _ _)) (fun e w2 hR => ?_)
    obtain ⟨hs2, hs3, v, rfl, hX⟩ := hA e w2 hR
    refine ⟨v, rfl, hs2, wpAnyH_one rc ?_⟩
    rw [hdc]
    refine wpOp_value _ (get_opAt g2) (wp _) (rp1 v w2) ⟨hs3, ?_⟩
    rw [hdp]
    exact h v _ _ hX
  · refine wpOp_value _ (get_opAt g2) (wp _) (rp0 w) ⟨hSo, wpAnyH_one rp ?_⟩
    rw [hdp]
    refine wpOp_callE f args (R (w.alloc o)) (get_opAt g1) (wc _) (rc1 _ _) (hc _ al) (fun e w3 hR => ?_)
    obtain ⟨hs3, v, rfl, hX⟩ := hB e w3 hR
    refine ⟨v, rfl, hs3, ?_⟩
    rw [hdc, Act.put_comm a _ _ (fun d h1 h2 => n (by cases h1; cases h2; rfl)), Array.setIfInBounds_comm _ _ (Ne.symm ecp)]
    exact h v _ _ hX
/-- A row made in a world and appended to in a later one. -/
structure HeadC (m : Nat) (v0 : Value) (w0 : World) (us : List Int) (v' : Value) (w' : World) : Prop where
 row : RowB m w' v' us
 st : Step (ownL v0) w0 (ownL v') w'
theorem lvs_mem10 : ∀ {ts : List Tm} {x : Tm}, LvTs ts → x ∈ ts → LvT x
 | t :: ts, x, h, hx => by
  rw [LvTs] at h
  rcases List.mem_cons.1 hx with rfl | hx
  ·exact h.1
  ·exact lvs_mem10 h.2 hx
theorem TmsAt_lv_mem {F : List Nat} {w : World} {ts : List Tm} {v : Value} (h : TmsAt F w ts v) {x : Tm} (hx : x ∈ ts) : LvT x := lvs_mem10 (TmsAt.lv ts v h) hx
set_option maxHeartbeats 8000000 in
theorem appTerm_walk : ∀ (t : Tm) (cs : List Value) (v : Value) (zs : List Int) (m : Nat) (w : World) (F : List Nat), TmAt F w t cs → Ok10 t → RowB m w v zs → m ≤ w.heap.size → (∀ k ∈ ownL v, k ∈ F) → zs.length + 60 * nodesT t ≤ 1000000000000 → Calls Try.prog 35 #[v, .agg cs.toArray] w (Puts m v zs (termB t) w) := by
 refine Tm.byParts fun k n s ls a ih cs v zs m w F ht hok hr hm hF hb => ?_
 obtain ⟨O1, O2, O3, O4, ⟨O5, O6⟩, O7, O8⟩ := hok.open
 obtain ⟨N, rfl⟩ := Int.eq_ofNat_of_zero_le O5
 have LVT := Lib.hid (TmAt.lv _ _ ht)
 have TBL := Lib.hid (termB_len _ hok (TmAt.lv _ _ ht))
 rw [termB_head, nodesT] at TBL
 rw [termB_head]
 rw [nodesT] at hb
 obtain ⟨lv, av, rfl, h1, h2⟩ := ht.open
 dsimp only [Tm.kind, Tm.n, Tm.name, Tm.levels, Tm.args] at ht h1 h2 ⊢
 obtain ⟨la, lc, rfl⟩ := h1.slice
 obtain ⟨aa, ac, rfl⟩ := h2.slice
 obtain ⟨M, hM⟩ : ∃ M, Hid (ls.length = M) := ⟨_, rfl⟩
 obtain ⟨A, hA⟩ : ∃ A, Hid (a.length = A) := ⟨_, rfl⟩
 obtain ⟨NA, hNA⟩ : ∃ NA, Hid (nodesTs a = NA) := ⟨_, rfl⟩
 obtain ⟨H, hH⟩ : ∃ H, Hid (headB k N s M = H) := ⟨_, rfl⟩
 have HL : Hid (H.length ≤ 52) := by rw [Hid, ← hH.out]; exact headB_len (fun hk => by have := O6 hk; omega) O3
 rw [hM.out] at TBL O4 hb h1 ⊢
 rw [hA.out] at O8 h2 ⊢
 rw [hNA.out] at TBL hb
 rw [hH.out] at TBL ⊢
 obtain ⟨q, hq⟩ : ∃ q, Hid (w.heap.size = q) := ⟨_, rfl⟩
 have RB0 := Lib.hid hr
 have HM := Lib.hid hm
 have HB : Hid (zs.length + 60 * (1 + M + NA) ≤ 1000000000000) := hb
 have HF := Lib.hid hF
 have H1 := Lib.hid h1
 have H2 := Lib.hid h2
 have IH := Lib.hid ih
 have OK := Lib.hid O7
 have OR := Lib.hid O2
 have O46 := Lib.hid O6
 have O33 := Lib.hid O3
 have M4 := Lib.hid O4
 have A3 := Lib.hid O8
 have NQ : Hid (q ∉ ownL v) := fun hc => by have := (ownL_row RB0.out q hc).2; have := hq.out; omega
 clear hr hm hb hF h1 h2 ih O2 O3 O4 O6 O7 O8 ht hok
 obtain ⟨CS, hCS⟩ : ∃ x, Hid ([.int .i64 k, .int .i64 (N : Int), strT s, .slice la M lc, .slice aa A ac] = x) := ⟨_, rfl⟩
 rw [hCS.out]
 go_enter Try.func35, Try.ntmps35
 go_upto_region 0 with (fail)
 refine lbeg (opsOf Try.f35 0) ?_
 refine lbox 0 25 (.tmp 1) (CS) (q) (some 3) hq ?_
 intro w1 bw1 bew1 hsw1
 refine lnow 1 (.slice none 0 0) (some 4) ?_
 refine ldn 2 ?_
 generalize hact : Act.put _ (some 4) _ = act
 simp only [Act.put, sA, sC, sZ] at hact
 subst hact
 have BQ := Lib.hid bw1
 have BE : Hid (Below w.heap.size w w1) := by rw [Hid, hq.out]; exact bew1
 have RB1 : Hid (RowB m w1 v zs) := RB0.out.below BE.out
 have M1 : Hid (m ≤ w1.heap.size) := Nat.le_trans HM.out BE.out.size
 have LV1 : Hid (LvsOff F w1 (.slice la M lc) ls) := H1.out.step (Step.of_below BE.out (Nat.le_refl _))
 have TS1 : Hid (TmsAt F w1 a (.slice aa A ac)) := TmsAt.below H2.out BE.out
 have S1 : Hid (q < w1.heap.size) := by have := hsw1.out; rw [Hid]; omega
 clear bw1 bew1 hsw1 RB0 H1 H2
 go_upto_region 1 with (fail)
 refine lbeg (opsOf Try.f35 1) ?_
 refine lnow 0 (v) (some 9) ?_
 refine lnow 1 (.pointer (some ⟨q, 0, none⟩)) (some 10) ?_
 refine lcl 2 (.int .i64 k) (some 11) 3 10 (q) 0 (BQ.out.cell (by rw [← hCS.out]; rfl)) Try.underlying3 ?_
 refine lnow 3 (.int .u8 (IntKind.u8.wrap k)) (some 12) ?_
 rw [wrapI8]
 refine lin_byte1 4 (some 13) (some 14) (k % 256) (v) (zs) (m) RB1.out (by have := HB.out; omega) (M1.out) (by kernel_rfl) (by kernel_rfl) (by kernel_rfl) (fun _ => by kernel_rfl) (by kernel_rfl) (fun _ => by kernel_rfl) ?_
 intro q2 v2 w2 rw2 sw2
 refine lnow 6 (v2) (some 0) ?_
 refine ldn 7 ?_
 generalize hact : Act.put _ (some 0) _ = act
 simp only [Act.put, sA, sC, sZ] at hact
 subst hact
 have RB := Lib.hid rw2
 have ST := Lib.hid sw2
 clear rw2 sw2
 have BQ2 : Hid (Blk w2 q 25 CS) := ST.out.blk BQ.out NQ.out
 have M2 : Hid (m ≤ w2.heap.size) := Nat.le_trans M1.out ST.out.size
 have NQ2 : Hid (q ∉ ownL v2) := ST.out.off S1.out NQ.out
 go_upto_region 2 with (fail)
 refine lbeg (opsOf Try.f35 2) ?_
 refine lnow 0 (.pointer (some ⟨q, 0, none⟩)) (some 15) ?_
 refine lcl 1 (.int .i64 k) (some 16) 3 15 (q) 0 (BQ2.out.cell (by rw [← hCS.out]; rfl)) Try.underlying3 ?_
 refine ldn 2 ?_
 generalize hact : Act.put _ (some 16) _ = act
 simp only [Act.put, sA, sC, sZ] at hact
 subst hact
 go_upto_block 0 with (fail)
 go_cut [0] from 17 (fun s0 wc => HeadC m v w1 (zs ++ H) s0 wc)
 case first =>
  go_upto_region 3 with (fail)
  refine lbeg (opsOf Try.f35 3) ?_
  refine lnow 0 (.bool (decide (k = 1))) (some 18) ?_
  refine lnow 1 (.bool (decide (k = 1))) (some 17) ?_
  refine ldn 2 ?_
  generalize hact : Act.put _ (some 17) _ = act
  simp only [Act.put, sA, sC, sZ] at hact
  subst hact
  by_cases h1 : k = 1
  ·skip
   have EH : zs ++ H = zs ++ [k % 256] ++ numB N := by rw [← hH.out, headB, if_pos (.inl h1), if_neg (by omega), if_neg (by omega)]; simp
   rw [decide_eq_true h1]
   have NB := O46.out (.inl h1)
   go_upto_region 4 with (fail)
   refine lbeg (opsOf Try.f35 4) ?_
   refine lnow 0 (v2) (some 19) ?_
   refine lnow 1 (.pointer (some ⟨q, 1, none⟩)) (some 20) ?_
   refine lcl 2 (.int .i64 (N : Int)) (some 21) 3 20 (q) 1 (BQ2.out.cell (by rw [← hCS.out]; rfl)) Try.underlying3 ?_
   refine lcal 3 31 #[v2, .int .i64 (N : Int)] (some 22) _ (appNum_walk N v2 (zs ++ [k % 256]) m w2 RB.out M2.out (by have := HB.out; simp; omega) (by omega)) ?_
   rintro e w3 ⟨v3, rfl, r3, s3⟩
   refine ⟨_, rfl, ?_⟩
   refine lnow 4 (v3) (some 0) ?_
   refine ldn 5 ?_
   generalize hact : Act.put _ (some 0) _ = act
   simp only [Act.put, sA, sC, sZ] at hact
   subst hact
   have RB := Lib.hid r3
   have ST := Lib.hid (ST.out.trans s3)
   clear r3 s3
   have RH : HeadC m v w1 (zs ++ H) v3 w3 := ⟨by rw [EH]; exact RB.out, ST.out⟩
   clear BQ2 RB ST
   go_wp2
   go_meet
   case rel => exact RH
  rw [decide_eq_false h1]
  go_upto_region 5 with (fail)
  refine lbeg (opsOf Try.f35 5) ?_
  refine lnow 0 (.bool (decide (k = 9))) (some 24) ?_
  refine lnow 1 (.bool (decide (k = 9))) (some 23) ?_
  refine ldn 2 ?_
  generalize hact : Act.put _ (some 23) _ = act
  simp only [Act.put, sA, sC, sZ] at hact
  subst hact
  by_cases h9 : k = 9
  ·skip
   have EH : zs ++ H = zs ++ [k % 256] ++ numB N ++ textB s := by rw [← hH.out, headB, if_pos (.inr h9), if_pos (.inr h9), if_neg (by omega)]; simp
   rw [decide_eq_true h9]
   have NB := O46.out (.inr h9)
   have SB := O33.out (.inr h9)
   have D0 : Blk w2.drew q 25 CS := BQ2.out
   have RBd : Hid (RowB m w2.drew v2 (zs ++ [k % 256])) := RB.out.below (Below.refl _ _).drew
   have Md : Hid (m ≤ w2.drew.heap.size) := M2.out
   have STd : Hid (Step (ownL v) w1 (ownL v2) w2.drew) := ST.out.on (Below.refl _ _).drew
   clear RB ST BQ2
   go_upto_region 6 with (fail)
   refine region_begin (opsOf Try.f35 6) (fun W' => Blk W' q 25 CS) (by kernel_rfl) (by kernel_rfl) 8 (by kernel_rfl) ?_
   intro Q' hQN hN
   generalize w2.drew = wd at D0 RBd Md STd ⊢
   refine reg_now 0 (v2) (some 25) hQN D0 (by kernel_rfl) (by kernel_rfl) (fun w => by kernel_rfl) ?_
   refine reg_now 1 (.pointer (some ⟨q, 1, none⟩)) (some 26) hQN D0 (by kernel_rfl) (by kernel_rfl) (fun w => by kernel_rfl) ?_
   refine reg_now 4 (.pointer (some ⟨q, 2, none⟩)) (some 29) hQN D0 (by kernel_rfl) (by kernel_rfl) (fun w => by kernel_rfl) ?_
   refine reg_nowIf 2 (.int .i64 (N : Int)) (some 27) hQN D0 (by kernel_rfl) (by kernel_rfl) (fun w' hw => exec_load_cell 3 (.tmp 26) (by kernel_rfl) q 1 (by kernel_rfl) _ (Blk.cell hw (by rw [← hCS.out]; rfl)) _ Try.underlying3 rfl) ?_
   refine reg_nowIf 5 (strT s) (some 30) hQN D0 (by kernel_rfl) (by kernel_rfl) (fun w' hw => exec_load_cell 9 (.tmp 29) (by kernel_rfl) q 2 (by kernel_rfl) _ (Blk.cell hw (by rw [← hCS.out]; rfl)) _ Try.underlying9 rfl) ?_
   refine reg_call 3 31 #[v2, .int .i64 (N : Int)] (some 28) _ (by kernel_rfl) (by kernel_rfl) (by kernel_rfl) (appNum_walk N v2 (zs ++ [k % 256]) m wd RBd.out Md.out (by have := HB.out; simp; omega) (by omega)) ?_
   rintro e w3 ⟨v3, rfl, r3, s3⟩
   have D3 : Blk w3 q 25 CS := s3.blk D0 NQ2.out
   refine ⟨_, rfl, D3, ?_⟩
   have M3 : m ≤ w3.heap.size := Nat.le_trans Md.out s3.size
   have NL := numB_len N (by omega)
   have NQ3 : q ∉ ownL v3 := s3.off D0.lt NQ2.out
   refine reg_call 6 64 #[v3, strT s] (some 31) _ (by kernel_rfl) (by kernel_rfl) (by kernel_rfl) (appText_walk s v3 (zs ++ [k % 256] ++ numB N) m w3 r3 M3 (by have := HB.out; simp only [List.length_append, List.length_cons, List.length_nil]; omega)) ?_
   rintro e w4 ⟨v4, rfl, r4, s4⟩
   have D4 : Blk w4 q 25 CS := s4.blk D3 NQ3
   refine ⟨_, rfl, D4, ?_⟩
   refine reg_now 7 (v4) (some 0) hQN D4 (by kernel_rfl) (by kernel_rfl) (fun w => by kernel_rfl) ?_
   refine reg_done (by kernel_rfl) (hN _ _ ?_)
   generalize hact : Act.put _ (some 0) _ = act
   simp only [Act.put, sA, sC, sZ] at hact
   subst hact
   have RB := Lib.hid r4
   have BQ2 := D4
   have ST := Lib.hid ((STd.out.trans s3).trans s4)
   clear r3 s3 r4 s4 D0 D3 D4 RBd Md STd M3 NL NQ3
   have RH : HeadC m v w1 (zs ++ H) v4 w4 := ⟨by rw [EH]; exact RB.out, ST.out⟩
   clear BQ2 RB ST
   go_wp2
   go_meet
   case rel => exact RH
  rw [decide_eq_false h9]
  go_upto_region 7 with (fail)
  refine lbeg (opsOf Try.f35 7) ?_
  refine lnow 0 (.bool (decide (k = 4))) (some 33) ?_
  refine lnow 1 (.bool (decide (k = 4))) (some 32) ?_
  refine ldn 2 ?_
  generalize hact : Act.put _ (some 32) _ = act
  simp only [Act.put, sA, sC, sZ] at hact
  subst hact
  by_cases h4 : k = 4
  rotate_left
  ·skip
   have EH : zs ++ H = zs ++ [k % 256] := by rw [← hH.out, headB, if_neg (fun e => e.elim h1 h9), if_neg (fun e => e.elim h4 h9), if_neg h4]; rfl
   rw [decide_eq_false h4]
   have RH : HeadC m v w1 (zs ++ H) v2 w2 := ⟨by rw [EH]; exact RB.out, ST.out⟩
   clear BQ2 RB ST
   go_wp2
   go_meet
   case rel => exact RH
  have EH : zs ++ H = zs ++ [k % 256] ++ textB s ++ [((M % 256 : Nat) : Int)] := by rw [← hH.out, headB, if_neg (fun e => e.elim h1 h9), if_pos (.inl h4), if_pos h4]; simp
  rw [decide_eq_true h4]
  have SB := O33.out (.inl h4)
  have D0 : Blk w2.drew q 25 CS := BQ2.out
  have RBd : Hid (RowB m w2.drew v2 (zs ++ [k % 256])) := RB.out.below (Below.refl _ _).drew
  have Md : Hid (m ≤ w2.drew.heap.size) := M2.out
  have STd : Hid (Step (ownL v) w1 (ownL v2) w2.drew) := ST.out.on (Below.refl _ _).drew
  clear RB ST BQ2
  go_upto_region 8 with (fail)
  refine region_begin (opsOf Try.f35 8) (fun W' => Blk W' q 25 CS) (by kernel_rfl) (by kernel_rfl) 11 (by kernel_rfl) ?_
  intro Q' hQN hN
  generalize w2.drew = wd at D0 RBd Md STd ⊢
  refine reg_now 0 (v2) (some 34) hQN D0 (by kernel_rfl) (by kernel_rfl) (fun w => by kernel_rfl) ?_
  refine reg_now 1 (.pointer (some ⟨q, 2, none⟩)) (some 35) hQN D0 (by kernel_rfl) (by kernel_rfl) (fun w => by kernel_rfl) ?_
  refine reg_now 4 (.pointer (some ⟨q, 3, none⟩)) (some 38) hQN D0 (by kernel_rfl) (by kernel_rfl) (fun w => by kernel_rfl) ?_
  refine reg_nowIf 2 (strT s) (some 36) hQN D0 (by kernel_rfl) (by kernel_rfl) (fun w' hw => exec_load_cell 9 (.tmp 35) (by kernel_rfl) q 2 (by kernel_rfl) _ (Blk.cell hw (by rw [← hCS.out]; rfl)) _ Try.underlying9 rfl) ?_
  refine reg_nowIf 5 (.slice la M lc) (some 39) hQN D0 (by kernel_rfl) (by kernel_rfl) (fun w' hw => exec_load_cell 22 (.tmp 38) (by kernel_rfl) q 3 (by kernel_rfl) _ (Blk.cell hw (by rw [← hCS.out]; rfl)) _ Try.underlying22 rfl) ?_
  refine reg_now 6 (.int .i64 (M : Int)) (some 40) hQN D0 (by kernel_rfl) (by kernel_rfl) (fun w => by kernel_rfl) ?_
  refine reg_now 7 (.int .u8 (IntKind.u8.wrap (M : Int))) (some 41) hQN D0 (by kernel_rfl) (by kernel_rfl) (fun w => by kernel_rfl) ?_
  rw [wrapU8]
  have al : Below wd.heap.size wd (wd.alloc (.cells (ints .u8 [((M % 256 : Nat) : Int)]).toArray 5)) := (Below.refl _ _).alloc (Nat.le_refl _) _
  refine reg_cp2 3 8 37 42 64 #[v2, strT s] (fun w1' => Puts m v2 (zs ++ [k % 256]) (textB s) w1') (fun g => .slice (some ⟨g, 0, none⟩) 1 1) (.cells (ints .u8 [((M % 256 : Nat) : Int)]).toArray 5) (fun v3 g w3 => RowB m w3 v3 (zs ++ [k % 256] ++ textB s) ∧ Step (ownL v2) wd (ownL v3) w3 ∧ BytesIn w3 (.slice (some ⟨g, 0, none⟩) 1 1) [((M % 256 : Nat) : Int)] ∧ Blk w3 q 25 CS) (by kernel_rfl) (by kernel_rfl) (by kernel_rfl) (by decide) (by decide) (by kernel_rfl) (fun _ _ => by kernel_rfl) (fun _ => by kernel_rfl) (fun _ _ => by kernel_rfl) (fun w1' hb1 => appText_walk s v2 (zs ++ [k % 256]) m w1' (RBd.out.below hb1) (Nat.le_trans Md.out hb1.size) (by have := HB.out; simp only [List.length_append, List.length_cons, List.length_nil]; omega)) (D0.below al D0.lt) ?_ ?_ ?_
  ·rintro e w3 ⟨v3, rfl, r3, s3⟩
   have D3 : Blk w3 q 25 CS := s3.blk D0 NQ2.out
   have al3 : Below w3.heap.size w3 (w3.alloc (.cells (ints .u8 [((M % 256 : Nat) : Int)]).toArray 5)) := (Below.refl _ _).alloc (Nat.le_refl _) _
   exact ⟨D3, D3.below al3 D3.lt, v3, rfl, r3.below al3, s3.on al3, bytes_blk (Blk.new w3 5 (ints .u8 [((M % 256 : Nat) : Int)])) rfl, D3.below al3 D3.lt⟩
  ·rintro e w3 ⟨v3, rfl, r3, s3⟩
   have Da := D0.below al D0.lt
   have D3 : Blk w3 q 25 CS := s3.blk Da NQ2.out
   refine ⟨D3, v3, rfl, r3, Step.after al s3, bytes_blk (s3.blk (Blk.new wd 5 (ints .u8 [((M % 256 : Nat) : Int)])) (fun hc => by have := (ownL_row RBd.out _ hc).2; omega)) rfl, D3⟩
  rintro v3 g w3 ⟨r3, s3, bi3, D3⟩
  have M3 : m ≤ w3.heap.size := Nat.le_trans Md.out s3.size
  have TL := textB_len s (by omega)
  have NQ3 : q ∉ ownL v3 := s3.off D0.lt NQ2.out
  obtain ⟨v4, w4, e4, r4, s4, -⟩ := r3.append bi3 trivial (by have := HB.out; simp only [List.length_append, List.length_cons, List.length_nil]; omega) M3
  have D4 : Blk w4 q 25 CS := s4.blk D3 NQ3
  refine reg_value 9 v4 (some 43) w4 (by kernel_rfl) (by kernel_rfl) (exec_of (Builtin.append_ #[30, 30] 30 #[v3, .slice (some ⟨g, 0, none⟩) 1 1]) _ (by kernel_rfl) e4) D4 ?_
  refine reg_now 10 (v4) (some 0) hQN D4 (by kernel_rfl) (by kernel_rfl) (fun w => by kernel_rfl) ?_
  refine reg_done (by kernel_rfl) (hN _ _ ?_)
  generalize hact : Act.put _ (some 0) _ = act
  simp only [Act.put, sA, sC, sZ] at hact
  subst hact
  have RB := Lib.hid r4
  have BQ2 := D4
  have ST := Lib.hid ((STd.out.trans s3).trans s4)
  clear r3 s3 bi3 D3 r4 s4 e4 D0 D4 RBd Md STd M3 TL NQ3 al
  have RH : HeadC m v w1 (zs ++ H) v4 w4 := ⟨by rw [EH]; exact RB.out, ST.out⟩
  clear BQ2 RB ST
  go_wp2
  go_meet
  case rel => exact RH
 clear RB ST BQ2 M2 NQ2
 skip
 have RB := Lib.hid hcut.row
 have ST := Lib.hid hcut.st
 clear hcut
 have BQ2 : Hid (Blk wc q 25 CS) := ST.out.blk BQ.out NQ.out
 go_upto_region 9 with (fail)
 refine lbeg (opsOf Try.f35 9) ?_
 refine lnow 0 (.pointer (some ⟨q, 3, none⟩)) (some 44) ?_
 refine lcl 1 (.slice la M lc) (some 45) 22 44 (q) 3 (BQ2.out.cell (by rw [← hCS.out]; rfl)) Try.underlying22 ?_
 refine lnow 2 (.int .i64 (M : Int)) (some 46) ?_
 refine lnow 3 (.int .i64 0) (some 47) ?_
 refine ldn 4 ?_
 generalize hact : Act.put _ (some 47) _ = act
 simp only [Act.put, sA, sC, sZ] at hact
 subst hact
 clear BQ2
 go_wp2
 go_loopw [0, 47] (fun vv iv wr => ∃ (i : Nat) (v' : Value), i ≤ M ∧ iv = .int .i64 (i : Int) ∧ v' = vv ∧ Hid (RowB m wr v' (zs ++ H ++ lvsB (ls.take i))) ∧ Hid (Step (ownL v) w1 (ownL v') wr)) (fun _ iv _ => M - (intOf iv).toNat)
 case atStart => exact ⟨0, _, Nat.zero_le _, rfl, rfl, by rw [List.take_zero, lvsB, List.map_nil, List.flatten_nil, List.append_nil]; exact RB, ST⟩
 case round =>
  clear RB ST
  obtain ⟨i, v', hi, rfl, rfl, RB, ST⟩ := hrel
  have MR : Hid (m ≤ wr.heap.size) := Nat.le_trans M1.out ST.out.size
  by_cases hlt : i < M
  ·skip
   have c1 : (i : Int) < (M : Int) := by omega
   obtain ⟨x, hx⟩ : ∃ x, ls[i]? = some x := ⟨_, List.getElem?_eq_getElem (by rw [hM.out]; exact hlt)⟩
   obtain ⟨x4, pb, po, rfl, hpF, hpb, hrx⟩ := LV1.out.get hx
   have RX : Hid (wr.rangeAt pb (po + 5 * i) (ints .i64 x.zs)) := ST.out.range hpb (fun hc => hpF (HF.out _ hc)) hrx
   have XR := OR.out x (List.mem_of_getElem? hx)
   have TK : Hid (ls.take (i + 1) = ls.take i ++ [x]) := by rw [Hid, List.take_add_one, hx]; rfl
   have LL : Hid ((lvsB (ls.take i)).length ≤ 20) := by have := lvsB_len (ls := ls.take i) (fun y hy => by have := LVT.out; rw [LvT] at this; exact this.1 y (List.mem_of_mem_take hy)); rw [List.length_take] at this; have := M4.out; rw [Hid]; omega
   have X4 := Lib.hid x4
   have XRH := Lib.hid XR
   clear hx hrx hpF hpb XR x4
   go_upto_region 10 with (fail)
   refine lbeg (opsOf Try.f35 10) ?_
   refine lnow 0 (.bool (decide ((i : Int) < (M : Int)))) (some 48) ?_
   rw [decide_eq_true c1]
   refine ldn 1 ?_
   generalize hact : Act.put _ (some 48) _ = act
   simp only [Act.put, sA, sC, sZ] at hact
   subst hact
   obtain ⟨z, hz⟩ : ∃ z, Hid (wr.heap.size = z) := ⟨_, rfl⟩
   go_upto_region 11 with (fail)
   refine lbeg (opsOf Try.f35 11) ?_
   refine lix 0 (.pointer (some ⟨pb, po + 5 * i, none⟩)) (some 49) 22 45 47 (run_at_lv pb po M lc i hlt _) ?_
   refine lrl 1 (ints .i64 x.zs) (some 50) 80 49 pb (po + 5 * i) RX.out Try.underlying80 (lvSize X4.out) ?_
   refine lin_alloc 2 80 (ints .i64 z5) (z) (some 6) (by kernel_rfl) (by kernel_rfl) (by kernel_rfl) zeroLv hz ?_
   intro w3 b3 be3 hs3
   refine lput 3 80 (.tmp 6) (.tmp 50) (z) _ (ints .i64 z5) (ints .i64 x.zs) b3 ((Lv.zlen X4.out)) (lvSize X4.out) (ints_oneCell _ _) ?_
   intro w4 b4 u4
   refine ldn 4 ?_
   generalize hact : Act.put _ none _ = act
   simp only [Act.put, sA, sC, sZ] at hact
   subst hact
   have B34 : Below wr.heap.size wr w4 := by rw [hz.out]; exact u4.below be3 (Nat.le_refl _) (by have := hs3.out; omega)
   have BZ := Lib.hid b4
   have RB4 := Lib.hid (RB.out.below B34)
   have ST4 := Lib.hid (ST.out.on B34)
   have MR4 : Hid (m ≤ w4.heap.size) := Nat.le_trans MR.out B34.size
   clear b3 be3 hs3 b4 u4 B34 RX
   go_upto_region 12 with (fail)
   refine lbeg (opsOf Try.f35 12) ?_
   refine lnow 0 (v') (some 51) ?_
   refine lrl 1 (ints .i64 x.zs) (some 52) 80 6 z 0 BZ.out.whole Try.underlying80 (lvSize X4.out) ?_
   refine lcal 2 65 #[v', .agg (ints .i64 x.zs).toArray] (some 53) _ (appLevel_walk x X4.out XRH.out v' (zs ++ H ++ lvsB (ls.take i)) m w4 RB4.out MR4.out (by have := HB.out; have := HL.out; have := LL.out; simp only [List.length_append]; omega)) ?_
   rintro e w5 ⟨v5, rfl, r5, s5⟩
   refine ⟨_, rfl, ?_⟩
   refine lnow 3 (v5) (some 0) ?_
   refine ldn 4 ?_
   generalize hact : Act.put _ (some 0) _ = act
   simp only [Act.put, sA, sC, sZ] at hact
   subst hact
   have RB5 : Hid (RowB m w5 v5 (zs ++ H ++ lvsB (ls.take (i + 1)))) := by rw [Hid, TK.out, lvsB_snoc, ← List.append_assoc]; exact r5
   have ST5 := Lib.hid (ST4.out.trans s5)
   clear r5 s5 TK RB4 ST4 BZ hz
   have m4 := M4.out
   go_wp2
   go_roundw
   case rel => exact ⟨i + 1, v5, by omega, by go_num, rfl, RB5, ST5⟩
   case measure => simp [intOf]; omega
  obtain rfl : i = M := by omega
  have c1 : ¬ ((i : Int) < (i : Int)) := by omega
  have TA : ls.take i = ls := List.take_of_length_le (by have := hM.out; omega)
  rw [TA] at RB
  have BQ2 : Hid (Blk wr q 25 CS) := ST.out.blk BQ.out NQ.out
  have LVL : Hid ((lvsB ls).length = 5 * i) := by have := LVT.out; rw [LvT] at this; rw [Hid, lvsB_len this.1, hM.out]
  go_upto_region 10 with (fail)
  refine lbeg (opsOf Try.f35 10) ?_
  refine lnow 0 (.bool (decide ((i : Int) < (i : Int)))) (some 48) ?_
  rw [decide_eq_false c1]
  refine ldn 1 ?_
  generalize hact : Act.put _ (some 48) _ = act
  simp only [Act.put, sA, sC, sZ] at hact
  subst hact
  go_upto_region 14 with (fail)
  refine lbeg (opsOf Try.f35 14) ?_
  refine lnow 0 (.pointer (some ⟨q, 4, none⟩)) (some 55) ?_
  refine lcl 1 (.slice aa A ac) (some 56) 23 55 (q) 4 (BQ2.out.cell (by rw [← hCS.out]; rfl)) Try.underlying23 ?_
  refine lnow 2 (.int .i64 (A : Int)) (some 57) ?_
  refine lnow 3 (.int .i64 0) (some 58) ?_
  refine ldn 4 ?_
  generalize hact : Act.put _ (some 58) _ = act
  simp only [Act.put, sA, sC, sZ] at hact
  subst hact
  clear BQ2 TA
  obtain ⟨wo, hwo⟩ : ∃ y, Hid (wr = y) := ⟨_, rfl⟩
  rw [hwo.out] at RB ST ⊢
  go_wp2
  go_loopw [0, 58] (fun vv jv wr => ∃ (j : Nat) (v' : Value), j ≤ A ∧ jv = .int .i64 (j : Int) ∧ v' = vv ∧ Hid (RowB m wr v' (zs ++ H ++ lvsB ls ++ termsB (a.take j))) ∧ Hid (Step (ownL v) w1 (ownL v') wr)) (fun _ jv _ => A - (intOf jv).toNat)
  case atStart => exact ⟨0, _, Nat.zero_le _, rfl, rfl, by rw [List.take_zero, termsB, List.append_nil]; exact RB, ST⟩
  case round =>
   clear RB ST MR
   obtain ⟨j, v2', hj, rfl, rfl, RB, ST⟩ := hrel
   have MR : Hid (m ≤ wr.heap.size) := Nat.le_trans M1.out ST.out.size
   by_cases hlt2 : j < A
   ·skip
    have c2 : (j : Int) < (A : Int) := by omega
    obtain ⟨x, pb, po, cx, hx, hxm, haa, hpF, hpb, -, hrx, htx⟩ := TS1.out.get hA.out hlt2
    subst haa
    have RX : Hid (wr.rangeAt pb (po + 5 * j) cx) := ST.out.range hpb (fun hc => hpF (HF.out _ hc)) hrx
    have TX : Hid (TmAt (F ++ ownL v2') wr x cx) := TmAt.step (ST.out.wide HF.out) _ _ htx
    have X5 := Lib.hid htx.len
    have X1 := Lib.hid htx.one
    have TK : Hid (a.take (j + 1) = a.take j ++ [x]) := by rw [Hid, List.take_add_one, hx]; rfl
    have XO := Lib.hid (OK.out x hxm)
    have SUM : Hid ((termsB (a.take j)).length + 60 * nodesT x ≤ 60 * NA) := by
     have e1 := termsB_len (ts := a.take j) (fun y hy => termB_len y (OK.out y (List.mem_of_mem_take hy)) (TmsAt_lv_mem TS1.out (List.mem_of_mem_take hy)))
     have e2 := nodesTs_app (a.take (j + 1)) (a.drop (j + 1))
     rw [List.take_append_drop, TK.out, nodesTs_app, nodesTs_cons, nodesTs, hNA.out] at e2
     rw [Hid]; omega
    have CALL := IH.out x hxm
    clear hx hrx hpF hpb htx hxm
    go_upto_region 15 with (fail)
    refine lbeg (opsOf Try.f35 15) ?_
    refine lnow 0 (.bool (decide ((j : Int) < (A : Int)))) (some 59) ?_
    rw [decide_eq_true c2]
    refine ldn 1 ?_
    generalize hact : Act.put _ (some 59) _ = act
    simp only [Act.put, sA, sC, sZ] at hact
    subst hact
    obtain ⟨z, hz⟩ : ∃ z, Hid (wr.heap.size = z) := ⟨_, rfl⟩
    go_upto_region 16 with (fail)
    refine lbeg (opsOf Try.f35 16) ?_
    refine lix 0 (.pointer (some ⟨pb, po + 5 * j, none⟩)) (some 60) 23 56 58 (run_at_tm pb po A ac j hlt2 _) ?_
    refine lrl 1 cx (some 61) 25 60 pb (po + 5 * j) RX.out Try.underlying25 (t5Size X5.out) ?_
    refine lall 2 25 z5T (z) (some 8) hz ?_
    intro w3 bw3 bew3 hsw3
    refine lput 3 25 (.tmp 8) (.tmp 61) (z) _ (z5T) (cx) bw3 (X5.out.trans (rfl : z5T.length = 5).symm) (t5Size X5.out) (by simpa using X1.out) ?_
    intro w4 bw4 uw4
    refine ldn 4 ?_
    generalize hact : Act.put _ none _ = act
    simp only [Act.put, sA, sC, sZ] at hact
    subst hact
    have B34 : Below wr.heap.size wr w4 := by rw [hz.out]; exact uw4.below bew3 (Nat.le_refl _) (by have := hsw3.out; omega)
    have BZ := Lib.hid bw4
    have RB4 := Lib.hid (RB.out.below B34)
    have ST4 := Lib.hid (ST.out.on B34)
    have MR4 : Hid (m ≤ w4.heap.size) := Nat.le_trans MR.out B34.size
    have TX4 := Lib.hid (TX.out.below B34)
    clear bw3 bew3 hsw3 bw4 uw4 B34 RX TX
    go_upto_region 17 with (fail)
    refine lbeg (opsOf Try.f35 17) ?_
    refine lnow 0 (v2') (some 62) ?_
    refine lrl 1 (cx) (some 63) 25 8 (z) 0 (BZ.out).whole Try.underlying25 (t5Size X5.out) ?_
    refine lcal 2 35 #[v2', .agg cx.toArray] (some 64) _ (CALL cx v2' (zs ++ H ++ lvsB ls ++ termsB (a.take j)) m w4 (F ++ ownL v2') TX4.out XO.out RB4.out MR4.out (fun k hk => List.mem_append_right _ hk) (by have := HB.out; have := HL.out; have := LVL.out; have := SUM.out; simp only [List.length_append]; omega)) ?_
    rintro e w5 ⟨v5, rfl, r5, s5⟩
    refine ⟨_, rfl, ?_⟩
    refine lnow 3 (v5) (some 0) ?_
    refine ldn 4 ?_
    generalize hact : Act.put _ (some 0) _ = act
    simp only [Act.put, sA, sC, sZ] at hact
    subst hact
    have RB5 : Hid (RowB m w5 v5 (zs ++ H ++ lvsB ls ++ termsB (a.take (j + 1)))) := by rw [Hid, TK.out, termsB_append, termsB_one, ← List.append_assoc]; exact r5
    have ST5 := Lib.hid (ST4.out.trans s5)
    clear r5 s5 TK RB4 ST4 BZ hz CALL TX4 SUM
    have a3 := A3.out
    go_wp2
    go_roundw
    case rel => exact ⟨j + 1, v5, by omega, by go_num, rfl, RB5, ST5⟩
    case measure => simp [intOf]; omega
   obtain rfl : j = A := by omega
   have c2 : ¬ ((j : Int) < (j : Int)) := by omega
   have TA : a.take j = a := List.take_of_length_le (by have := hA.out; omega)
   rw [TA] at RB
   go_upto_region 15 with (fail)
   refine lbeg (opsOf Try.f35 15) ?_
   refine lnow 0 (.bool (decide ((j : Int) < (j : Int)))) (some 59) ?_
   rw [decide_eq_false c2]
   refine ldn 1 ?_
   generalize hact : Act.put _ (some 59) _ = act
   simp only [Act.put, sA, sC, sZ] at hact
   subst hact
   go_upto_region 19 with (fail)
   refine lbeg (opsOf Try.f35 19) ?_
   refine lnow 0 (v2') (some 66) ?_
   refine lnow 1 (v2') (some 4) ?_
   refine ldn 2 ?_
   generalize hact : Act.put _ (some 4) _ = act
   simp only [Act.put, sA, sC, sZ] at hact
   subst hact
   have FIN : Hid (RowB m wr v2' (zs ++ (H ++ (lvsB ls ++ termsB a)))) := by have := RB.out; rw [List.append_assoc, List.append_assoc] at this; exact this
   have STF := Lib.hid (Step.after BE.out ST.out)
   clear RB ST TA
   go_wp2
   go_ret
   exact ⟨v2', rfl, FIN.out, STF.out⟩
end Go.Proofs.Yteohjbggicchgaa
