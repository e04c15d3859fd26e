/- Levels as the parser reads them. -/
import Derived.Test.YtdacmogedchnaaaQGenT
import Derived.Test.YtdacmogedchnaaaQPrsD
import Derived.Test.YtdacmogedchnaaaQPrsL
namespace Go.Proofs.Ytdacmogedchnaaa
open Go Go.RowKit
set_option maxRecDepth 100000
section
variable {ops : Array Oper} {Q : Exit → Act → World → Prop} {a : Act} {w : World}
/-- A call of the parser's own: it falls, and so does the caller; or what follows is read of what is left. -/
theorem lin_callPP {β γ : Type} {K : Nat → Nat} {q : Nat} {o : PR β} {R : β → Value → World → World → Prop} {k : β → List (List UInt8) → PR γ} {oo : PR γ} (i : Nat) (f : FuncId) (args : Array Value) (d : Option Tmp) (hi : (ops[i]?.isSome && Region.wanted (opAt ops i) (yielded ops a.tmps)) = true) (hd : (opAt ops i).dst = d)
    (hrun : (execOp a.eval (opAt ops i)).run Try.prog w = .ok (.enter f args) w) (hc : Calls Try.prog f args w (PP K q o R w)) (EQ : Hid (PR.bind o k = oo))
    (he : ∀ (p c : Nat) (w' : World), Bel [q] w.heap.size w w' → .err p c = oo → Q (.panic [{ v := .iface 74 (.agg #[.int .i64 (K p : Int), .int .i64 (c : Int)]), recovered := false }]) a w')
    (h : ∀ (x : β) (l : List (List UInt8)) (v : Value) (w' : World), o = .ok x l → Hid (k x l = oo) → Bel [q] w.heap.size w w' → R x v w w' → PAt K q w' l → wpFrom Try.prog ops Q (i + 1) (a.put d v) w') : wpFrom Try.prog ops Q i a w := by
  refine lin_callP i f args d _ hi hd hrun hc ?_
  rintro e w' ⟨hb, hr⟩
  cases o with
  | err p c =>
    obtain rfl : e = fellP (K p : Int) (c : Int) := hr
    exact .inr ⟨_, rfl, he p c w' hb EQ.out⟩
  | ok x l =>
    obtain ⟨v, rfl, hv, hp⟩ := hr
    exact .inl ⟨v, rfl, h x l v w' rfl EQ hb hv hp⟩
end
theorem PR.bind_id {α : Type} (o : PR α) : PR.bind o .ok = o := by cases o <;> rfl
theorem PR.tail {α : Type} {o oo : PR α} (h : Hid (o = oo)) : Hid (PR.bind o .ok = oo) := (PR.bind_id o).trans h.out
theorem Bel.one {q : Nat} {w w' : World} (h : Bel [q] w.heap.size w w') {m : Nat} (hq : q < m) : Step (List.range m) w (List.range m) w' := h.step (Nat.le_refl _) (fun k hk => by rw [List.mem_singleton.1 hk]; exact List.mem_range.2 hq)
theorem RwAt.call {K : Nat → Nat} {m q : Nat} {w w' : World} {t : Rw} {cs : List Value} (h : RwAt K (List.range m) w t cs) (hb : Bel [q] w.heap.size w w') (hq : q < m) : RwAt K (List.range m) w' t cs := RwAt.step (hb.one hq) t cs h
theorem RwAt.low {K : Nat → Nat} {m : Nat} {w w' : World} {t : Rw} {cs : List Value} (h : RwAt K (List.range m) w t cs) (hb : Below w.heap.size w w') : RwAt K (List.range m) w' t cs := h.below hb
theorem RwAt.updS {K : Nat → Nat} {m b : Nat} {w w' : World} {t : Rw} {cs : List Value} (h : RwAt K (List.range m) w t cs) (hu : Upd b w w') (hb : b < m) : RwAt K (List.range m) w' t cs := RwAt.step (Step.of_upd hu (List.mem_range.2 hb)) t cs h
theorem LvsN.updS {m b : Nat} {w w' : World} {v : Value} {n : Nat} (h : LvsN (List.range m) w v n) (hu : Upd b w w') (hb : b < m) : LvsN (List.range m) w' v n := h.step (Step.of_upd hu (List.mem_range.2 hb))
/-- Rows. -/
theorem RowG.call {α : Type} {P : List Nat → World → α → List Value → Prop} {sz : Nat} (hP : PredG P sz) {ty : TypeId} {m q : Nat} {w w' : World} {v : Value} {xs : List α} (h : RowG P sz ty m w v xs) (hb : Bel [q] w.heap.size w w') (hq : q < m) : RowG P sz ty m w' v xs := h.step hP (F := [q]) (hb.step (Nat.le_refl _) (fun k hk => hk)) (fun k hk => by rw [List.mem_singleton.1 hk]; exact hq)
theorem RowG.low {α : Type} {P : List Nat → World → α → List Value → Prop} {sz : Nat} (hP : PredG P sz) {ty : TypeId} {m : Nat} {w w' : World} {v : Value} {xs : List α} (h : RowG P sz ty m w v xs) (hb : Below w.heap.size w w') : RowG P sz ty m w' v xs := h.step hP (F := []) (Step.of_below hb (Nat.le_refl _)) (fun k hk => by cases hk)
theorem RowG.one {α : Type} {P : List Nat → World → α → List Value → Prop} {sz : Nat} (hP : PredG P sz) {ty : TypeId} {m g : Nat} {w : World} {x : α} {cs : List Value} (hb : Blk w g ty cs) (hx : P (List.range m ++ [g]) w x cs) (hm : m ≤ g) : RowG P sz ty m w (.slice (some ⟨g, 0, none⟩) 1 1) [x] := by
 have hl := hP.len hx
 refine ⟨[cs], ⟨by simp [hl], .inr ⟨g, 1, cs.toArray, rfl, hm, hb, Nat.le_refl _, by unfold maxLen; omega, by simp [hl], ?_⟩⟩, hx, trivial⟩
 rw [List.flatten_cons, List.flatten_nil, List.append_nil, List.length_singleton, Nat.one_mul, ← hl]
 exact List.take_length
/-- A slice of one is made and appended to a row. -/
theorem lin_rowG {α : Type} {P : List Nat → World → α → List Value → Prop} {sz : Nat} (hP : PredG P sz) {ops : Array Oper} {Q : Exit → Act → World → Prop} {a : Act} {w : World} (ty sty : TypeId) {z : Value} {by0 : Nat} (hinfo : (Try.prog.info? ty).map (fun i => (i.zero, i.size, i.bytes)) = some (some z, sz, by0)) (hund : Try.prog.underlying sty = some (.slice ty))
    (hzc : z.cells.size = sz) (hsz : 0 < sz) (hby : 0 < by0) (hby1 : by0 ≤ 1000)
    (i : Nat) (d1 d2 : Option Tmp) (x : α) (cs : List Value) (v : Value) (xs : List α) (m : Nat) (h : RowG P sz ty m w v xs) (hx : P (List.range m ++ ownL v) w x cs) (hn : xs.length ≤ 1000000) (hm : m ≤ w.heap.size)
    (hi : (ops[i]?.isSome && Region.wanted (opAt ops i) (yielded ops a.tmps)) = true) (hd : (opAt ops i).dst = d1) (hr1 : execOp a.eval (opAt ops i) = (Instr.buildSlice sty 1 #[(0, .agg cs.toArray)] >>= fun x => pure (.value x)))
    (hmk : ∀ w : World, (Instr.buildSlice sty 1 #[(0, .agg cs.toArray)]).run Try.prog w = .ok (.slice (some ⟨w.heap.size, 0, none⟩) 1 1) (w.alloc (.cells cs.toArray ty)))
    (hk : ∀ q : Nat, (ops[i + 1]?.isSome && Region.wanted (opAt ops (i + 1)) (yielded ops (a.put d1 (.slice (some ⟨q, 0, none⟩) 1 1)).tmps)) = true) (hd2 : (opAt ops (i + 1)).dst = d2)
    (hr2 : ∀ q : Nat, execOp (a.put d1 (.slice (some ⟨q, 0, none⟩) 1 1)).eval (opAt ops (i + 1)) = (Builtin.append_ #[sty, sty] sty #[v, .slice (some ⟨q, 0, none⟩) 1 1] >>= fun x => pure (.value x)))
    (hq : ∀ (q : Nat) v' w', RowG P sz ty m w' v' (xs ++ [x]) → Below m w w' → wpFrom Try.prog ops Q (i + 1 + 1) ((a.put d1 (.slice (some ⟨q, 0, none⟩) 1 1)).put d2 v') w') : wpFrom Try.prog ops Q i a w := by
  obtain ⟨i0, hi0, hz0, hz1, hz2⟩ := info_parts hinfo
  have hb : Below w.heap.size w (w.alloc (.cells cs.toArray ty)) := (Below.refl _ _).alloc (Nat.le_refl _) _
  have hs : Step (List.range m ++ ownL v) w (List.range m ++ ownL v) (w.alloc (.cells cs.toArray ty)) := Step.of_below hb (Nat.le_refl _)
  refine lin_value i (.slice (some ⟨w.heap.size, 0, none⟩) 1 1) d1 (w.alloc (.cells cs.toArray ty)) hi hd (exec_of _ _ hr1 (hmk w)) ?_
  obtain ⟨v', w', e1, e2, e3, -⟩ := RowG.append hP hund hi0 hz0 hz1 hz2 hzc hsz hby (RowG.low hP h hb) (Blk.new w ty cs) (hP.step hs _ _ hx) (Nat.le_trans (Nat.mul_le_mul (Nat.succ_le_succ hn) hby1) (by decide)) hby1 (Nat.le_trans hm hb.size)
  refine lin_value (i + 1) v' d2 w' (hk _) hd2 (exec_of _ _ (hr2 _) e1) (hq _ v' w' e2 ?_)
  exact (hb.mono hm).grown e3 (Nat.le_trans hm hb.size) (fun k hk => (h.own k hk).1)
/-- A level's five cells. -/
def LvP (_ : List Nat) (_ : World) (l : Lv) (cs : List Value) : Prop := cs = ints .i64 l.zs ∧ l.p.length = 4
theorem lvG : PredG LvP 5 := ⟨fun _ _ _ h => h, fun _ _ _ h => h, fun h => by rw [h.1, ints_length, Lv.zs, List.length_cons, h.2], fun h => by rw [h.1]; exact ints_one _ _⟩
abbrev LvRow (m : Nat) (w : World) (v : Value) (ls : List Lv) : Prop := RowG LvP 5 94 m w v ls
theorem SlG.lvs {F : List Nat} {w : World} {v : Value} {ls : List Lv} (h : SlG LvP 5 F w v ls) (hl : ls.length ≤ 1000000) : LvsN F w v ls.length := by
 obtain ⟨a, cap, h1, h2, h3⟩ := h
 refine ⟨ls, rfl, a, cap, h1, h2, by omega, fun l hl => ?_, fun hp => ?_⟩
 ·obtain ⟨i, hi, e⟩ := List.getElem_of_mem hl
  obtain ⟨pb, po, -, -, -, hr⟩ := h3 (by omega)
  obtain ⟨cs, -, hc⟩ := hr i l (by rw [List.getElem?_eq_getElem hi, e])
  exact hc.2
 ·obtain ⟨pb, po, e, hF, hb, hr⟩ := h3 hp
  exact ⟨pb, po, e, hF, hb, fun i l hi => by obtain ⟨cs, hc, rfl, -⟩ := hr i l hi; exact hc⟩
theorem LvsN.in {F : List Nat} {w : World} {v : Value} {n : Nat} (h : LvsN F w v n) (hn : n ≤ 1000000) : ∃ ls, ls.length = n ∧ LvsIn w v ls := by
 obtain ⟨ls, rfl, a, cap, h1, h2, h3, h4, h5⟩ := h
 refine ⟨ls, rfl, a, cap, h1, h2, by omega, h4, fun hp => ?_⟩
 obtain ⟨pb, po, e, hF, hb, hr⟩ := h5 hp
 exact ⟨pb, po, e, hb, hr⟩
def RLev (_ : Unit) (v : Value) (_ _ : World) : Prop := ∃ l : Lv, v = .agg (ints .i64 l.zs).toArray ∧ l.p.length = 4
theorem RLev.of {x : Unit} {l : Lv} {w w' : World} (h : l.p.length = 4) : RLev x (.agg (ints .i64 l.zs).toArray) w w' := ⟨l, rfl, h⟩
def parL (k : Nat) (n : Int) : Lv := if 0 ≤ n ∧ n ≤ 100 then ⟨n, [-1, -1, -1, -1].set k n⟩ else numL (-1)
theorem parL_len (k : Nat) (n : Int) : (parL k n).p.length = 4 := by unfold parL; split <;> simp [numL]
theorem parL_right {k n : Nat} (hk : k < 4) : rightL (parL k n) = decide (n ≤ 100) := by
 unfold parL
 by_cases h : n ≤ 100
 ·rw [if_pos ⟨by omega, by omega⟩, decide_eq_true h]
  refine right_mk (by dsimp only; omega) (by dsimp only; omega) fun x hx => ?_
  rcases List.mem_or_eq_of_mem_set hx with hx | hx
  ·simp at hx
   dsimp only
   omega
  ·dsimp only
   omega
 ·rw [if_neg (by omega), decide_eq_false h]
  rfl
theorem numL_right (n : Nat) : rightL (numL (n : Int)) = decide (n ≤ 100) := by
 by_cases h : n ≤ 100
 ·rw [right_num (by omega) (by omega), decide_eq_true h]
 ·rw [decide_eq_false h, rightL, show decide ((numL (n : Int)).b ≤ 100) = false from decide_eq_false (by show ¬ (n : Int) ≤ 100; omega), Bool.and_false, Bool.false_and]
theorem parL_put {k : Nat} (hk : k < 4) (n : Int) : (ints .i64 (numL n).zs).set (1 + k) (.int .i64 n) = ints .i64 (⟨n, [-1, -1, -1, -1].set k n⟩ : Lv).zs := by
 match k, hk with
 | 0, _ => rfl
 | 1, _ => rfl
 | 2, _ => rfl
 | 3, _ => rfl
theorem infoLvP : (Try.prog.info? 94).map (fun i => (i.zero, i.size, i.bytes)) = some (some (.agg #[.int .i64 0, .int .i64 0, .int .i64 0, .int .i64 0, .int .i64 0]), 5, 40) := by kernel_rfl
theorem us4_idx {s : List UInt8} (h : s ∈ us4) : ∃ k : Nat, k < 4 ∧ idxFrom s 0 us4 = (k : Int) := by
 simp only [us4, List.mem_cons, List.not_mem_nil, or_false] at h
 rcases h with rfl | rfl | rfl | rfl
 ·exact ⟨0, by decide, by decide⟩
 ·exact ⟨1, by decide, by decide⟩
 ·exact ⟨2, by decide, by decide⟩
 ·exact ⟨3, by decide, by decide⟩
theorem us4_no {s : List UInt8} (h : ¬ s ∈ us4) : idxFrom s 0 us4 = -1 := idx_none us4 0 h
theorem sizeIntP : (Try.prog.info? 3).map (·.size) = some 1 := by kernel_rfl
set_option maxHeartbeats 4000000 in
theorem param_walk (k : Nat) (hk : k < 4) (n : Int) (w : World) : Calls Try.prog 77 #[.int .i64 (k : Int), .int .i64 n] w fun e w' => e = .returned (.agg (ints .i64 (parL k n).zs).toArray) ∧ Below w.heap.size w w' := by
 obtain ⟨B, hB⟩ : ∃ B, Hid (w.heap.size = B) := ⟨_, rfl⟩
 rw [hB.out]
 go_enter Try.func77, Try.ntmps77
 go_upto_region 0 with (fail)
 refine lbeg (opsOf Try.f77 0) ?_
 refine lin_alloc 0 94 (ints .i64 z5) (B) (some 4) (by kernel_rfl) (by kernel_rfl) (by kernel_rfl) zeroLv hB ?_
 intro w1 b1 e1 s1
 refine ldn 1 ?_
 generalize hact : Act.put _ (some 4) _ = act
 simp only [Act.put, sA, sC, sZ] at hact
 subst hact
 have BR := Lib.hid b1
 have BE : Hid (Below B w w1) := e1
 have SZ : Hid (w1.heap.size = B + 1) := s1
 clear b1 e1 s1
 have hk0 : ¬ (k : Int) < 0 := by omega
 have hk1 : ¬ (k : Int) ≥ 4 := by omega
 go_upto_region 1 with (fail)
 refine lbeg (opsOf Try.f77 1) ?_
 refine lnow 0 (.int .i64 (k : Int)) (some 6) ?_
 refine lnow 1 (.bool (decide ((k : Int) < 0))) (some 7) ?_
 rw [decide_eq_false hk0]
 refine lnow 2 (.bool false) (some 8) ?_
 refine lnow 3 (.int .i64 (k : Int)) (some 9) ?_
 refine lnow 4 (.bool (decide ((k : Int) ≥ 4))) (some 10) ?_
 rw [decide_eq_false hk1]
 refine lnow 5 (.bool false) (some 11) ?_
 refine lnow 6 (.bool false) (some 12) ?_
 refine lnow 7 (.int .i64 n) (some 13) ?_
 by_cases hn : 0 ≤ n ∧ n ≤ 100
 rotate_left
 ·skip
  refine lcal 8 81 #[.int .i64 n] (some 14) _ (inb_no n w1 (by omega)) ?_
  rintro e w' ⟨rfl, rfl⟩
  refine ⟨_, rfl, ?_⟩
  refine lnow 9 (.bool true) (some 15) ?_
  refine lnow 10 (.bool true) (some 16) ?_
  refine ldn 11 ?_
  generalize hact : Act.put _ (some 16) _ = act
  simp only [Act.put, sA, sC, sZ] at hact
  subst hact
  go_upto_region 2 with (fail)
  refine lbeg (opsOf Try.f77 2) ?_
  refine lcal 0 76 #[.int .i64 (-1)] (some 17) _ (num_walk (-1) w1) ?_
  rintro e w2 ⟨rfl, hb⟩
  refine ⟨_, rfl, ?_⟩
  refine lput 1 94 (.tmp 4) (.tmp 17) (B) _ (ints .i64 z5) (ints .i64 (numL (-1)).zs) (BR.out.below hb BR.out.lt) rfl (lvSize (l := numL (-1)) rfl) (ints_oneCell _ _) ?_
  intro w3 b3 u3
  refine ldn 2 ?_
  generalize hact : Act.put _ none _ = act
  simp only [Act.put, sA, sC, sZ] at hact
  subst hact
  have EPL : Hid (parL k n = numL (-1)) := if_neg hn
  have FIN : Hid (Below B w w3) := u3.below (BE.out.trans (hb.mono (by have := SZ.out; omega))) (Nat.le_refl _) (by have := hb.size; have := SZ.out; omega)
  have HB := Lib.hid b3
  clear b3 u3 hb
  go_wp2
  refine bodyPost_ret (v := .agg (ints .i64 (numL (-1)).zs).toArray) ?_ rfl ⟨by rw [EPL.out], FIN.out⟩
  exact results_cell_row (g := B) (t := 94) (cs := (ints .i64 (numL (-1)).zs).toArray) (fr := (0, 0)) Try.results77 _ _ _ rfl HB.out Try.underlying94 rfl (by rw [List.size_toArray]; exact lvSize ((rfl : (numL (-1)).p.length = 4)))
 refine lcal 8 81 #[.int .i64 n] (some 14) _ (inb_yes n w1 hn.1 hn.2) ?_
 rintro e w' ⟨rfl, rfl⟩
 refine ⟨_, rfl, ?_⟩
 refine lnow 9 (.bool false) (some 15) ?_
 refine lnow 10 (.bool false) (some 16) ?_
 refine ldn 11 ?_
 generalize hact : Act.put _ (some 16) _ = act
 simp only [Act.put, sA, sC, sZ] at hact
 subst hact
 go_upto_region 3 with (fail)
 refine lbeg (opsOf Try.f77 3) ?_
 refine lnow 0 (.int .i64 n) (some 18) ?_
 refine lcal 1 76 #[.int .i64 n] (some 19) _ (num_walk n w1) ?_
 rintro e w2 ⟨rfl, hb⟩
 refine ⟨_, rfl, ?_⟩
 obtain ⟨z, hz⟩ : ∃ z, Hid (w2.heap.size = z) := ⟨_, rfl⟩
 have BZ : Hid (B < z) := by have := hb.size; have := SZ.out; have := hz.out; rw [Hid]; omega
 have BR2 := Lib.hid (BR.out.below hb BR.out.lt)
 have BE2 : Hid (Below B w w2) := BE.out.trans (hb.mono (by have := SZ.out; omega))
 clear hb
 refine lin_alloc 2 94 (ints .i64 z5) (z) (some 5) (by kernel_rfl) (by kernel_rfl) (by kernel_rfl) zeroLv hz ?_
 intro w3 b3 e3 s3
 refine lput 3 94 (.tmp 5) (.tmp 19) (z) _ (ints .i64 z5) (ints .i64 (numL n).zs) b3 rfl (lvSize (l := numL n) rfl) (ints_oneCell _ _) ?_
 intro w4 b4 u4
 refine ldn 4 ?_
 generalize hact : Act.put _ none _ = act
 simp only [Act.put, sA, sC, sZ] at hact
 subst hact
 have B34 : Below z w2 w4 := u4.below e3 (Nat.le_refl _) (by have := b3.lt; omega)
 have bz := BZ.out
 have BR4 := Lib.hid (BR2.out.below B34 (by omega))
 have BE4 : Hid (Below B w w4) := BE2.out.trans (B34.mono (by omega))
 have BZ4 := Lib.hid b4
 clear b3 e3 s3 b4 u4 B34 bz hz
 go_upto_region 4 with (fail)
 refine lbeg (opsOf Try.f77 4) ?_
 refine lnow 0 (.int .i64 (k : Int)) (some 20) ?_
 refine lnow 1 (.int .i64 n) (some 21) ?_
 refine lnow 2 (.pointer (some ⟨z, 1, none⟩)) (some 22) ?_
 refine lix 3 (.pointer (some ⟨z, 1 + k, none⟩)) (some 23) 92 22 20 (run_at_arr4 z 1 k hk _) ?_
 refine lin_putF 4 (1 + k) 3 (.tmp 23) (.tmp 21) z 94 (ints .i64 (numL n).zs) (.int .i64 n) (by kernel_rfl) (by kernel_rfl) (by kernel_rfl) (by kernel_rfl) (by kernel_rfl) BZ4.out (by rw [ints_length]; show 1 + k < 5; omega) sizeIntP rfl rfl ?_
 intro w5 b5 u5
 rw [parL_put hk n] at b5
 refine ldn 5 ?_
 generalize hact : Act.put _ none _ = act
 simp only [Act.put, sA, sC, sZ] at hact
 subst hact
 have bz := BZ.out
 obtain ⟨L, hL⟩ : ∃ L, Hid ((⟨n, [-1, -1, -1, -1].set k n⟩ : Lv) = L) := ⟨_, rfl⟩
 rw [hL.out] at b5
 have L4 : Hid (L.p.length = 4) := by rw [Hid, ← hL.out]; simp
 have EPL : Hid (parL k n = L) := (if_pos hn).trans hL.out
 have BZ5 := Lib.hid b5
 have BR5 := Lib.hid (u5.blk BR4.out (by omega))
 have BE5 : Hid (Below B w w5) := u5.below BE4.out (by omega) (by have := BR4.out.lt; omega)
 clear b5 u5 BZ4 BR4 BE4 bz hL
 go_upto_region 5 with (fail)
 refine lbeg (opsOf Try.f77 5) ?_
 refine lrl 0 (ints .i64 L.zs) (some 24) 94 5 z 0 BZ5.out.whole Try.underlying94 (lvSize L4.out) ?_
 refine lput 1 94 (.tmp 4) (.tmp 24) (B) _ (ints .i64 z5) (ints .i64 L.zs) BR5.out (Lv.zlen L4.out) (lvSize L4.out) (ints_oneCell _ _) ?_
 intro w6 b6 u6
 refine ldn 2 ?_
 generalize hact : Act.put _ none _ = act
 simp only [Act.put, sA, sC, sZ] at hact
 subst hact
 have FIN : Hid (Below B w w6) := u6.below BE5.out (Nat.le_refl _) (by have := BR5.out.lt; omega)
 have HB := Lib.hid b6
 clear b6 u6
 go_wp2
 refine bodyPost_ret (v := .agg (ints .i64 (L).zs).toArray) ?_ rfl ⟨by rw [EPL.out], FIN.out⟩
 exact results_cell_row (g := B) (t := 94) (cs := (ints .i64 (L).zs).toArray) (fr := (0, 0)) Try.results77 _ _ _ rfl HB.out Try.underlying94 rfl (by rw [List.size_toArray]; exact lvSize (L4.out))
set_option maxHeartbeats 4000000 in
theorem rightP_walk (K : Nat → Nat) (q : Nat) (w : World) (r : List (List UInt8)) (h : PAt K q w r) (lv : Lv) (hl : lv.p.length = 4) (n p : Nat) (hr : rightL lv = decide (n ≤ 100)) : Calls Try.prog 75 #[.agg (ints .i64 lv.zs).toArray, .int .i64 (K p : Int)] w (PP K q (rightP1 n p r) RLev w) := by
 have HL := Lib.hid hl
 have HR := Lib.hid hr
 clear hl hr
 obtain ⟨B, hB⟩ : ∃ B, Hid (w.heap.size = B) := ⟨_, rfl⟩
 have RD := Lib.hid h
 have QB : Hid (q < B) := by rw [← hB.out]; exact h.lt
 have BB : Hid (Bel [q] B w w) := Bel.refl _ _ _
 have SZ : Hid (B ≤ w.heap.size) := by rw [Hid, hB.out]; exact Nat.le_refl _
 clear h
 go_enter Try.func75, Try.ntmps75
 go_upto_region 0 with (fail)
 refine lbeg (opsOf Try.f75 0) ?_
 refine lbox 0 94 (.tmp 0) (ints .i64 lv.zs) (B) (some 2) hB ?_
 intro w1 b1 e1 s1
 refine lin_alloc 1 94 (ints .i64 z5) (B + 1) (some 4) (by kernel_rfl) (by kernel_rfl) (by kernel_rfl) zeroLv s1 ?_
 intro w2 b2 e2 s2
 refine ldn 2 ?_
 generalize hact : Act.put _ (some 4) _ = act
 simp only [Act.put, sA, sC, sZ] at hact
 subst hact
 have B0 := Lib.hid (b1.below e2 (by omega))
 have BR := Lib.hid b2
 have E12 : Below B w w2 := e1.trans (e2.mono (by omega))
 replace RD := Lib.hid (RD.out.below E12 QB.out)
 replace BB : Hid (Bel [q] B w w2) := Bel.of E12
 replace SZ : Hid (w2.heap.size = B + 1 + 1) := s2
 clear b1 e1 s1 b2 e2 s2 E12
 go_upto_region 1 with (fail)
 refine lbeg (opsOf Try.f75 1) ?_
 refine lrl 0 (ints .i64 lv.zs) (some 5) 94 2 B 0 B0.out.whole Try.underlying94 (lvSize HL.out) ?_
 refine lcal 1 79 #[.agg (ints .i64 lv.zs).toArray] (some 6) _ (right_walk lv HL.out w2) ?_
 rintro e w3 ⟨rfl, hb⟩
 refine ⟨_, rfl, ?_⟩
 rw [HR.out]
 replace B0 := Lib.hid (B0.out.below hb B0.out.lt)
 replace BR := Lib.hid (BR.out.below hb BR.out.lt)
 replace RD := Lib.hid (RD.out.below hb RD.out.lt)
 replace BB := Lib.hid (BB.out.trans (Bel.of (hb.mono (by have := SZ.out; omega))))
 clear hb SZ
 by_cases hn : n ≤ 100
 rotate_left
 ·skip
  rw [decide_eq_false hn]
  refine lnow 2 (.bool true) (some 7) ?_
  refine ldn 3 ?_
  generalize hact : Act.put _ (some 7) _ = act
  simp only [Act.put, sA, sC, sZ] at hact
  subst hact
  go_upto_region 2 with (fail)
  refine lbeg (opsOf Try.f75 2) ?_
  refine lnow 0 (.int .i64 (K p : Int)) (some 8) ?_
  refine lnow 1 (.agg #[.int .i64 (K p : Int), .int .i64 21]) (some 9) ?_
  refine lnow 2 (.iface 74 (.agg #[.int .i64 (K p : Int), .int .i64 21])) (some 10) ?_
  refine lin_panic 3 (.iface 74 (.agg #[.int .i64 (K p : Int), .int .i64 21])) (by kernel_rfl) (by kernel_rfl) ?_
  exact ⟨rfl, PP.no (by rw [hB.out]; exact BB.out) (by rw [rightP1, if_neg hn])⟩
 rw [decide_eq_true hn]
 refine lnow 2 (.bool false) (some 7) ?_
 refine ldn 3 ?_
 generalize hact : Act.put _ (some 7) _ = act
 simp only [Act.put, sA, sC, sZ] at hact
 subst hact
 go_upto_region 3 with (fail)
 refine lbeg (opsOf Try.f75 3) ?_
 refine lrl 0 (ints .i64 lv.zs) (some 11) 94 2 B 0 B0.out.whole Try.underlying94 (lvSize HL.out) ?_
 refine lput 1 94 (.tmp 4) (.tmp 11) (B + 1) _ (ints .i64 z5) (ints .i64 lv.zs) BR.out (Lv.zlen HL.out) (lvSize HL.out) (ints_oneCell _ _) ?_
 intro w5 b5 u5
 refine ldn 2 ?_
 generalize hact : Act.put _ none _ = act
 simp only [Act.put, sA, sC, sZ] at hact
 subst hact
 have FIN : Hid (PP K q (rightP1 n p r) RLev w (.returned (.agg (ints .i64 lv.zs).toArray)) w5) := PP.yes (by rw [hB.out]; exact BB.out.newBlk u5 (by omega) (by have := BR.out.lt; omega)) (by rw [rightP1, if_pos hn]) (RLev.of HL.out) (RD.out.upd u5 (by have := QB.out; omega))
 have HB := Lib.hid b5
 clear b5 u5
 go_wp2
 refine bodyPost_ret (v := .agg (ints .i64 lv.zs).toArray) ?_ rfl FIN.out
 exact results_cell_row (g := B + 1) (t := 94) (cs := (ints .i64 lv.zs).toArray) (fr := (0, 0)) Try.results75 _ _ _ rfl HB.out Try.underlying94 rfl (by rw [List.size_toArray]; exact lvSize HL.out)
set_option maxHeartbeats 8000000 in
theorem part_walk (K : Nat → Nat) (q : Nat) (w : World) (l : List (List UInt8)) (h : PAt K q w l) (sums : Bool) : Calls Try.prog 72 #[.pointer (some ⟨q, 0, none⟩), .bool sums] w (PP K q (partP sums l) RLev w) := by
 obtain ⟨oo, hoo⟩ : ∃ oo, Hid (partP sums l = oo) := ⟨_, rfl⟩
 rw [hoo.out]
 have EQ := hoo
 clear hoo
 unfold partP at EQ
 obtain ⟨B, hB⟩ : ∃ B, Hid (w.heap.size = B) := ⟨_, rfl⟩
 have RD := Lib.hid h
 have QB : Hid (q < B) := by rw [← hB.out]; exact h.lt
 have BB : Hid (Bel [q] B w w) := Bel.refl _ _ _
 have SZ : Hid (B ≤ w.heap.size) := by rw [Hid, hB.out]; exact Nat.le_refl _
 clear h
 go_enter Try.func72, Try.ntmps72
 go_upto_region 0 with (fail)
 refine lbeg (opsOf Try.f72 0) ?_
 refine lin_alloc 0 94 (ints .i64 z5) (B) (some 4) (by kernel_rfl) (by kernel_rfl) (by kernel_rfl) zeroLv hB ?_
 intro w1 bx ex sx
 replace RD := Lib.hid (RD.out.below ex QB.out)
 replace BB : Hid (Bel [q] B w w1) := Bel.of ex
 replace SZ : Hid (B ≤ w1.heap.size) := Nat.le_of_lt bx.lt
 have BR := Lib.hid bx
 clear bx ex sx
 refine ldn 1 ?_
 generalize hact : Act.put _ (some 4) _ = act
 simp only [Act.put, sA, sC, sZ] at hact
 subst hact
 go_upto_region 1 with (fail)
 refine lbeg (opsOf Try.f72 1) ?_
 refine lnow 0 (.pointer (some ⟨q, 0, none⟩)) (some 8) ?_
 refine lcal 1 35 #[.pointer (some ⟨q, 0, none⟩)] (some 9) _ (at_walk K q w1 l RD.out) ?_
 rintro e w' ⟨rfl, hw'⟩
 obtain rfl := hw'.symm
 refine ⟨_, rfl, ?_⟩
 refine lnow 2 (.int .i64 (K l.length : Int)) (some 5) ?_
 refine ldn 3 ?_
 generalize hact : Act.put _ (some 5) _ = act
 simp only [Act.put, sA, sC, sZ] at hact
 subst hact
 go_upto_region 2 with (fail)
 refine lbeg (opsOf Try.f72 2) ?_
 obtain ⟨z, hz⟩ : ∃ z, Hid (w1.heap.size = z) := ⟨_, rfl⟩
 have oz : Hid (B ≤ z) := by rw [Hid, ← hz.out]; exact SZ.out
 have ozBR : Hid (B < z) := by rw [Hid, ← hz.out]; exact BR.out.lt
 refine lin_str4 0 [117, 48] [117, 49] [117, 50] [117, 51] z (some 10) (by kernel_rfl) (by kernel_rfl) (by kernel_rfl) hz ?_
 intro w2 hn hb
 have IW := index_walk [[117, 48], [117, 49], [117, 50], [117, 51]] (nx l) _ w2 hn (by decide)
 rw [show ([[117, 48], [117, 49], [117, 50], [117, 51]] : List (List UInt8)) = us4 from rfl] at IW
 rw [← hz.out] at hb
 replace BR := Lib.hid (BR.out.below hb BR.out.lt)
 replace RD := Lib.hid (RD.out.below hb RD.out.lt)
 replace BB := Lib.hid (BB.out.trans (Bel.of (hb.mono SZ.out)))
 replace SZ := Lib.hid (Nat.le_trans SZ.out hb.size)
 clear hn hb hz
 refine lnow 1 (.pointer (some ⟨q, 0, none⟩)) (some 11) ?_
 refine lcal 2 39 #[.pointer (some ⟨q, 0, none⟩)] (some 12) _ (text_walk K q w2 l RD.out) ?_
 rintro e w' ⟨rfl, hw'⟩
 obtain rfl := hw'.symm
 refine ⟨_, rfl, ?_⟩
 refine lcal 3 74 #[.slice (some ⟨z, 0, none⟩) 4 4, sT (nx l)] (some 13) _ (IW) ?_
 rintro e w' ⟨rfl, hw'⟩
 obtain rfl := hw'.symm
 refine ⟨_, rfl, ?_⟩
 clear IW
 by_cases hu : nx l ∈ us4
 rotate_left
 ·skip
  rw [us4_no hu]
  rw [if_neg hu] at EQ
  refine lnow 4 (.int .i64 (-1)) (some 6) ?_
  refine ldn 5 ?_
  generalize hact : Act.put _ (some 6) _ = act
  simp only [Act.put, sA, sC, sZ] at hact
  subst hact
  go_upto_region 3 with (fail)
  refine lbeg (opsOf Try.f72 3) ?_
  refine lnow 0 (.int .i64 (-1)) (some 14) ?_
  refine lnow 1 (.bool true) (some 15) ?_
  refine ldn 2 ?_
  generalize hact : Act.put _ (some 15) _ = act
  simp only [Act.put, sA, sC, sZ] at hact
  subst hact
  go_upto_region 4 with (fail)
  refine lbeg (opsOf Try.f72 4) ?_
  refine lnow 0 (.pointer (some ⟨q, 0, none⟩)) (some 16) ?_
  refine lin_callPP 1 60 #[.pointer (some ⟨q, 0, none⟩)] (some 17) (by kernel_rfl) (by kernel_rfl) (by kernel_rfl) (number_walk K q w2 l RD.out) EQ (fun p c w' hb ho => ⟨rfl, PP.no (by rw [hB.out]; exact BB.out.trans (hb.mono SZ.out)) ho⟩) ?_
  intro x l4 vv w3 hx EQ1 hb hv hp
  replace EQ := EQ1
  clear EQ1
  obtain rfl : vv = .int .i64 (x : Int) := hv
  clear hx
  replace BR := Lib.hid (bel_keep hb BR.out (by have := QB.out; have := oz.out; have := ozBR.out; omega) BR.out.lt)
  replace BB := Lib.hid (BB.out.trans (hb.mono SZ.out))
  replace SZ := Lib.hid (Nat.le_trans SZ.out hb.size)
  replace RD := Lib.hid hp
  clear hb hp
  refine lcal 2 76 #[.int .i64 (x : Int)] (some 18) _ (num_walk (x : Int) w3) ?_
  rintro e w5 ⟨rfl, hb⟩
  refine ⟨_, rfl, ?_⟩
  replace BR := Lib.hid (BR.out.below hb BR.out.lt)
  replace RD := Lib.hid (RD.out.below hb RD.out.lt)
  replace BB := Lib.hid (BB.out.trans (Bel.of (hb.mono SZ.out)))
  replace SZ := Lib.hid (Nat.le_trans SZ.out hb.size)
  clear hb
  refine lnow 3 (.int .i64 (K l.length : Int)) (some 19) ?_
  replace EQ := PR.tail EQ
  refine lin_callPP 4 75 #[.agg (ints .i64 (numL (x : Int)).zs).toArray, .int .i64 (K l.length : Int)] (some 20) (by kernel_rfl) (by kernel_rfl) (by kernel_rfl) (rightP_walk K q w5 l4 RD.out (numL (x : Int)) rfl x l.length (numL_right x)) EQ (fun p c w' hb ho => ⟨rfl, PP.no (by rw [hB.out]; exact BB.out.trans (hb.mono SZ.out)) ho⟩) ?_
  intro y l7 vv w6 hx EQ1 hb hv hp
  replace EQ := EQ1
  clear EQ1
  obtain ⟨lv, rfl, h4⟩ := hv
  have H4 := Lib.hid h4
  clear h4
  clear hx
  replace BR := Lib.hid (bel_keep hb BR.out (by have := QB.out; have := oz.out; have := ozBR.out; omega) BR.out.lt)
  replace BB := Lib.hid (BB.out.trans (hb.mono SZ.out))
  replace SZ := Lib.hid (Nat.le_trans SZ.out hb.size)
  replace RD := Lib.hid hp
  clear hb hp
  refine lput 5 94 (.tmp 4) (.tmp 20) (B) _ (ints .i64 z5) (ints .i64 (lv).zs) BR.out (Lv.zlen H4.out) (lvSize H4.out) (ints_oneCell _ _) ?_
  intro w99 b99 u99
  refine ldn 6 ?_
  generalize hact : Act.put _ none _ = act
  simp only [Act.put, sA, sC, sZ] at hact
  subst hact
  have FIN : Hid (PP K q oo RLev w (.returned (.agg (ints .i64 (lv).zs).toArray)) w99) := PP.yes (by rw [hB.out]; exact BB.out.newBlk u99 (Nat.le_refl _) SZ.out) EQ.out (RLev.of H4.out) (RD.out.upd u99 QB.out)
  have HB := Lib.hid b99
  clear b99 u99
  go_wp2
  refine bodyPost_ret (v := .agg (ints .i64 (lv).zs).toArray) ?_ rfl FIN.out
  exact results_cell_row (g := B) (t := 94) (cs := (ints .i64 (lv).zs).toArray) (fr := (0, 0)) Try.results72 _ _ _ rfl HB.out Try.underlying94 rfl (by rw [List.size_toArray]; exact lvSize H4.out)
 obtain ⟨k, hk, hik⟩ := us4_idx hu
 rw [hik]
 rw [if_pos hu] at EQ
 refine lnow 4 (.int .i64 (k : Int)) (some 6) ?_
 refine ldn 5 ?_
 generalize hact : Act.put _ (some 6) _ = act
 simp only [Act.put, sA, sC, sZ] at hact
 subst hact
 go_upto_region 3 with (fail)
 refine lbeg (opsOf Try.f72 3) ?_
 refine lnow 0 (.int .i64 (k : Int)) (some 14) ?_
 refine lnow 1 (.bool (decide ((k : Int) < 0))) (some 15) ?_
 rw [decide_eq_false (by omega : ¬ (k : Int) < 0)]
 refine ldn 2 ?_
 generalize hact : Act.put _ (some 15) _ = act
 simp only [Act.put, sA, sC, sZ] at hact
 subst hact
 obtain ⟨l1, hl1⟩ : ∃ y, Hid (l.tail = y) := ⟨_, rfl⟩
 rw [hl1.out] at EQ
 obtain ⟨s, hs⟩ : ∃ s, Hid (l = s :: l1) := by obtain ⟨s, r, e⟩ := RD.out.nx_ne (us4_ne hu); exact ⟨s, by rw [Hid, ← hl1.out, e]; rfl⟩
 go_upto_region 5 with (fail)
 refine lbeg (opsOf Try.f72 5) ?_
 refine lnow 0 (.pointer (some ⟨q, 0, none⟩)) (some 21) ?_
 refine lcal 1 48 #[.pointer (some ⟨q, 0, none⟩)] (some 22) _ (take_walk K q w2 s l1 (by rw [← hs.out]; exact RD.out)) ?_
 rintro e w3 ⟨rfl, hp, hu2⟩
 refine ⟨_, rfl, ?_⟩
 have hb : Bel [q] w2.heap.size w2 w3 := (Bel.refl _ _ _).upd hu2 (.inl (by simp)) (Nat.le_refl _)
 clear hu2
 replace BR := Lib.hid (bel_keep hb BR.out (by have := QB.out; have := oz.out; have := ozBR.out; omega) BR.out.lt)
 replace BB := Lib.hid (BB.out.trans (hb.mono SZ.out))
 replace SZ := Lib.hid (Nat.le_trans SZ.out hb.size)
 replace RD := Lib.hid hp
 clear hb hp
 refine ldn 2 ?_
 generalize hact : Act.put _ (some 22) _ = act
 simp only [Act.put, sA, sC, sZ] at hact
 subst hact
 go_upto_region 6 with (fail)
 refine lbeg (opsOf Try.f72 6) ?_
 refine lnow 0 (.int .i64 0) (some 7) ?_
 refine ldn 1 ?_
 generalize hact : Act.put _ (some 7) _ = act
 simp only [Act.put, sA, sC, sZ] at hact
 subst hact
 by_cases hsu : sums = true
 rotate_left
 ·skip
  obtain rfl : sums = false := by simpa using hsu
  rw [if_neg (fun hc => hsu hc.1), PR.bind_ok] at EQ
  go_upto_region 7 with (fail)
  refine lbeg (opsOf Try.f72 7) ?_
  refine lnow 0 (.bool false) (some 23) ?_
  refine lnow 1 (.bool false) (some 24) ?_
  refine lpas 2 (some 25) ?_
  refine lpas 3 (some 26) ?_
  refine lnow 4 (.bool false) (some 27) ?_
  refine ldn 5 ?_
  generalize hact : Act.put _ (some 27) _ = act
  simp only [Act.put, sA, sC, sZ] at hact
  subst hact
  go_upto_region 9 with (fail)
  refine lbeg (opsOf Try.f72 9) ?_
  refine lnow 0 (.int .i64 (k : Int)) (some 30) ?_
  refine lnow 1 (.int .i64 0) (some 31) ?_
  refine lcal 2 77 #[.int .i64 (k : Int), .int .i64 0] (some 32) _ (param_walk k hk ((0 : Nat) : Int) w3) ?_
  rintro e w4 ⟨rfl, hb⟩
  refine ⟨_, rfl, ?_⟩
  replace BR := Lib.hid (BR.out.below hb BR.out.lt)
  replace RD := Lib.hid (RD.out.below hb RD.out.lt)
  replace BB := Lib.hid (BB.out.trans (Bel.of (hb.mono SZ.out)))
  replace SZ := Lib.hid (Nat.le_trans SZ.out hb.size)
  clear hb
  refine lnow 3 (.int .i64 (K l.length : Int)) (some 33) ?_
  replace EQ := PR.tail EQ
  refine lin_callPP 4 75 #[.agg (ints .i64 (parL k ((0 : Nat) : Int)).zs).toArray, .int .i64 (K l.length : Int)] (some 34) (by kernel_rfl) (by kernel_rfl) (by kernel_rfl) (rightP_walk K q w4 l1 RD.out (parL k ((0 : Nat) : Int)) (parL_len _ _) 0 l.length (parL_right hk)) EQ (fun p c w' hb ho => ⟨rfl, PP.no (by rw [hB.out]; exact BB.out.trans (hb.mono SZ.out)) ho⟩) ?_
  intro y l6 vv w5 hx EQ1 hb hv hp
  replace EQ := EQ1
  clear EQ1
  obtain ⟨lv, rfl, h4⟩ := hv
  have H4 := Lib.hid h4
  clear h4
  clear hx
  replace BR := Lib.hid (bel_keep hb BR.out (by have := QB.out; have := oz.out; have := ozBR.out; omega) BR.out.lt)
  replace BB := Lib.hid (BB.out.trans (hb.mono SZ.out))
  replace SZ := Lib.hid (Nat.le_trans SZ.out hb.size)
  replace RD := Lib.hid hp
  clear hb hp
  refine lput 5 94 (.tmp 4) (.tmp 34) (B) _ (ints .i64 z5) (ints .i64 (lv).zs) BR.out (Lv.zlen H4.out) (lvSize H4.out) (ints_oneCell _ _) ?_
  intro w99 b99 u99
  refine ldn 6 ?_
  generalize hact : Act.put _ none _ = act
  simp only [Act.put, sA, sC, sZ] at hact
  subst hact
  have FIN : Hid (PP K q oo RLev w (.returned (.agg (ints .i64 (lv).zs).toArray)) w99) := PP.yes (by rw [hB.out]; exact BB.out.newBlk u99 (Nat.le_refl _) SZ.out) EQ.out (RLev.of H4.out) (RD.out.upd u99 QB.out)
  have HB := Lib.hid b99
  clear b99 u99
  go_wp2
  refine bodyPost_ret (v := .agg (ints .i64 (lv).zs).toArray) ?_ rfl FIN.out
  exact results_cell_row (g := B) (t := 94) (cs := (ints .i64 (lv).zs).toArray) (fr := (0, 0)) Try.results72 _ _ _ rfl HB.out Try.underlying94 rfl (by rw [List.size_toArray]; exact lvSize H4.out)
 subst hsu
 by_cases hpl : nx l1 = [43]
 rotate_left
 ·skip
  rw [if_neg (fun hc => hpl hc.2), PR.bind_ok] at EQ
  go_upto_region 7 with (fail)
  refine lbeg (opsOf Try.f72 7) ?_
  refine lnow 0 (.bool true) (some 23) ?_
  refine lnow 1 (.bool true) (some 24) ?_
  refine lnow 2 (.pointer (some ⟨q, 0, none⟩)) (some 25) ?_
  refine lcal 3 50 #[.pointer (some ⟨q, 0, none⟩), sT [43]] (some 26) _ (accept_no K q w3 l1 RD.out [43] hpl) ?_
  rintro e w' ⟨rfl, hw'⟩
  obtain rfl := hw'.symm
  refine ⟨_, rfl, ?_⟩
  refine lnow 4 (.bool false) (some 27) ?_
  refine ldn 5 ?_
  generalize hact : Act.put _ (some 27) _ = act
  simp only [Act.put, sA, sC, sZ] at hact
  subst hact
  go_upto_region 9 with (fail)
  refine lbeg (opsOf Try.f72 9) ?_
  refine lnow 0 (.int .i64 (k : Int)) (some 30) ?_
  refine lnow 1 (.int .i64 0) (some 31) ?_
  refine lcal 2 77 #[.int .i64 (k : Int), .int .i64 0] (some 32) _ (param_walk k hk ((0 : Nat) : Int) w3) ?_
  rintro e w4 ⟨rfl, hb⟩
  refine ⟨_, rfl, ?_⟩
  replace BR := Lib.hid (BR.out.below hb BR.out.lt)
  replace RD := Lib.hid (RD.out.below hb RD.out.lt)
  replace BB := Lib.hid (BB.out.trans (Bel.of (hb.mono SZ.out)))
  replace SZ := Lib.hid (Nat.le_trans SZ.out hb.size)
  clear hb
  refine lnow 3 (.int .i64 (K l.length : Int)) (some 33) ?_
  replace EQ := PR.tail EQ
  refine lin_callPP 4 75 #[.agg (ints .i64 (parL k ((0 : Nat) : Int)).zs).toArray, .int .i64 (K l.length : Int)] (some 34) (by kernel_rfl) (by kernel_rfl) (by kernel_rfl) (rightP_walk K q w4 l1 RD.out (parL k ((0 : Nat) : Int)) (parL_len _ _) 0 l.length (parL_right hk)) EQ (fun p c w' hb ho => ⟨rfl, PP.no (by rw [hB.out]; exact BB.out.trans (hb.mono SZ.out)) ho⟩) ?_
  intro y l6 vv w5 hx EQ1 hb hv hp
  replace EQ := EQ1
  clear EQ1
  obtain ⟨lv, rfl, h4⟩ := hv
  have H4 := Lib.hid h4
  clear h4
  clear hx
  replace BR := Lib.hid (bel_keep hb BR.out (by have := QB.out; have := oz.out; have := ozBR.out; omega) BR.out.lt)
  replace BB := Lib.hid (BB.out.trans (hb.mono SZ.out))
  replace SZ := Lib.hid (Nat.le_trans SZ.out hb.size)
  replace RD := Lib.hid hp
  clear hb hp
  refine lput 5 94 (.tmp 4) (.tmp 34) (B) _ (ints .i64 z5) (ints .i64 (lv).zs) BR.out (Lv.zlen H4.out) (lvSize H4.out) (ints_oneCell _ _) ?_
  intro w99 b99 u99
  refine ldn 6 ?_
  generalize hact : Act.put _ none _ = act
  simp only [Act.put, sA, sC, sZ] at hact
  subst hact
  have FIN : Hid (PP K q oo RLev w (.returned (.agg (ints .i64 (lv).zs).toArray)) w99) := PP.yes (by rw [hB.out]; exact BB.out.newBlk u99 (Nat.le_refl _) SZ.out) EQ.out (RLev.of H4.out) (RD.out.upd u99 QB.out)
  have HB := Lib.hid b99
  clear b99 u99
  go_wp2
  refine bodyPost_ret (v := .agg (ints .i64 (lv).zs).toArray) ?_ rfl FIN.out
  exact results_cell_row (g := B) (t := 94) (cs := (ints .i64 (lv).zs).toArray) (fr := (0, 0)) Try.results72 _ _ _ rfl HB.out Try.underlying94 rfl (by rw [List.size_toArray]; exact lvSize H4.out)
 rw [if_pos ⟨rfl, hpl⟩] at EQ
 go_upto_region 7 with (fail)
 refine lbeg (opsOf Try.f72 7) ?_
 refine lnow 0 (.bool true) (some 23) ?_
 refine lnow 1 (.bool true) (some 24) ?_
 refine lnow 2 (.pointer (some ⟨q, 0, none⟩)) (some 25) ?_
 refine lcal 3 50 #[.pointer (some ⟨q, 0, none⟩), sT [43]] (some 26) _ (accept_yes K q w3 l1 RD.out [43] hpl (by decide)) ?_
 rintro e w4 ⟨rfl, hb, hp⟩
 refine ⟨_, rfl, ?_⟩
 obtain ⟨l5, hl5⟩ : ∃ y, Hid (l1.tail = y) := ⟨_, rfl⟩
 rw [hl5.out] at hp
 try rw [hl5.out] at EQ
 replace BR := Lib.hid (bel_keep hb BR.out (by have := QB.out; have := oz.out; have := ozBR.out; omega) BR.out.lt)
 replace BB := Lib.hid (BB.out.trans (hb.mono SZ.out))
 replace SZ := Lib.hid (Nat.le_trans SZ.out hb.size)
 replace RD := Lib.hid hp
 clear hb hp
 refine lnow 4 (.bool true) (some 27) ?_
 refine ldn 5 ?_
 generalize hact : Act.put _ (some 27) _ = act
 simp only [Act.put, sA, sC, sZ] at hact
 subst hact
 go_upto_region 8 with (fail)
 refine lbeg (opsOf Try.f72 8) ?_
 refine lnow 0 (.pointer (some ⟨q, 0, none⟩)) (some 28) ?_
 refine lin_callPP 1 60 #[.pointer (some ⟨q, 0, none⟩)] (some 29) (by kernel_rfl) (by kernel_rfl) (by kernel_rfl) (number_walk K q w4 l5 RD.out) EQ (fun p c w' hb ho => ⟨rfl, PP.no (by rw [hB.out]; exact BB.out.trans (hb.mono SZ.out)) ho⟩) ?_
 intro x l7 vv w6 hx EQ1 hb hv hp
 replace EQ := EQ1
 clear EQ1
 obtain rfl : vv = .int .i64 (x : Int) := hv
 clear hx
 replace BR := Lib.hid (bel_keep hb BR.out (by have := QB.out; have := oz.out; have := ozBR.out; omega) BR.out.lt)
 replace BB := Lib.hid (BB.out.trans (hb.mono SZ.out))
 replace SZ := Lib.hid (Nat.le_trans SZ.out hb.size)
 replace RD := Lib.hid hp
 clear hb hp
 refine lnow 2 (.int .i64 (x : Int)) (some 7) ?_
 refine ldn 3 ?_
 generalize hact : Act.put _ (some 7) _ = act
 simp only [Act.put, sA, sC, sZ] at hact
 subst hact
 go_upto_region 9 with (fail)
 refine lbeg (opsOf Try.f72 9) ?_
 refine lnow 0 (.int .i64 (k : Int)) (some 30) ?_
 refine lnow 1 (.int .i64 (x : Int)) (some 31) ?_
 refine lcal 2 77 #[.int .i64 (k : Int), .int .i64 (x : Int)] (some 32) _ (param_walk k hk ((x : Nat) : Int) w6) ?_
 rintro e w8 ⟨rfl, hb⟩
 refine ⟨_, rfl, ?_⟩
 replace BR := Lib.hid (BR.out.below hb BR.out.lt)
 replace RD := Lib.hid (RD.out.below hb RD.out.lt)
 replace BB := Lib.hid (BB.out.trans (Bel.of (hb.mono SZ.out)))
 replace SZ := Lib.hid (Nat.le_trans SZ.out hb.size)
 clear hb
 refine lnow 3 (.int .i64 (K l.length : Int)) (some 33) ?_
 replace EQ := PR.tail EQ
 refine lin_callPP 4 75 #[.agg (ints .i64 (parL k ((x : Nat) : Int)).zs).toArray, .int .i64 (K l.length : Int)] (some 34) (by kernel_rfl) (by kernel_rfl) (by kernel_rfl) (rightP_walk K q w8 l7 RD.out (parL k ((x : Nat) : Int)) (parL_len _ _) x l.length (parL_right hk)) EQ (fun p c w' hb ho => ⟨rfl, PP.no (by rw [hB.out]; exact BB.out.trans (hb.mono SZ.out)) ho⟩) ?_
 intro y l10 vv w9 hx EQ1 hb hv hp
 replace EQ := EQ1
 clear EQ1
 obtain ⟨lv, rfl, h4⟩ := hv
 have H4 := Lib.hid h4
 clear h4
 clear hx
 replace BR := Lib.hid (bel_keep hb BR.out (by have := QB.out; have := oz.out; have := ozBR.out; omega) BR.out.lt)
 replace BB := Lib.hid (BB.out.trans (hb.mono SZ.out))
 replace SZ := Lib.hid (Nat.le_trans SZ.out hb.size)
 replace RD := Lib.hid hp
 clear hb hp
 refine lput 5 94 (.tmp 4) (.tmp 34) (B) _ (ints .i64 z5) (ints .i64 (lv).zs) BR.out (Lv.zlen H4.out) (lvSize H4.out) (ints_oneCell _ _) ?_
 intro w99 b99 u99
 refine ldn 6 ?_
 generalize hact : Act.put _ none _ = act
 simp only [Act.put, sA, sC, sZ] at hact
 subst hact
 have FIN : Hid (PP K q oo RLev w (.returned (.agg (ints .i64 (lv).zs).toArray)) w99) := PP.yes (by rw [hB.out]; exact BB.out.newBlk u99 (Nat.le_refl _) SZ.out) EQ.out (RLev.of H4.out) (RD.out.upd u99 QB.out)
 have HB := Lib.hid b99
 clear b99 u99
 go_wp2
 refine bodyPost_ret (v := .agg (ints .i64 (lv).zs).toArray) ?_ rfl FIN.out
 exact results_cell_row (g := B) (t := 94) (cs := (ints .i64 (lv).zs).toArray) (fr := (0, 0)) Try.results72 _ _ _ rfl HB.out Try.underlying94 rfl (by rw [List.size_toArray]; exact lvSize H4.out)
end Go.Proofs.Ytdacmogedchnaaa
