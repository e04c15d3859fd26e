import Derived.Test.YteohjbggicchgaaKCodS
import Derived.Deep.CutBlock
import Derived.Test.YteohjbggicchgaaKGenT
namespace Go.Proofs.Yteohjbggicchgaa
open Go Go.RowKit
set_option maxRecDepth 100000
-- heads
theorem headP_1a {l : List Int} (h : numP l = none) : headP 1 l = none := by unfold headP; simp [h]
theorem headP_1b {l r : List Int} {n : Int} (h : numP l = some (n, r)) : headP 1 l = some ((n, [], 0, 0), r) := by unfold headP; simp [h]
theorem headP_3 {l : List Int} : headP 3 l = some ((0, [], 1, 0), l) := by unfold headP; simp
theorem headP_4a {l : List Int} (h : textP l = none) : headP 4 l = none := by unfold headP; simp [h]
theorem headP_4b {l : List Int} {s : List UInt8} (h : textP l = some (s, [])) : headP 4 l = none := by unfold headP; simp [h, smallP]
theorem headP_4c {l r : List Int} {s : List UInt8} {c : Int} (h : textP l = some (s, c :: r)) : headP 4 l = some ((0, s, c.toNat, 0), r) := by unfold headP; simp [h, smallP]
theorem headP_5 {k : Int} {l : List Int} (h : k = 5 ∨ k = 6 ∨ k = 7) : headP k l = some ((0, [], 0, 2), l) := by rcases h with rfl | rfl | rfl <;> (unfold headP; simp)
theorem headP_8 {l : List Int} : headP 8 l = some ((0, [], 0, 3), l) := by unfold headP; simp
theorem headP_9a {l : List Int} (h : numP l = none) : headP 9 l = none := by unfold headP; simp [h]
theorem headP_9b {l r : List Int} {n : Int} (h : numP l = some (n, r)) (h2 : textP r = none) : headP 9 l = none := by unfold headP; simp [h, h2]
theorem headP_9c {l r r2 : List Int} {n : Int} {s : List UInt8} (h : numP l = some (n, r)) (h2 : textP r = some (s, r2)) : headP 9 l = some ((n, s, 0, 1), r2) := by unfold headP; simp [h, h2]
theorem headP_0 {k : Int} {l : List Int} (h1 : ¬ k = 1) (h3 : ¬ k = 3) (h4 : ¬ k = 4) (h5 : ¬ k = 5) (h6 : ¬ k = 6) (h7 : ¬ k = 7) (h8 : ¬ k = 8) (h9 : ¬ k = 9) : headP k l = some ((0, [], 0, 0), l) := by
 unfold headP
 rw [if_neg h1, if_neg h3, if_neg h4, if_neg (fun h => h.elim h5 (fun h => h.elim h6 h7)), if_neg h8, if_neg h9]
-- nodes
theorem nodeP_zero : ∀ (f : Nat) (l : List Int), nodeP f (0, l) = none
 | 0, _ => rfl
 | f + 1, l => by rw [nodeP, if_pos rfl]
theorem nodeP_at (f m : Nat) (b : Int) (l : List Int) : nodeP (f + 1) (m + 1, b :: l) = match headP b l with
    | none => none
    | some ((n, s, c, a), l2) => match timesP levelP c l2 with
      | none => none
      | some (ls, l3) => match timesP (nodeP f) a (m, l3) with
        | none => none
        | some (as', s4) => some (.mk b n s ls as', s4) := by
  rw [nodeP, if_neg (Nat.succ_ne_zero m)]
  rfl
theorem nodeP_nil (f m : Nat) : nodeP (f + 1) (m + 1, []) = none := by
 rw [nodeP, if_neg (Nat.succ_ne_zero m)]
 rfl
theorem nodeP_h {f m : Nat} {b : Int} {l : List Int} (h : headP b l = none) : nodeP (f + 1) (m + 1, b :: l) = none := by rw [nodeP_at, h]
theorem nodeP_l {f m c a : Nat} {b n : Int} {s : List UInt8} {l l2 : List Int} (h : headP b l = some ((n, s, c, a), l2)) (h2 : timesP levelP c l2 = none) : nodeP (f + 1) (m + 1, b :: l) = none := by
 rw [nodeP_at, h]
 dsimp only
 rw [h2]
theorem nodeP_a {f m c a : Nat} {b n : Int} {s : List UInt8} {l l2 l3 : List Int} {ls : List Lv} (h : headP b l = some ((n, s, c, a), l2)) (h2 : timesP levelP c l2 = some (ls, l3)) (h3 : timesP (nodeP f) a (m, l3) = none) : nodeP (f + 1) (m + 1, b :: l) = none := by
 rw [nodeP_at, h]
 dsimp only
 rw [h2]
 dsimp only
 rw [h3]
theorem nodeP_y {f m c a : Nat} {b n : Int} {s : List UInt8} {l l2 l3 : List Int} {ls : List Lv} {ts : List Tm} {s4 : Nat × List Int} (h : headP b l = some ((n, s, c, a), l2)) (h2 : timesP levelP c l2 = some (ls, l3)) (h3 : timesP (nodeP f) a (m, l3) = some (ts, s4)) : nodeP (f + 1) (m + 1, b :: l) = some (.mk b n s ls ts, s4) := by
 rw [nodeP_at, h]
 dsimp only
 rw [h2]
 dsimp only
 rw [h3]
theorem timesP_room {α : Type} {p : Nat × List Int → Option (α × (Nat × List Int))} (hp : ∀ s x s', p s = some (x, s') → s'.1 ≤ s.1) : ∀ {c : Nat} {s s' : Nat × List Int} {xs : List α}, timesP p c s = some (xs, s') → s'.1 ≤ s.1
 | 0, s, s', xs, h => by
  simp only [timesP, Option.some.injEq, Prod.mk.injEq] at h
  rw [h.2]
  exact Nat.le_refl _
 | c + 1, s, s', xs, h => by
  rw [timesP] at h
  cases h1 : p s with
  | none => rw [h1] at h; cases h
  | some y =>
   obtain ⟨x, s1⟩ := y
   rw [h1] at h
   dsimp only at h
   cases h2 : timesP p c s1 with
   | none => rw [h2] at h; cases h
   | some y2 =>
    obtain ⟨ys, s2⟩ := y2
    rw [h2] at h
    simp only [Option.some.injEq, Prod.mk.injEq] at h
    rw [← h.2]
    exact Nat.le_trans (timesP_room hp h2) (hp _ _ _ h1)
theorem nodeP_room : ∀ (f : Nat) (s : Nat × List Int) (t : Tm) (s' : Nat × List Int), nodeP f s = some (t, s') → s'.1 ≤ s.1
 | 0, _, _, _, h => by simp [nodeP] at h
 | f + 1, (0, l), t, s', h => by rw [nodeP_zero] at h; cases h
 | f + 1, (m + 1, []), t, s', h => by rw [nodeP_nil] at h; cases h
 | f + 1, (m + 1, b :: l), t, s', h => by
  rw [nodeP_at] at h
  cases h1 : headP b l with
  | none => rw [h1] at h; cases h
  | some y =>
   obtain ⟨⟨n, s, c, a⟩, l2⟩ := y
   rw [h1] at h
   dsimp only at h
   cases h2 : timesP levelP c l2 with
   | none => rw [h2] at h; cases h
   | some y =>
    obtain ⟨ls, l3⟩ := y
    rw [h2] at h
    dsimp only at h
    cases h3 : timesP (nodeP f) a (m, l3) with
    | none => rw [h3] at h; cases h
    | some y =>
     obtain ⟨ts, s4⟩ := y
     rw [h3] at h
     simp only [Option.some.injEq, Prod.mk.injEq] at h
     rw [← h.2]
     have := timesP_room (nodeP_room f) h3
     dsimp only at this ⊢
     omega
def NdP (q : Nat) (o : Option (Tm × (Nat × List Int))) (w : World) (e : Ending) (w' : World) : Prop :=
 Bel [q] w.heap.size w w' ∧ match o with
 | none => e = fellF
 | some (t, s) => ∃ cs, e = .returned (.agg cs.toArray) ∧ TmAt (List.range w.heap.size) w' t cs ∧ RdAt q w' s.2 s.1
theorem NdP.no {q : Nat} {o : Option (Tm × (Nat × List Int))} {w w' : World} (h : Bel [q] w.heap.size w w') (ho : o = none) : NdP q o w fellF w' := by
 subst ho
 exact ⟨h, rfl⟩
theorem NdP.yes {q m : Nat} {o : Option (Tm × (Nat × List Int))} {t : Tm} {l : List Int} {w w' : World} {cs : List Value} (h : Bel [q] w.heap.size w w') (ho : o = some (t, (m, l))) (ht : TmAt (List.range w.heap.size) w' t cs) (hl : RdAt q w' l m) : NdP q o w (.returned (.agg cs.toArray)) w' := by
 subst ho
 exact ⟨h, cs, rfl, ht, hl⟩
structure NSt (q B : Nat) (w0 : World) (zc : List Value) (z : Nat) (l : List Int) (m : Nat) (wr : World) : Prop where
 bt : Blk wr z 25 zc
 br : Blk wr B 25 z5T
 rd : RdAt q wr l m
 be : Bel [q] B w0 wr
 qb : q < B
 bz : B < z
theorem NSt.call {q B z m m' : Nat} {w0 wr w' : World} {zc : List Value} {l l' : List Int} (h : NSt q B w0 zc z l m wr) (hb : Bel [q] wr.heap.size wr w') (hr : RdAt q w' l' m') : NSt q B w0 zc z l' m' w' :=
 ⟨bel_keep hb h.bt (by have := h.qb; have := h.bz; omega) h.bt.lt, bel_keep hb h.br (by have := h.qb; omega) h.br.lt, hr, h.be.trans (hb.mono (Nat.le_of_lt h.br.lt)), h.qb, h.bz⟩
theorem NSt.fell {q B z m : Nat} {w0 wr w' : World} {zc : List Value} {l : List Int} (h : NSt q B w0 zc z l m wr) (hb : Bel [q] wr.heap.size wr w') : Bel [q] B w0 w' := h.be.trans (hb.mono (Nat.le_of_lt h.br.lt))
theorem NSt.set {q B z m : Nat} {w0 wr w' : World} {zc zc' : List Value} {l : List Int} (h : NSt q B w0 zc z l m wr) (hb : Blk w' z 25 zc') (hu : Upd z wr w') : NSt q B w0 zc' z l m w' :=
 ⟨hb, hu.blk h.br (by have := h.bz; omega), h.rd.upd hu (by have := h.qb; have := h.bz; omega), h.be.newBlk hu (Nat.le_of_lt h.bz) (Nat.le_of_lt h.br.lt), h.qb, h.bz⟩
theorem NSt.below {q B z m k : Nat} {w0 wr w' : World} {zc : List Value} {l : List Int} (h : NSt q B w0 zc z l m wr) (hb : Below k wr w') (hk : z < k) : NSt q B w0 zc z l m w' :=
 ⟨h.bt.below hb hk, h.br.below hb (by have := h.bz; omega), h.rd.below hb (by have := h.qb; have := h.bz; omega), h.be.trans (Bel.of (hb.mono (by have := h.bz; omega))), h.qb, h.bz⟩
theorem sizeStrR : (Try.prog.info? 9).map (·.size) = some 1 := by kernel_rfl
section
variable {P : Program} {ops : Array Oper} {Q : Exit → Act → World → Prop}
theorem wpOp_callP {i : Nat} {K : Act → World → Prop} {a : Act} {w : World} {op : Oper} (f : FuncId) (args : Array Value) (R : Ending → World → Prop) (hi : ops[i]? = some op) (hw : Region.wanted op (yielded ops a.tmps) = true)
    (hrun : (execOp a.eval op).run P w = .ok (.enter f args) w) (hc : Calls P f args w R) (h : ∀ e w', R e w' → (∃ v, e = .returned v ∧ K (a.put op.dst v) w') ∨ (∃ ch, e = .panicked ch ∧ Q (.panic ch) a w')) : wpOp P ops Q i K a w := by
  unfold wpOp; simp only [hi]; rw [if_pos hw]; refine Or.inl ?_; unfold Oper.wp; rw [hrun]
  refine hc.mono fun e w' hR => ?_
  rcases h e w' hR with ⟨v, rfl, hk⟩ | ⟨ch, rfl, hk⟩
  · exact hk
  · exact hk
theorem reg_lcKP {S : World → Prop} {fuel : Nat} {listed : Array Bool} {a : Act} {w : World} (K : World → Prop) (i j k : Nat) (vi : Value) (di dj dk : Tmp) (f : FuncId) (args : Array Value) (R : Ending → World → Prop) (hS : S w) (hSn : ∀ w1, K w1 → S w1)
    (hst : (ops[i]?.isSome && ops[j]?.isSome && ops[k]?.isSome && (opAt ops i).guard.isNone && (opAt ops j).guard.isNone && (opAt ops k).guard.isNone && (Region.ready .any ops listed == [i, j]) && (Region.ready .any ops (listed.setIfInBounds i true) == [j]) && (Region.ready .any ops (listed.setIfInBounds j true) == [i, k])
      && (Region.ready .any ops ((listed.setIfInBounds i true).setIfInBounds j true) == [k]) && (Region.ready .any ops ((listed.setIfInBounds j true).setIfInBounds i true) == [k]) && (Region.ready .any ops ((listed.setIfInBounds j true).setIfInBounds k true) == [i])) = true)
    (hdi : (opAt ops i).dst = some di) (hdj : (opAt ops j).dst = some dj) (hdk : (opAt ops k).dst = some dk) (nij : di ≠ dj) (nik : di ≠ dk) (eij : i ≠ j) (eik : i ≠ k)
    (hi0 : (execOp a.eval (opAt ops i)).run P w = .ok (.value vi) w) (hi1 : ∀ vj w1, K w1 → (execOp (a.put (some dj) vj).eval (opAt ops i)).run P w1 = .ok (.value vi) w1) (hi2 : ∀ vj vk w1, K w1 → (execOp ((a.put (some dj) vj).put (some dk) vk).eval (opAt ops i)).run P w1 = .ok (.value vi) w1)
    (hj0 : (execOp a.eval (opAt ops j)).run P w = .ok (.enter f args) w) (hj1 : (execOp (a.put (some di) vi).eval (opAt ops j)).run P w = .ok (.enter f args) w) (hc : Calls P f args w R)
    (h : ∀ e w5, R e w5 → (∃ ch, e = .panicked ch ∧ ∀ a' : Act, a'.defers = a.defers → Q (.panic ch) a' w5) ∨ (K w5 ∧ ∃ vj, e = .returned vj ∧ ∃ vk w6, K w6 ∧ (execOp (a.put (some dj) vj).eval (opAt ops k)).run P w5 = .ok (.value vk) w6 ∧ (execOp ((a.put (some di) vi).put (some dj) vj).eval (opAt ops k)).run P w5 = .ok (.value vk) w6 ∧
      wpAnyH P .any ops Q S fuel (((listed.setIfInBounds i true).setIfInBounds j true).setIfInBounds k true) (((a.put (some di) vi).put (some dj) vj).put (some dk) vk) w6)) : wpAnyH P .any ops Q S (fuel + 3) listed a w := by
  simp only [Bool.and_eq_true, beq_iff_eq] at hst
  obtain ⟨⟨⟨⟨⟨⟨⟨⟨⟨⟨⟨g1, g2⟩, g3⟩, n1⟩, n2⟩, n3⟩, r0⟩, ri⟩, rj⟩, rij⟩, rji⟩, rjk⟩ := hst
  have wi : ∀ y, Region.wanted (opAt ops i) y = true := fun y => by simp [Region.wanted, Option.isNone_iff_eq_none.1 n1]
  have wj : ∀ y, Region.wanted (opAt ops j) y = true := fun y => by simp [Region.wanted, Option.isNone_iff_eq_none.1 n2]
  have wk : ∀ y, Region.wanted (opAt ops k) y = true := fun y => by simp [Region.wanted, Option.isNone_iff_eq_none.1 n3]
  have cij : ∀ (b : Act) (v u : Value), (b.put (some dj) u).put (some di) v = (b.put (some di) v).put (some dj) u := fun b v u => Act.put_comm b u v (fun d h1 h2 => nij (by cases h1; cases h2; rfl))
  have cik : ∀ (b : Act) (v u : Value), (b.put (some dk) u).put (some di) v = (b.put (some di) v).put (some dk) u := fun b v u => Act.put_comm b u v (fun d h1 h2 => nik (by cases h1; cases h2; rfl))
  refine wpAnyH_two r0 ?_ ?_
  · refine wpOp_value vi (get_opAt g1) (wi _) hi0 ⟨hS, wpAnyH_one ri ?_⟩
    rw [hdi]
    refine wpOp_callP f args R (get_opAt g2) (wj _) hj1 hc (fun e w5 hR => ?_)
    rcases h e w5 hR with ⟨ch, rfl, hq⟩ | ⟨hb5, vj, rfl, vk, w6, hb6, _, h2, h3⟩
    · exact .inr ⟨ch, rfl, hq _ (put_defers _ _ _)⟩
    refine .inl ⟨vj, rfl, hSn _ hb5, wpAnyH_one rij ?_⟩
    rw [hdj]
    refine wpOp_value vk (get_opAt g3) (wk _) h2 ⟨hSn _ hb6, ?_⟩
    rw [hdk]
    exact h3
  · refine wpOp_callP f args R (get_opAt g2) (wj _) hj0 hc (fun e w5 hR => ?_)
    rcases h e w5 hR with ⟨ch, rfl, hq⟩ | ⟨hb5, vj, rfl, vk, w6, hb6, h1, h2, h3⟩
    · exact .inr ⟨ch, rfl, hq _ rfl⟩
    refine .inl ⟨vj, rfl, hSn _ hb5, ?_⟩
    rw [hdj]
    refine wpAnyH_two rj ?_ ?_
    · refine wpOp_value vi (get_opAt g1) (wi _) (hi1 vj w5 hb5) ⟨hSn _ hb5, wpAnyH_one rji ?_⟩
      rw [hdi, cij]
      refine wpOp_value vk (get_opAt g3) (wk _) h2 ⟨hSn _ hb6, ?_⟩
      rw [hdk, Array.setIfInBounds_comm _ _ (Ne.symm eij)]
      exact h3
    · refine wpOp_value vk (get_opAt g3) (wk _) h1 ⟨hSn _ hb6, wpAnyH_one rjk ?_⟩
      rw [hdk]
      refine wpOp_value vi (get_opAt g1) (wi _) (hi2 vj vk w6 hb6) ⟨hSn _ hb6, ?_⟩
      rw [hdi, cik, cij, Array.setIfInBounds_comm _ _ (Ne.symm eik), Array.setIfInBounds_comm _ _ (Ne.symm eij)]
      exact h3
end
end Go.Proofs.Yteohjbggicchgaa
namespace Go.Proofs.Yteohjbggicchgaa
open Go Go.RowKit
set_option maxRecDepth 100000
set_option maxHeartbeats 8000000 in
theorem node_walk : ∀ (f q : Nat) (w : World) (l : List Int) (m : Nat), RdAt q w l m → m ≤ f → m ≤ 3000 → Calls Try.prog 79 #[.pointer (some ⟨q, 0, none⟩)] w (NdP q (nodeP f (m, l)) w) := by
 refine fun f => Nat.strongRecOn f fun f ih => ?_
 intro q w l m h hm h3
 obtain ⟨B, hB⟩ : ∃ B, Hid (w.heap.size = B) := ⟨_, rfl⟩
 have H := Lib.hid h
 have IH := Lib.hid ih
 have QB : Hid (q < B) := by rw [← hB.out]; exact h.lt
 clear h ih
 go_enter Try.func79, Try.ntmps79
 go_upto_region 0 with (fail)
 refine lbeg (opsOf Try.f79 0) ?_
 refine lall 0 25 z5T (B) (some 2) hB ?_
 intro w1 bw1 bew1 hsw1
 refine ldn 1 ?_
 generalize hact : Act.put _ (some 2) _ = act
 simp only [Act.put, sA, sC, sZ] at hact
 subst hact
 obtain ⟨v, hblk, hby, hisB, hlen⟩ := H.out.below bew1 QB.out
 have BR := Lib.hid bw1
 have BB1 : Hid (Bel [q] B w w1) := Bel.of bew1
 have S1 : Hid (w1.heap.size = B + 1) := hsw1
 have BQ := Lib.hid hblk
 have BY := Lib.hid hby
 have IB := Lib.hid hisB
 have LL := Lib.hid hlen
 clear bw1 bew1 hsw1 hblk hby hisB hlen H
 go_upto_region 1 with (fail)
 refine lbeg (opsOf Try.f79 1) ?_
 refine lnow 0 (.pointer (some ⟨q, 0, none⟩)) (some 6) ?_
 refine lnow 1 (.pointer (some ⟨q, 0, none⟩)) (some 7) ?_
 refine lnow 2 (.pointer (some ⟨q, 1, none⟩)) (some 8) ?_
 refine lcl 3 (.int .i64 (m : Int)) (some 9) 3 8 q 1 (BQ.out.cell rfl) Try.underlying3 ?_
 refine lnow 4 (.bool (decide (0 < (m : Int)))) (some 10) ?_
 by_cases hm0 : 0 < m
 rotate_left
 ·skip
  rw [decide_eq_false (by omega : ¬ 0 < (m : Int))]
  refine lin_callP 5 54 #[.bool false] (some 11) _ (by kernel_rfl) (by kernel_rfl) (by kernel_rfl) (cneed_no w1) ?_
  rintro e w' ⟨rfl, hw'⟩
  obtain rfl := hw'.symm
  exact .inr ⟨_, rfl, rfl, NdP.no (by rw [hB.out]; exact BB1.out) (by obtain rfl : m = 0 := (by omega); exact nodeP_zero _ _)⟩
 rw [decide_eq_true (by omega : 0 < (m : Int))]
 refine lcal 5 54 #[.bool true] (some 11) _ (cneed_yes w1) ?_
 rintro e w' ⟨rfl, hw'⟩
 obtain rfl := hw'.symm
 refine ⟨_, rfl, ?_⟩
 refine ldn 6 ?_
 generalize hact : Act.put _ (some 11) _ = act
 simp only [Act.put, sA, sC, sZ] at hact
 subst hact
 obtain ⟨M, rfl⟩ : ∃ M, m = M + 1 := ⟨m - 1, by omega⟩
 obtain ⟨f, rfl⟩ : ∃ f', f = f' + 1 := ⟨f - 1, by omega⟩
 have IHF := Lib.hid (IH.out f (Nat.lt_succ_self f))
 have HM : Hid (M ≤ f ∧ M < 3000) := ⟨by omega, by omega⟩
 clear IH hm h3 hm0
 go_upto_region 2 with (fail)
 refine lbeg (opsOf Try.f79 2) ?_
 refine lnow 0 (.pointer (some ⟨q, 0, none⟩)) (some 12) ?_
 refine lnow 1 (.pointer (some ⟨q, 0, none⟩)) (some 13) ?_
 refine lnow 2 (.pointer (some ⟨q, 1, none⟩)) (some 14) ?_
 refine lcl 3 (.int .i64 ((M + 1 : Nat) : Int)) (some 15) 3 14 q 1 (BQ.out.cell rfl) Try.underlying3 ?_
 refine lnow 4 (.int .i64 (IntKind.i64.wrap (((M + 1 : Nat) : Int) - 1))) (some 16) ?_
 rw [show IntKind.i64.wrap (((M + 1 : Nat) : Int) - 1) = (M : Int) from (IntWalk.i64_in _ (by have := HM.out; omega)).trans (by omega)]
 refine lnow 5 (.pointer (some ⟨q, 0, none⟩)) (some 17) ?_
 refine lnow 6 (.pointer (some ⟨q, 1, none⟩)) (some 18) ?_
 refine lin_putF 7 1 3 (.tmp 18) (.tmp 16) q 87 [v, .int .i64 ((M + 1 : Nat) : Int)] (.int .i64 (M : Int)) (by kernel_rfl) (by kernel_rfl) (by kernel_rfl) (by kernel_rfl) (by kernel_rfl) BQ.out (by simp) sizeIntR rfl rfl ?_
 intro w2 b2 u2
 refine ldn 8 ?_
 generalize hact : Act.put _ none _ = act
 simp only [Act.put, sA, sC, sZ] at hact
 subst hact
 have RD2 : Hid (RdAt q w2 l M) := ⟨v, b2, BY.out.keep (fun k hk hk2 => u2.block k hk2 (by omega)) u2.size, IB.out, LL.out⟩
 have BR2 : Hid (Blk w2 B 25 z5T) := u2.blk BR.out (by have := QB.out; omega)
 have BB2 : Hid (Bel [q] B w w2) := BB1.out.upd u2 (.inl (by simp)) (by have := S1.out; omega)
 have S2 : Hid (B < w2.heap.size) := BR2.out.lt
 clear b2 u2 BQ BY IB LL BR BB1 S1
 have SM := small_walk q w2 l M RD2.out
 go_upto_region 3 with (fail)
 refine lbeg (opsOf Try.f79 3) ?_
 refine lnow 0 (.pointer (some ⟨q, 0, none⟩)) (some 19) ?_
 cases l with
 | nil =>
  refine lin_callP 1 77 #[.pointer (some ⟨q, 0, none⟩)] (some 20) _ (by kernel_rfl) (by kernel_rfl) (by kernel_rfl) (SM) ?_
  rintro e w' ⟨hb, hr⟩
  obtain rfl : e = fellF := hr
  exact .inr ⟨_, rfl, rfl, NdP.no (by rw [hB.out]; exact BB2.out.trans (hb.mono (Nat.le_of_lt S2.out))) (nodeP_nil _ _)⟩
 | cons b l =>
  refine lin_callP 1 77 #[.pointer (some ⟨q, 0, none⟩)] (some 20) _ (by kernel_rfl) (by kernel_rfl) (by kernel_rfl) (SM) ?_
  rintro e w3 ⟨hb3, v3, rfl, hv3, hr3⟩
  obtain rfl : v3 = .int .i64 b := hv3
  refine .inl ⟨_, rfl, ?_⟩
  have qb := QB.out
  have BR3 : Hid (Blk w3 B 25 z5T) := bel_keep hb3 BR2.out (by omega) S2.out
  have BB3 : Hid (Bel [q] B w w3) := BB2.out.trans (hb3.mono (Nat.le_of_lt S2.out))
  have RD3 := Lib.hid hr3
  obtain ⟨z, hz⟩ : ∃ z, Hid (w3.heap.size = z) := ⟨_, rfl⟩
  have BZ : Hid (B < z) := by have := BR3.out.lt; have := hz.out; rw [Hid]; omega
  clear hb3 hr3 SM BR2 BB2 RD2 S2
  refine lnow 2 (.agg ([.int .i64 b, .int .i64 0, strT [], .slice none 0 0, .slice none 0 0] : List Value).toArray) (some 21) ?_
  refine lall 3 25 z5T (z) (some 3) hz ?_
  intro w4 bw4 bew4 hsw4
  refine lput 4 25 (.tmp 3) (.tmp 21) (z) _ (z5T) ([.int .i64 b, .int .i64 0, strT [], .slice none 0 0, .slice none 0 0]) bw4 ((rfl : ([.int .i64 b, .int .i64 0, strT [], .slice none 0 0, .slice none 0 0] : List Value).length = 5).trans (rfl : z5T.length = 5).symm) (t5Size (rfl : ([.int .i64 b, .int .i64 0, strT [], .slice none 0 0, .slice none 0 0] : List Value).length = 5)) (by simpa using ((by intro u hu; simp only [List.mem_cons, List.not_mem_nil, or_false] at hu; rcases hu with rfl | rfl | rfl | rfl | rfl <;> rfl) : ∀ u ∈ ([.int .i64 b, .int .i64 0, strT [], .slice none 0 0, .slice none 0 0] : List Value), u.oneCell' = true)) ?_
  intro w5 bw5 uw5
  refine ldn 5 ?_
  generalize hact : Act.put _ none _ = act
  simp only [Act.put, sA, sC, sZ] at hact
  subst hact
  have B35 : Below z w3 w5 := uw5.below bew4 (Nat.le_refl _) (by have := hsw4.out; omega)
  have bz := BZ.out
  have NS : Hid (NSt q B w [.int .i64 b, .int .i64 0, strT [], .slice none 0 0, .slice none 0 0] z l M w5) := ⟨bw5, BR3.out.below B35 bz, RD3.out.below B35 (by omega), BB3.out.trans (Bel.of (B35.mono (Nat.le_of_lt bz))), qb, bz⟩
  clear bw4 bew4 hsw4 bw5 uw5 B35 BR3 BB3 RD3 hz
  go_upto_region 4 with (fail)
  refine lbeg (opsOf Try.f79 4) ?_
  refine lnow 0 (.int .i64 0) (some 4) ?_
  refine lnow 1 (.int .i64 0) (some 5) ?_
  refine ldn 2 ?_
  generalize hact : Act.put _ (some 5) _ = act
  simp only [Act.put, sA, sC, sZ] at hact
  subst hact
  go_upto_region 5 with (fail)
  refine lbeg (opsOf Try.f79 5) ?_
  refine lnow 0 (.pointer (some ⟨z, 0, none⟩)) (some 22) ?_
  refine lcl 1 (.int .i64 b) (some 23) 3 22 (z) 0 (NS.out.bt.cell rfl) Try.underlying3 ?_
  refine ldn 2 ?_
  generalize hact : Act.put _ (some 23) _ = act
  simp only [Act.put, sA, sC, sZ] at hact
  subst hact
  go_upto_block 0 with (fail)
  go_cut [4, 5] from 24 (fun s4 s5 wc => ∃ (n : Int) (s : List UInt8) (c a : Nat) (l2 : List Int), s4 = .int .i64 (c : Int) ∧ s5 = .int .i64 (a : Int) ∧ Hid (headP b l = some ((n, s, c, a), l2)) ∧ Hid (NSt q B w [.int .i64 b, .int .i64 n, strT s, .slice none 0 0, .slice none 0 0] z l2 M wc) ∧ Hid (c ≤ 255 ∧ a ≤ 3))
  case first =>
   go_upto_region 6 with (fail)
   refine lbeg (opsOf Try.f79 6) ?_
   refine lnow 0 (.bool (decide (b = 1))) (some 25) ?_
   refine lnow 1 (.bool (decide (b = 1))) (some 24) ?_
   refine ldn 2 ?_
   generalize hact : Act.put _ (some 24) _ = act
   simp only [Act.put, sA, sC, sZ] at hact
   subst hact
   by_cases h1 : b = 1
   ·skip
    rw [decide_eq_true h1]
    have e1 := Lib.hid h1
    clear h1
    go_upto_region 7 with (fail)
    refine lbeg (opsOf Try.f79 7) ?_
    refine lnow 0 (.pointer (some ⟨q, 0, none⟩)) (some 26) ?_
    have CALL := num_walkR q w5 l M NS.out.rd
    cases hn : numP l with
    | none =>
     rw [hn] at CALL
     refine lin_callP 1 50 #[.pointer (some ⟨q, 0, none⟩)] (some 27) _ (by kernel_rfl) (by kernel_rfl) (by kernel_rfl) (CALL) ?_
     rintro e w' ⟨hb, hr⟩
     obtain rfl : e = fellF := hr
     exact .inr ⟨_, rfl, rfl, NdP.no (by rw [hB.out]; exact NS.out.fell hb) (nodeP_h (by rw [e1.out]; exact headP_1a hn))⟩
    | some y =>
     obtain ⟨n, l2⟩ := y
     rw [hn] at CALL
     refine lin_callP 1 50 #[.pointer (some ⟨q, 0, none⟩)] (some 27) _ (by kernel_rfl) (by kernel_rfl) (by kernel_rfl) (CALL) ?_
     rintro e w6 ⟨hb, v, rfl, hv, hr⟩
     obtain rfl : v = .int .i64 n := hv
     refine .inl ⟨_, rfl, ?_⟩
     have NS := Lib.hid (NS.out.call hb hr)
     clear hb hr CALL
     refine lnow 2 (.pointer (some ⟨z, 1, none⟩)) (some 28) ?_
     refine lin_putF 3 1 3 (.tmp 28) (.tmp 27) z 25 [.int .i64 b, .int .i64 0, strT [], .slice none 0 0, .slice none 0 0] (.int .i64 n) (by kernel_rfl) (by kernel_rfl) (by kernel_rfl) (by kernel_rfl) (by kernel_rfl) NS.out.bt (by simp) sizeIntR rfl rfl ?_
     intro w7 bw7 uw7
     have NS : Hid (NSt q B w [.int .i64 b, .int .i64 n, strT [], .slice none 0 0, .slice none 0 0] z l2 M w7) := NS.out.set bw7 uw7
     clear bw7 uw7
     refine ldn 4 ?_
     generalize hact : Act.put _ none _ = act
     simp only [Act.put, sA, sC, sZ] at hact
     subst hact
     have EH : Hid (headP b l = some ((n, [], 0, 0), l2)) := by rw [Hid, e1.out]; exact headP_1b hn
     have CA : Hid ((0) ≤ 255 ∧ (0) ≤ 3) := by rw [Hid]; omega
     go_wp2
     go_meet
     case rel => exact ⟨n, [], 0, 0, l2, by go_num, rfl, EH, NS, CA⟩
   rw [decide_eq_false h1]
   go_upto_region 8 with (fail)
   refine lbeg (opsOf Try.f79 8) ?_
   refine lnow 0 (.bool (decide (b = 3))) (some 30) ?_
   refine lnow 1 (.bool (decide (b = 3))) (some 29) ?_
   refine ldn 2 ?_
   generalize hact : Act.put _ (some 29) _ = act
   simp only [Act.put, sA, sC, sZ] at hact
   subst hact
   by_cases h3 : b = 3
   ·skip
    rw [decide_eq_true h3]
    have e3 := Lib.hid h3
    clear h3
    go_upto_region 9 with (fail)
    refine lbeg (opsOf Try.f79 9) ?_
    refine lnow 0 (.int .i64 1) (some 4) ?_
    refine ldn 1 ?_
    generalize hact : Act.put _ (some 4) _ = act
    simp only [Act.put, sA, sC, sZ] at hact
    subst hact
    have EH : Hid (headP b l = some ((0, [], 1, 0), l)) := by rw [Hid, e3.out]; exact headP_3
    have CA : Hid ((1) ≤ 255 ∧ (0) ≤ 3) := by rw [Hid]; omega
    go_wp2
    go_meet
    case rel => exact ⟨0, [], 1, 0, l, by go_num, rfl, EH, NS, CA⟩
   rw [decide_eq_false h3]
   go_upto_region 10 with (fail)
   refine lbeg (opsOf Try.f79 10) ?_
   refine lnow 0 (.bool (decide (b = 4))) (some 32) ?_
   refine lnow 1 (.bool (decide (b = 4))) (some 31) ?_
   refine ldn 2 ?_
   generalize hact : Act.put _ (some 31) _ = act
   simp only [Act.put, sA, sC, sZ] at hact
   subst hact
   by_cases h4 : b = 4
   ·skip
    rw [decide_eq_true h4]
    have e4 := Lib.hid h4
    clear h4
    go_upto_region 11 with (fail)
    refine lbeg (opsOf Try.f79 11) ?_
    refine lnow 0 (.pointer (some ⟨q, 0, none⟩)) (some 33) ?_
    have CALL := text_walkR q w5 l M NS.out.rd
    cases hn : textP l with
    | none =>
     rw [hn] at CALL
     refine lin_callP 1 81 #[.pointer (some ⟨q, 0, none⟩)] (some 34) _ (by kernel_rfl) (by kernel_rfl) (by kernel_rfl) (CALL) ?_
     rintro e w' ⟨hb, hr⟩
     obtain rfl : e = fellF := hr
     exact .inr ⟨_, rfl, rfl, NdP.no (by rw [hB.out]; exact NS.out.fell hb) (nodeP_h (by rw [e4.out]; exact headP_4a hn))⟩
    | some y =>
     obtain ⟨s, l2⟩ := y
     rw [hn] at CALL
     refine lin_callP 1 81 #[.pointer (some ⟨q, 0, none⟩)] (some 34) _ (by kernel_rfl) (by kernel_rfl) (by kernel_rfl) (CALL) ?_
     rintro e w6 ⟨hb, v, rfl, hv, hr⟩
     obtain rfl : v = strT s := hv
     refine .inl ⟨_, rfl, ?_⟩
     have NS := Lib.hid (NS.out.call hb hr)
     clear hb hr CALL
     refine lnow 2 (.pointer (some ⟨q, 0, none⟩)) (some 35) ?_
     have SM := small_walk q w6 l2 M NS.out.rd
     cases l2 with
     | nil =>
      refine lin_callP 3 77 #[.pointer (some ⟨q, 0, none⟩)] (some 36) _ (by kernel_rfl) (by kernel_rfl) (by kernel_rfl) (SM) ?_
      rintro e w' ⟨hb, hr⟩
      obtain rfl : e = fellF := hr
      exact .inr ⟨_, rfl, rfl, NdP.no (by rw [hB.out]; exact NS.out.fell hb) (nodeP_h (by rw [e4.out]; exact headP_4b hn))⟩
     | cons c l3 =>
      have hc := NS.out.rd.bytes.1.head
      obtain ⟨c, rfl⟩ := Int.eq_ofNat_of_zero_le hc.1
      have hc2 : c ≤ 255 := by omega
      clear hc
      refine lin_callP 3 77 #[.pointer (some ⟨q, 0, none⟩)] (some 36) _ (by kernel_rfl) (by kernel_rfl) (by kernel_rfl) (SM) ?_
      rintro e w7 ⟨hb, v, rfl, hv, hr⟩
      obtain rfl : v = .int .i64 (c : Int) := hv
      refine .inl ⟨_, rfl, ?_⟩
      have NS := Lib.hid (NS.out.call hb hr)
      clear hb hr SM
      refine lnow 4 (.pointer (some ⟨z, 2, none⟩)) (some 37) ?_
      refine lin_putF 5 2 9 (.tmp 37) (.tmp 34) z 25 [.int .i64 b, .int .i64 0, strT [], .slice none 0 0, .slice none 0 0] (strT s) (by kernel_rfl) (by kernel_rfl) (by kernel_rfl) (by kernel_rfl) (by kernel_rfl) NS.out.bt (by simp) sizeStrR rfl rfl ?_
      intro w8 bw8 uw8
      have NS : Hid (NSt q B w [.int .i64 b, .int .i64 0, strT s, .slice none 0 0, .slice none 0 0] z l3 M w8) := NS.out.set bw8 uw8
      clear bw8 uw8
      refine lnow 6 (.int .i64 (c : Int)) (some 4) ?_
      refine ldn 7 ?_
      generalize hact : Act.put _ (some 4) _ = act
      simp only [Act.put, sA, sC, sZ] at hact
      subst hact
      have EH : Hid (headP b l = some ((0, s, c, 0), l3)) := by rw [Hid, e4.out]; exact headP_4c hn
      have CA : Hid ((c) ≤ 255 ∧ (0) ≤ 3) := by rw [Hid]; omega
      go_wp2
      go_meet
      case rel => exact ⟨0, s, c, 0, l3, by go_num, rfl, EH, NS, CA⟩
   rw [decide_eq_false h4]
   go_upto_region 12 with (fail)
   refine lbeg (opsOf Try.f79 12) ?_
   refine lnow 0 (.bool (decide (b = 5))) (some 39) ?_
   refine lnow 1 (.bool (decide (b = 5))) (some 38) ?_
   refine ldn 2 ?_
   generalize hact : Act.put _ (some 38) _ = act
   simp only [Act.put, sA, sC, sZ] at hact
   subst hact
   by_cases h5 : b = 5
   ·skip
    rw [decide_eq_true h5]
    have e5 := Lib.hid h5
    clear h5
    go_upto_region 15 with (fail)
    refine lbeg (opsOf Try.f79 15) ?_
    refine lnow 0 (.int .i64 2) (some 5) ?_
    refine ldn 1 ?_
    generalize hact : Act.put _ (some 5) _ = act
    simp only [Act.put, sA, sC, sZ] at hact
    subst hact
    have EH : Hid (headP b l = some ((0, [], 0, 2), l)) := headP_5 (.inl e5.out)
    have CA : Hid ((0) ≤ 255 ∧ (2) ≤ 3) := by rw [Hid]; omega
    go_wp2
    go_meet
    case rel => exact ⟨0, [], 0, 2, l, by go_num, rfl, EH, NS, CA⟩
   rw [decide_eq_false h5]
   go_upto_region 13 with (fail)
   refine lbeg (opsOf Try.f79 13) ?_
   refine lnow 0 (.bool (decide (b = 6))) (some 40) ?_
   refine lnow 1 (.bool (decide (b = 6))) (some 38) ?_
   refine ldn 2 ?_
   generalize hact : Act.put _ (some 38) _ = act
   simp only [Act.put, sA, sC, sZ] at hact
   subst hact
   by_cases h6 : b = 6
   ·skip
    rw [decide_eq_true h6]
    have e6 := Lib.hid h6
    clear h6
    go_upto_region 15 with (fail)
    refine lbeg (opsOf Try.f79 15) ?_
    refine lnow 0 (.int .i64 2) (some 5) ?_
    refine ldn 1 ?_
    generalize hact : Act.put _ (some 5) _ = act
    simp only [Act.put, sA, sC, sZ] at hact
    subst hact
    have EH : Hid (headP b l = some ((0, [], 0, 2), l)) := headP_5 (.inr (.inl e6.out))
    have CA : Hid ((0) ≤ 255 ∧ (2) ≤ 3) := by rw [Hid]; omega
    go_wp2
    go_meet
    case rel => exact ⟨0, [], 0, 2, l, by go_num, rfl, EH, NS, CA⟩
   rw [decide_eq_false h6]
   go_upto_region 14 with (fail)
   refine lbeg (opsOf Try.f79 14) ?_
   refine lnow 0 (.bool (decide (b = 7))) (some 41) ?_
   refine lnow 1 (.bool (decide (b = 7))) (some 38) ?_
   refine ldn 2 ?_
   generalize hact : Act.put _ (some 38) _ = act
   simp only [Act.put, sA, sC, sZ] at hact
   subst hact
   by_cases h7 : b = 7
   ·skip
    rw [decide_eq_true h7]
    have e7 := Lib.hid h7
    clear h7
    go_upto_region 15 with (fail)
    refine lbeg (opsOf Try.f79 15) ?_
    refine lnow 0 (.int .i64 2) (some 5) ?_
    refine ldn 1 ?_
    generalize hact : Act.put _ (some 5) _ = act
    simp only [Act.put, sA, sC, sZ] at hact
    subst hact
    have EH : Hid (headP b l = some ((0, [], 0, 2), l)) := headP_5 (.inr (.inr e7.out))
    have CA : Hid ((0) ≤ 255 ∧ (2) ≤ 3) := by rw [Hid]; omega
    go_wp2
    go_meet
    case rel => exact ⟨0, [], 0, 2, l, by go_num, rfl, EH, NS, CA⟩
   rw [decide_eq_false h7]
   go_upto_region 16 with (fail)
   refine lbeg (opsOf Try.f79 16) ?_
   refine lnow 0 (.bool (decide (b = 8))) (some 43) ?_
   refine lnow 1 (.bool (decide (b = 8))) (some 42) ?_
   refine ldn 2 ?_
   generalize hact : Act.put _ (some 42) _ = act
   simp only [Act.put, sA, sC, sZ] at hact
   subst hact
   by_cases h8 : b = 8
   ·skip
    rw [decide_eq_true h8]
    have e8 := Lib.hid h8
    clear h8
    go_upto_region 17 with (fail)
    refine lbeg (opsOf Try.f79 17) ?_
    refine lnow 0 (.int .i64 3) (some 5) ?_
    refine ldn 1 ?_
    generalize hact : Act.put _ (some 5) _ = act
    simp only [Act.put, sA, sC, sZ] at hact
    subst hact
    have EH : Hid (headP b l = some ((0, [], 0, 3), l)) := by rw [Hid, e8.out]; exact headP_8
    have CA : Hid ((0) ≤ 255 ∧ (3) ≤ 3) := by rw [Hid]; omega
    go_wp2
    go_meet
    case rel => exact ⟨0, [], 0, 3, l, by go_num, rfl, EH, NS, CA⟩
   rw [decide_eq_false h8]
   go_upto_region 18 with (fail)
   refine lbeg (opsOf Try.f79 18) ?_
   refine lnow 0 (.bool (decide (b = 9))) (some 45) ?_
   refine lnow 1 (.bool (decide (b = 9))) (some 44) ?_
   refine ldn 2 ?_
   generalize hact : Act.put _ (some 44) _ = act
   simp only [Act.put, sA, sC, sZ] at hact
   subst hact
   by_cases h9 : b = 9
   ·skip
    rw [decide_eq_true h9]
    have e9 := Lib.hid h9
    clear h9
    go_upto_region 19 with (fail)
    refine lbeg (opsOf Try.f79 19) ?_
    refine lnow 0 (.pointer (some ⟨q, 0, none⟩)) (some 46) ?_
    have CALL := num_walkR q w5 l M NS.out.rd
    cases hn : numP l with
    | none =>
     rw [hn] at CALL
     refine lin_callP 1 50 #[.pointer (some ⟨q, 0, none⟩)] (some 47) _ (by kernel_rfl) (by kernel_rfl) (by kernel_rfl) (CALL) ?_
     rintro e w' ⟨hb, hr⟩
     obtain rfl : e = fellF := hr
     exact .inr ⟨_, rfl, rfl, NdP.no (by rw [hB.out]; exact NS.out.fell hb) (nodeP_h (by rw [e9.out]; exact headP_9a hn))⟩
    | some y =>
     obtain ⟨n, l2⟩ := y
     rw [hn] at CALL
     refine lin_callP 1 50 #[.pointer (some ⟨q, 0, none⟩)] (some 47) _ (by kernel_rfl) (by kernel_rfl) (by kernel_rfl) (CALL) ?_
     rintro e w6 ⟨hb, v, rfl, hv, hr⟩
     obtain rfl : v = .int .i64 n := hv
     refine .inl ⟨_, rfl, ?_⟩
     have NS := Lib.hid (NS.out.call hb hr)
     clear hb hr CALL
     have hn1 := hn
     clear hn
     refine lnow 2 (.pointer (some ⟨q, 0, none⟩)) (some 48) ?_
     have CALL := text_walkR q w6 l2 M NS.out.rd
     cases hn : textP l2 with
     | none =>
      rw [hn] at CALL
      refine lin_callP 3 81 #[.pointer (some ⟨q, 0, none⟩)] (some 49) _ (by kernel_rfl) (by kernel_rfl) (by kernel_rfl) (CALL) ?_
      rintro e w' ⟨hb, hr⟩
      obtain rfl : e = fellF := hr
      exact .inr ⟨_, rfl, rfl, NdP.no (by rw [hB.out]; exact NS.out.fell hb) (nodeP_h (by rw [e9.out]; exact headP_9b hn1 hn))⟩
     | some y =>
      obtain ⟨s, l3⟩ := y
      rw [hn] at CALL
      refine lin_callP 3 81 #[.pointer (some ⟨q, 0, none⟩)] (some 49) _ (by kernel_rfl) (by kernel_rfl) (by kernel_rfl) (CALL) ?_
      rintro e w7 ⟨hb, v, rfl, hv, hr⟩
      obtain rfl : v = strT s := hv
      refine .inl ⟨_, rfl, ?_⟩
      have NS := Lib.hid (NS.out.call hb hr)
      clear hb hr CALL
      refine lnow 4 (.pointer (some ⟨z, 1, none⟩)) (some 50) ?_
      refine lin_putF 5 1 3 (.tmp 50) (.tmp 47) z 25 [.int .i64 b, .int .i64 0, strT [], .slice none 0 0, .slice none 0 0] (.int .i64 n) (by kernel_rfl) (by kernel_rfl) (by kernel_rfl) (by kernel_rfl) (by kernel_rfl) NS.out.bt (by simp) sizeIntR rfl rfl ?_
      intro w8 bw8 uw8
      have NS : Hid (NSt q B w [.int .i64 b, .int .i64 n, strT [], .slice none 0 0, .slice none 0 0] z l3 M w8) := NS.out.set bw8 uw8
      clear bw8 uw8
      refine lnow 6 (.pointer (some ⟨z, 2, none⟩)) (some 51) ?_
      refine lin_putF 7 2 9 (.tmp 51) (.tmp 49) z 25 [.int .i64 b, .int .i64 n, strT [], .slice none 0 0, .slice none 0 0] (strT s) (by kernel_rfl) (by kernel_rfl) (by kernel_rfl) (by kernel_rfl) (by kernel_rfl) NS.out.bt (by simp) sizeStrR rfl rfl ?_
      intro w9 bw9 uw9
      have NS : Hid (NSt q B w [.int .i64 b, .int .i64 n, strT s, .slice none 0 0, .slice none 0 0] z l3 M w9) := NS.out.set bw9 uw9
      clear bw9 uw9
      refine lnow 8 (.int .i64 1) (some 5) ?_
      refine ldn 9 ?_
      generalize hact : Act.put _ (some 5) _ = act
      simp only [Act.put, sA, sC, sZ] at hact
      subst hact
      have EH : Hid (headP b l = some ((n, s, 0, 1), l3)) := by rw [Hid, e9.out]; exact headP_9c hn1 hn
      have CA : Hid ((0) ≤ 255 ∧ (1) ≤ 3) := by rw [Hid]; omega
      go_wp2
      go_meet
      case rel => exact ⟨n, s, 0, 1, l3, by go_num, rfl, EH, NS, CA⟩
   rw [decide_eq_false h9]
   have EH : Hid (headP b l = some ((0, [], 0, 0), l)) := headP_0 h1 h3 h4 h5 h6 h7 h8 h9
   have CA : Hid ((0) ≤ 255 ∧ (0) ≤ 3) := by rw [Hid]; omega
   go_wp2
   go_meet
   case rel => exact ⟨0, [], 0, 0, l, by go_num, rfl, EH, NS, CA⟩
  clear NS
  obtain ⟨n, s, c, a, l2, rfl, rfl, EH, NS, CA⟩ := hcut
  go_upto_region 20 with (fail)
  refine lbeg (opsOf Try.f79 20) ?_
  refine lnow 0 (.int .i64 (c : Int)) (some 52) ?_
  refine lnow 1 (.int .i64 0) (some 53) ?_
  refine ldn 2 ?_
  generalize hact : Act.put _ (some 53) _ = act
  simp only [Act.put, sA, sC, sZ] at hact
  subst hact
  go_wp2
  go_loopw [53] (fun iv wr => ∃ (i : Nat) (lv : Value) (ls : List Lv) (li : List Int), i ≤ c ∧ iv = .int .i64 (i : Int) ∧ Hid (ls.length = i) ∧ Hid (RowL (z + 1) wr lv ls) ∧ Hid (NSt q B w [.int .i64 b, .int .i64 n, strT s, lv, .slice none 0 0] z li M wr) ∧ Hid (TimesAt levelP c l2 i ls li)) (fun iv _ => c - (intOf iv).toNat)
  case atStart => exact ⟨0, .slice none 0 0, [], l2, Nat.zero_le _, rfl, rfl, RowL.nil _ _, NS, TimesAt.start _ _ _⟩
  case round =>
   clear NS
   obtain ⟨i, lv, ls, li, hi, rfl, LN, RL, NS, TA⟩ := hrel
   by_cases hlt : i < c
   ·skip
    have c1 : (i : Int) < (c : Int) := by omega
    go_upto_region 21 with (fail)
    refine lbeg (opsOf Try.f79 21) ?_
    refine lnow 0 (.bool (decide ((i : Int) < (c : Int)))) (some 54) ?_
    rw [decide_eq_true c1]
    refine ldn 1 ?_
    generalize hact : Act.put _ (some 54) _ = act
    simp only [Act.put, sA, sC, sZ] at hact
    subst hact
    go_upto_region 22 with (fail)
    refine region_beginP (opsOf Try.f79 22) (fun _ => True) (by kernel_rfl) (by kernel_rfl) 8 (by kernel_rfl) ?_
    intro Q' hQN hN hP
    have HD : Below wr.heap.size wr wr.drew := (Below.refl _ _).drew
    have NS := Lib.hid (NS.out.below HD NS.out.bt.lt)
    have RL := Lib.hid (RL.out.below HD)
    clear HD
    generalize wr.drew = wd at NS RL ⊢
    refine reg_now 0 (.pointer (some ⟨z, 3, none⟩)) (some 55) hQN trivial (by kernel_rfl) (by kernel_rfl) (fun w => by kernel_rfl) ?_
    refine reg_now 2 (.pointer (some ⟨q, 0, none⟩)) (some 57) hQN trivial (by kernel_rfl) (by kernel_rfl) (fun w => by kernel_rfl) ?_
    refine reg_lcKP (fun w1 => Bel [q] wd.heap.size wd w1) 1 3 4 lv 56 58 59 97 #[.pointer (some ⟨q, 0, none⟩)] _ trivial (fun _ _ => trivial) (by kernel_rfl) (by kernel_rfl) (by kernel_rfl) (by kernel_rfl) (by decide) (by decide) (by decide) (by decide) (exec_load_cell 22 (.tmp 55) (by kernel_rfl) z 3 (by kernel_rfl) _ (NS.out.bt.cell rfl) _ Try.underlying22 rfl) (fun vj w1 hb1 => exec_load_cell 22 (.tmp 55) (by kernel_rfl) z 3 (by kernel_rfl) _ ((bel_keep hb1 NS.out.bt (by have := NS.out.qb; have := NS.out.bz; omega) NS.out.bt.lt).cell rfl) _ Try.underlying22 rfl) (fun vj vk w1 hb1 => exec_load_cell 22 (.tmp 55) (by kernel_rfl) z 3 (by kernel_rfl) _ ((bel_keep hb1 NS.out.bt (by have := NS.out.qb; have := NS.out.bz; omega) NS.out.bt.lt).cell rfl) _ Try.underlying22 rfl) (by kernel_rfl) (by kernel_rfl) (level_walkR q wd li M NS.out.rd) ?_
    rintro e w6 ⟨hb6, hr6⟩
    cases hl : levelP li with
    | none =>
     rw [hl] at hr6
     obtain rfl : e = fellF := hr6
     exact .inl ⟨_, rfl, fun a1 h1 => hP _ _ _ fun a' ha' => ⟨ha'.trans h1, NdP.no (by rw [hB.out]; exact NS.out.fell hb6) (nodeP_l EH.out (TA.out.no hlt hl))⟩⟩
    | some y =>
     obtain ⟨x, l3⟩ := y
     rw [hl] at hr6
     obtain ⟨v6, rfl, ⟨rfl, x4⟩, hr6⟩ := hr6
     have zb : q < z := by have := NS.out.qb; have := NS.out.bz; omega
     have RB := run_build_lv1 x x4 w6
     have bw7 := Blk.new w6 80 (ints .i64 x.zs)
     have bew7 : Below w6.heap.size w6 (w6.alloc (.cells (ints .i64 x.zs).toArray 80)) := (Below.refl _ _).alloc (Nat.le_refl _) _
     refine .inr ⟨hb6, _, rfl, _, _, hb6.trans (Bel.of (bew7.mono hb6.size)), exec_of _ _ (by kernel_rfl) RB, exec_of _ _ (by kernel_rfl) RB, ?_⟩
     have NS6 := Lib.hid (NS.out.call hb6 hr6)
     have RL6 : Hid (RowL (z + 1) w6 lv ls) := RL.out.step (hb6.step (Nat.le_refl _) (fun k hk => hk)) (fun k hk => by simp at hk; omega)
     clear NS RL RB hr6
     generalize w6.alloc (.cells (ints .i64 x.zs).toArray 80) = w7 at bw7 bew7 ⊢
     have NS7 := Lib.hid (NS6.out.below bew7 NS6.out.bt.lt)
     have RL7 := Lib.hid (RL6.out.below bew7)
     have S7 : z + 1 ≤ w7.heap.size := NS7.out.bt.lt
     obtain ⟨lv', w8, hrun, r8, hg8⟩ := RL7.out.append x4 bw7 (by have := LN.out; have := CA.out; omega) S7
     have B78 : Below (z + 1) w7 w8 := (Below.refl _ _).grown hg8 S7 (fun g hg => (RL7.out.own g hg).1)
     refine reg_value 5 lv' (some 60) w8 (by kernel_rfl) (by kernel_rfl) (exec_of _ _ (by kernel_rfl) hrun) trivial ?_
     have NS8 := Lib.hid (NS7.out.below B78 (Nat.lt_succ_self z))
     have RL8 := Lib.hid r8
     have LV1 := slice_one r8.slice
     clear NS6 RL6 NS7 RL7 bw7 bew7 hrun r8 hg8 B78 S7 hb6
     refine reg_now 6 (.pointer (some ⟨z, 3, none⟩)) (some 61) hQN trivial (by kernel_rfl) (by kernel_rfl) (fun w => by kernel_rfl) ?_
     refine reg_putF 7 3 22 (.tmp 61) (.tmp 60) z 25 [.int .i64 b, .int .i64 n, strT s, lv, .slice none 0 0] lv' (by kernel_rfl) (by kernel_rfl) (by kernel_rfl) (by kernel_rfl) (by kernel_rfl) NS8.out.bt (by simp) sizeLvs LV1.1 LV1.2 ?_
     intro w9 bw9 uw9
     refine ⟨trivial, ?_⟩
     have NS9 : Hid (NSt q B w [.int .i64 b, .int .i64 n, strT s, lv', .slice none 0 0] z l3 M w9) := NS8.out.set bw9 uw9
     have RL9 := Lib.hid (RL8.out.upd uw9 (Nat.lt_succ_self z))
     have LN9 : Hid ((ls ++ [x]).length = i + 1) := by rw [Hid, List.length_append, LN.out]; rfl
     have TA9 := Lib.hid (TA.out.step hlt hl)
     clear bw9 uw9 NS8 RL8 LV1 LN TA hl
     refine reg_done (by kernel_rfl) (hN _ _ ?_)
     generalize hact : Act.put _ none _ = act
     simp only [Act.put, sA, sC, sZ] at hact
     subst hact
     have ca := CA.out
     clear hQN hN hP
     go_wp2
     go_roundw
     case rel => exact ⟨i + 1, lv', _, _, by omega, by go_num, LN9, RL9, NS9, TA9⟩
     case measure => simp [intOf]; omega
   obtain rfl : i = c := by omega
   have c1 : ¬ ((i : Int) < (i : Int)) := by omega
   have HLS := Lib.hid TA.out.done
   clear TA
   go_upto_region 21 with (fail)
   refine lbeg (opsOf Try.f79 21) ?_
   refine lnow 0 (.bool (decide ((i : Int) < (i : Int)))) (some 54) ?_
   rw [decide_eq_false c1]
   refine ldn 1 ?_
   generalize hact : Act.put _ (some 54) _ = act
   simp only [Act.put, sA, sC, sZ] at hact
   subst hact
   go_upto_region 24 with (fail)
   refine lbeg (opsOf Try.f79 24) ?_
   refine lnow 0 (.int .i64 (a : Int)) (some 63) ?_
   refine lnow 1 (.int .i64 0) (some 64) ?_
   refine ldn 2 ?_
   generalize hact : Act.put _ (some 64) _ = act
   simp only [Act.put, sA, sC, sZ] at hact
   subst hact
   obtain ⟨wo, hwo⟩ : ∃ y, Hid (wr = y) := ⟨_, rfl⟩
   rw [hwo.out] at RL NS ⊢
   clear hwo
   go_wp2
   go_loopw [64] (fun jv wr => ∃ (j : Nat) (av : Value) (ts : List Tm) (mj : Nat) (lj : List Int), j ≤ a ∧ jv = .int .i64 (j : Int) ∧ Hid (ts.length = j) ∧ Hid (RowL (z + 1) wr lv ls) ∧ Hid (RowT (z + 1) wr av ts) ∧ Hid (NSt q B w [.int .i64 b, .int .i64 n, strT s, lv, av] z lj mj wr) ∧ Hid (TimesAt (nodeP f) a (M, li) j ts (mj, lj)) ∧ Hid (mj ≤ M) ∧ Hid (∀ g, lv.ownBlock = some g → some g ≠ av.ownBlock)) (fun jv _ => a - (intOf jv).toNat)
   case atStart => exact ⟨0, .slice none 0 0, [], M, li, Nat.zero_le _, rfl, rfl, RL, RowT.nil _ _, NS, TimesAt.start _ _ _, Nat.le_refl _, fun g _ e => by cases e⟩
   case round =>
    clear NS RL
    obtain ⟨j, av, ts, mj, lj, hj, rfl, TN, RL, RT, NS, TA, MJ, SEP⟩ := hrel
    by_cases hlt : j < a
    ·skip
     have c1 : (j : Int) < (a : Int) := by omega
     go_upto_region 25 with (fail)
     refine lbeg (opsOf Try.f79 25) ?_
     refine lnow 0 (.bool (decide ((j : Int) < (a : Int)))) (some 65) ?_
     rw [decide_eq_true c1]
     refine ldn 1 ?_
     generalize hact : Act.put _ (some 65) _ = act
     simp only [Act.put, sA, sC, sZ] at hact
     subst hact
     go_upto_region 26 with (fail)
     refine region_beginP (opsOf Try.f79 26) (fun _ => True) (by kernel_rfl) (by kernel_rfl) 8 (by kernel_rfl) ?_
     intro Q' hQN hN hP
     have HD : Below wr.heap.size wr wr.drew := (Below.refl _ _).drew
     have NS := Lib.hid (NS.out.below HD NS.out.bt.lt)
     have RL := Lib.hid (RL.out.below HD)
     have RT := Lib.hid (RT.out.below HD)
     clear HD
     generalize wr.drew = wd at NS RL RT ⊢
     refine reg_now 0 (.pointer (some ⟨z, 4, none⟩)) (some 66) hQN trivial (by kernel_rfl) (by kernel_rfl) (fun w => by kernel_rfl) ?_
     refine reg_now 2 (.pointer (some ⟨q, 0, none⟩)) (some 68) hQN trivial (by kernel_rfl) (by kernel_rfl) (fun w => by kernel_rfl) ?_
     refine reg_lcKP (fun w1 => Bel [q] wd.heap.size wd w1) 1 3 4 av 67 69 70 79 #[.pointer (some ⟨q, 0, none⟩)] _ trivial (fun _ _ => trivial) (by kernel_rfl) (by kernel_rfl) (by kernel_rfl) (by kernel_rfl) (by decide) (by decide) (by decide) (by decide) (exec_load_cell 23 (.tmp 66) (by kernel_rfl) z 4 (by kernel_rfl) _ (NS.out.bt.cell rfl) _ Try.underlying23 rfl) (fun vj w1 hb1 => exec_load_cell 23 (.tmp 66) (by kernel_rfl) z 4 (by kernel_rfl) _ ((bel_keep hb1 NS.out.bt (by have := NS.out.qb; have := NS.out.bz; omega) NS.out.bt.lt).cell rfl) _ Try.underlying23 rfl) (fun vj vk w1 hb1 => exec_load_cell 23 (.tmp 66) (by kernel_rfl) z 4 (by kernel_rfl) _ ((bel_keep hb1 NS.out.bt (by have := NS.out.qb; have := NS.out.bz; omega) NS.out.bt.lt).cell rfl) _ Try.underlying23 rfl) (by kernel_rfl) (by kernel_rfl) (IHF.out q wd lj mj NS.out.rd (by have := MJ.out; have := HM.out; omega) (by have := MJ.out; have := HM.out; omega)) ?_
     rintro e w6 ⟨hb6, hr6⟩
     cases hl : nodeP f (mj, lj) with
     | none =>
      rw [hl] at hr6
      obtain rfl : e = fellF := hr6
      exact .inl ⟨_, rfl, fun a1 h1 => hP _ _ _ fun a' ha' => ⟨ha'.trans h1, NdP.no (by rw [hB.out]; exact NS.out.fell hb6) (nodeP_a EH.out HLS.out (TA.out.no hlt hl))⟩⟩
     | some y =>
      obtain ⟨x, m', l3⟩ := y
      rw [hl] at hr6
      obtain ⟨c', rfl, hct6, hr6⟩ := hr6
      dsimp only at hr6
      have zb : q < z := by have := NS.out.qb; have := NS.out.bz; omega
      have SZD := NS.out.bt.lt
      have GC : Hid (TmAt (List.range (z + 1) ++ ownL av) w6 x c') := TmAt.off hct6 (fun k hk => by
       rcases List.mem_append.1 hk with hk | hk
       ·have := List.mem_range.1 hk; exact .inl (by omega)
       ·exact .inl (RT.out.own k (ownL_mem.1 hk)).2)
      have RB := run_build_tm1 hct6 w6
      have bw7 := Blk.new w6 25 c'
      have bew7 : Below w6.heap.size w6 (w6.alloc (.cells c'.toArray 25)) := (Below.refl _ _).alloc (Nat.le_refl _) _
      refine .inr ⟨hb6, _, rfl, _, _, hb6.trans (Bel.of (bew7.mono hb6.size)), exec_of _ _ (by kernel_rfl) RB, exec_of _ _ (by kernel_rfl) RB, ?_⟩
      have ST6 := hb6.step (Nat.le_refl _) (fun k hk => hk)
      have NS6 := Lib.hid (NS.out.call hb6 hr6)
      have RL6 : Hid (RowL (z + 1) w6 lv ls) := RL.out.step ST6 (fun k hk => by simp at hk; omega)
      have RT6 : Hid (RowT (z + 1) w6 av ts) := RT.out.step ST6 (fun k hk => by simp at hk; omega)
      clear NS RL RT RB hr6 hct6 SZD ST6
      generalize w6.alloc (.cells c'.toArray 25) = w7 at bw7 bew7 ⊢
      have NS7 := Lib.hid (NS6.out.below bew7 NS6.out.bt.lt)
      have RL7 := Lib.hid (RL6.out.below bew7)
      have RT7 := Lib.hid (RT6.out.below bew7)
      have IC := Lib.hid (GC.out.below bew7)
      have S7 : z + 1 ≤ w7.heap.size := NS7.out.bt.lt
      obtain ⟨av', w8, hrun, r8, hg8, hat8⟩ := RT7.out.append bw7 IC.out (by have := TN.out; have := CA.out; omega) S7
      have B78 : Below (z + 1) w7 w8 := (Below.refl _ _).grown hg8 S7 (fun g hg => (RT7.out.own g hg).1)
      refine reg_value 5 av' (some 71) w8 (by kernel_rfl) (by kernel_rfl) (exec_of _ _ (by kernel_rfl) hrun) trivial ?_
      have NS8 := Lib.hid (NS7.out.below B78 (Nat.lt_succ_self z))
      have RL8 : Hid (RowL (z + 1) w8 lv ls) := ⟨own_grown RL7.out.1 hg8 (fun g hg => SEP.out g hg), RL7.out.2⟩
      have RT8 := Lib.hid r8
      have AV1 := slice_one r8.slice
      have SEP8 : Hid (∀ g, lv.ownBlock = some g → some g ≠ av'.ownBlock) := fun g hg e => by
       rcases hat8 with h | h
       ·exact SEP.out g hg (h ▸ e)
       ·rw [h] at e
        have := Option.some.inj e
        have := (RL7.out.own g hg).2
        omega
      clear NS6 RL6 RT6 NS7 RL7 RT7 IC GC bw7 bew7 hrun r8 hg8 hat8 B78 S7 hb6 SEP
      refine reg_now 6 (.pointer (some ⟨z, 4, none⟩)) (some 72) hQN trivial (by kernel_rfl) (by kernel_rfl) (fun w => by kernel_rfl) ?_
      refine reg_putF 7 4 23 (.tmp 72) (.tmp 71) z 25 [.int .i64 b, .int .i64 n, strT s, lv, av] av' (by kernel_rfl) (by kernel_rfl) (by kernel_rfl) (by kernel_rfl) (by kernel_rfl) NS8.out.bt (by simp) sizeTms AV1.1 AV1.2 ?_
      intro w9 bw9 uw9
      refine ⟨trivial, ?_⟩
      have NS9 : Hid (NSt q B w [.int .i64 b, .int .i64 n, strT s, lv, av'] z l3 m' w9) := NS8.out.set bw9 uw9
      have RL9 := Lib.hid (RL8.out.upd uw9 (Nat.lt_succ_self z))
      have RT9 := Lib.hid (RT8.out.upd uw9 (Nat.lt_succ_self z))
      have TN9 : Hid ((ts ++ [x]).length = j + 1) := by rw [Hid, List.length_append, TN.out]; rfl
      have TA9 := Lib.hid (TA.out.step hlt hl)
      have MJ9 : Hid (m' ≤ M) := Nat.le_trans (nodeP_room _ _ _ _ hl) MJ.out
      clear bw9 uw9 NS8 RL8 RT8 AV1 TN TA hl MJ
      refine reg_done (by kernel_rfl) (hN _ _ ?_)
      generalize hact : Act.put _ none _ = act
      simp only [Act.put, sA, sC, sZ] at hact
      subst hact
      have ca := CA.out
      clear hQN hN hP
      go_wp2
      go_roundw
      case rel => exact ⟨j + 1, av', _, m', l3, by omega, by go_num, TN9, RL9, RT9, NS9, TA9, MJ9, SEP8⟩
      case measure => simp [intOf]; omega
    obtain rfl : j = a := by omega
    have c1 : ¬ ((j : Int) < (j : Int)) := by omega
    have HTS := Lib.hid TA.out.done
    clear TA
    go_upto_region 25 with (fail)
    refine lbeg (opsOf Try.f79 25) ?_
    refine lnow 0 (.bool (decide ((j : Int) < (j : Int)))) (some 65) ?_
    rw [decide_eq_false c1]
    refine ldn 1 ?_
    generalize hact : Act.put _ (some 65) _ = act
    simp only [Act.put, sA, sC, sZ] at hact
    subst hact
    obtain ⟨DS, hDS⟩ : ∃ x, Hid ([.int .i64 b, .int .i64 n, strT s, lv, av] = x) := ⟨_, rfl⟩
    have FIN : Hid (TmAt (List.range (z + 1)) wr (.mk b n s ls ts) DS) := by rw [← hDS.out]; exact TmAt.mk (t := .mk b n s ls ts) RL.out.in RT.out.in
    have ONE := Lib.hid FIN.out.one
    have DS5 : Hid (DS.length = 5) := FIN.out.len
    rw [hDS.out] at NS
    clear RL RT hDS SEP
    have qb := NS.out.qb
    have bz := NS.out.bz
    go_upto_region 28 with (fail)
    refine lbeg (opsOf Try.f79 28) ?_
    refine lrl 0 (DS) (some 74) 25 3 (z) 0 (NS.out.bt).whole Try.underlying25 (t5Size DS5.out) ?_
    refine lput 1 25 (.tmp 2) (.tmp 74) (B) _ (z5T) (DS) NS.out.br (DS5.out.trans (rfl : z5T.length = 5).symm) (t5Size DS5.out) (by simpa using ONE.out) ?_
    intro w9 bw9 uw9
    refine ldn 2 ?_
    generalize hact : Act.put _ none _ = act
    simp only [Act.put, sA, sC, sZ] at hact
    subst hact
    have POST : Hid (NdP q (nodeP (f + 1) (M + 1, b :: l)) w (.returned (.agg DS.toArray)) w9) := NdP.yes (by rw [hB.out]; exact NS.out.be.newBlk uw9 (Nat.le_refl _) (Nat.le_of_lt NS.out.br.lt)) (nodeP_y EH.out HLS.out HTS.out) (by rw [hB.out]; exact (TmAt.step (Step.of_upd uw9 (List.mem_range.2 (by omega))) _ _ FIN.out).range (by omega)) (NS.out.rd.upd uw9 qb)
    have HB9 := Lib.hid bw9
    clear bw9 uw9 NS FIN
    go_wp2
    refine bodyPost_ret (v := .agg DS.toArray) ?_ rfl POST.out
    exact results_cell_row (g := B) (t := 25) (cs := DS.toArray) (fr := (0, 0)) Try.results79 _ _ _ rfl HB9.out Try.underlying25 rfl (t5Size DS5.out)
end Go.Proofs.Yteohjbggicchgaa
namespace Go.Proofs.Yteohjbggicchgaa
open Go Go.RowKit
set_option maxRecDepth 100000
theorem termsB_mem : ∀ {a : List Tm} {x : Tm}, x ∈ a → (termB x).length ≤ (termsB a).length
 | t :: ts, x, h => by
  rw [termsB, List.length_append]
  rcases List.mem_cons.1 h with rfl | h
  ·omega
  ·have := termsB_mem h
   omega
theorem terms_nodes : ∀ {a : List Tm}, (∀ x ∈ a, nodesT x ≤ (termB x).length) → nodesTs a ≤ (termsB a).length
 | [], _ => by rw [nodesTs]; omega
 | t :: ts, h => by
  rw [nodesTs, termsB, List.length_append]
  have h1 := h t (by simp)
  have h2 := terms_nodes (a := ts) fun x hx => h x (by simp [hx])
  omega
theorem ReadTs.mem : ∀ {ts : List Tm} {x : Tm}, ReadTs ts → x ∈ ts → ReadT x
 | t :: ts, x, h, hx => by
  rw [ReadTs] at h
  rcases List.mem_cons.1 hx with rfl | hx
  ·exact h.1
  ·exact ReadTs.mem h.2 hx
theorem read_small : ∀ t : Tm, ReadT t → nodesT t ≤ (termB t).length ∧ ((termB t).length ≤ 1000000000 → SmT t) := by
 refine Tm.byParts fun k n s l a ih h => ?_
 rw [ReadT] at h
 obtain ⟨⟨hl, ha, hs⟩, hr⟩ := h
 have hL : ((l.map levelB).flatten).length = 5 * l.length := lvsB_len hl
 have hA := terms_nodes (a := a) fun x hx => (ih x hx (ReadTs.mem hr hx)).1
 have hS : s.length ≤ (if k = 4 ∨ k = 9 then textB s else []).length := by
  by_cases hk : k = 4 ∨ k = 9
  ·rw [if_pos hk, textB, List.length_append, strB_len]
   omega
  ·rw [hs hk]
   exact Nat.zero_le _
 have hR : reachBytes = 140737488351232 := rfl
 rw [termB, nodesT, SmT, hR]
 simp only [List.length_cons, List.length_append, hL]
 refine ⟨by omega, fun hb => ⟨by omega, by omega, by omega, SmTs.of fun x hx => (ih x hx (ReadTs.mem hr hx)).2 ?_⟩⟩
 have := termsB_mem hx
 omega
def GoodT (t : Tm) : Prop := SmT t ∧ nodesT t ≤ 1000000000
theorem GoodT.of {t : Tm} (h : ReadT t) (hl : (termB t).length ≤ 1000000000) : GoodT t := ⟨(read_small t h).2 hl, Nat.le_trans (read_small t h).1 hl⟩
theorem termP_good {l r : List Int} {t : Tm} (hb : isB l) (hl : l.length ≤ 1000000000) (h : termP l = some (t, r)) : GoodT t ∧ r.length ≤ l.length := by
 obtain ⟨e, hr⟩ := termP_sound hb h
 have e2 := congrArg List.length e
 rw [List.length_append] at e2
 exact ⟨GoodT.of hr (by omega), by omega⟩
theorem textP_good {l r : List Int} {s : List UInt8} (hb : isB l) (hl : l.length ≤ 1000000000) (h : textP l = some (s, r)) : s.length ≤ 1000000000 ∧ r.length ≤ l.length ∧ isB r := by
 have e := textP_sound hb h
 have e2 := congrArg List.length e
 rw [List.length_append, textB, List.length_append, strB_len] at e2
 rw [e] at hb
 exact ⟨by omega, by omega, hb.right⟩
theorem ctor_mem : ∀ {cs : List (List UInt8 × Tm)} {c : List UInt8 × Tm}, c ∈ cs → (ctorB c).length ≤ (cs.map ctorB).flatten.length
 | x :: cs, c, h => by
  rw [List.map_cons, List.flatten_cons, List.length_append]
  rcases List.mem_cons.1 h with rfl | h
  ·omega
  ·have := ctor_mem h
   omega
def GoodC (cs : List (List UInt8 × Tm)) : Prop := cs.length ≤ 1000 ∧ ∀ c ∈ cs, c.1.length ≤ 1000000000 ∧ GoodT c.2
theorem ctors_good {l r : List Int} {n : Nat} {cs : List (List UInt8 × Tm)} (hb : isB l) (hl : l.length ≤ 1000000000) (hn : n ≤ 1000) (h : timesP ctorP n l = some (cs, r)) : GoodC cs := by
 obtain ⟨e, h1, h2⟩ := timesP_sound (p := ctorP) (π := fun s => s) (enc := ctorB) (G := fun c => ReadT c.2) (fun s x s' hs hp => ctorP_sound hs hp) hb h
 have e2 := congrArg List.length e
 rw [List.length_append] at e2
 refine ⟨by omega, fun c hc => ?_⟩
 have h3 := ctor_mem hc
 have h4 : (ctorB c).length = (textB c.1).length + (termB c.2).length := by rw [ctorB, List.length_append]
 have h5 : c.1.length ≤ (textB c.1).length := by rw [textB, List.length_append, strB_len]; omega
 exact ⟨by omega, GoodT.of (h2 c hc) (by omega)⟩
structure GoodD (d : Dc) : Prop where
 name : d.name.length ≤ 1000000000
 ty : GoodT d.ty
 val : GoodT d.val
 ctors : GoodC d.ctors
theorem GoodD.sm {d : Dc} (h : GoodD d) : SmD d := by
 have hR : reachBytes = 140737488351232 := rfl
 exact ⟨by have := h.name; omega, h.ty.1, h.val.1, by have := h.ctors.1; omega, fun c hc => ⟨by have := (h.ctors.2 c hc).1; omega, (h.ctors.2 c hc).2.1⟩⟩
theorem GoodD.big {d : Dc} (h : GoodD d) : BigD d := ⟨Nat.le_trans h.ty.2 (by decide), Nat.le_trans h.val.2 (by decide), fun c hc => Nat.le_trans (h.ctors.2 c hc).2.2 (by decide)⟩
theorem nT_good : GoodT nT := ⟨nT_sm, by rw [nT, nodesT, nodesTs]; decide⟩
theorem GoodC.nil : GoodC [] := ⟨by decide, fun c hc => by cases hc⟩
def RdM {β : Type} (q : Nat) (o : Option (β × List Int)) (R : β → Value → World → World → Prop) (w : World) (e : Ending) (w' : World) : Prop :=
 Bel [q] w.heap.size w w' ∧ match o with
 | none => e = fellF
 | some (x, l) => ∃ v m, e = .returned v ∧ R x v w w' ∧ RdAt q w' l m
theorem RdM.no {β : Type} {q : Nat} {o : Option (β × List Int)} {R : β → Value → World → World → Prop} {w w' : World} (h : Bel [q] w.heap.size w w') (ho : o = none) : RdM q o R w fellF w' := by
 subst ho
 exact ⟨h, rfl⟩
theorem RdM.yes {β : Type} {q m : Nat} {o : Option (β × List Int)} {R : β → Value → World → World → Prop} {w w' : World} {x : β} {l : List Int} {v : Value} (h : Bel [q] w.heap.size w w') (ho : o = some (x, l)) (hR : R x v w w') (hl : RdAt q w' l m) : RdM q o R w (.returned v) w' := by
 subst ho
 exact ⟨h, v, m, rfl, hR, hl⟩
def RTm (t : Tm) (v : Value) (w w' : World) : Prop := ∃ cs, v = .agg cs.toArray ∧ TmAt (List.range w.heap.size) w' t cs
theorem termP_none {l : List Int} (h : nodeP 3000 (3000, l) = none) : termP l = none := by unfold termP; rw [h]
theorem termP_some {l r : List Int} {m : Nat} {t : Tm} (h : nodeP 3000 (3000, l) = some (t, (m, r))) : termP l = some (t, r) := by unfold termP; rw [h]
-- a row of constructors of the call's own
def ctRow : List (List UInt8 × Tm) → List (List Value) → List (List Value)
 | c :: cs, d :: ds => (strT c.1 :: d) :: ctRow cs ds
 | _, _ => []
theorem ctRow_snoc : ∀ {cs : List (List UInt8 × Tm)} {ds : List (List Value)} (c : List UInt8 × Tm) (d : List Value), ds.length = cs.length → ctRow (cs ++ [c]) (ds ++ [d]) = ctRow cs ds ++ [strT c.1 :: d]
 | [], [], c, d, _ => rfl
 | x :: cs, y :: ds, c, d, h => by
  rw [List.cons_append, List.cons_append, ctRow, ctRow_snoc c d (by simpa using h)]
  rfl
 | [], _ :: _, _, _, h => by simp at h
 | _ :: _, [], _, _, h => by simp at h
theorem ctRow_at {F : List Nat} {w : World} : ∀ {cs : List (List UInt8 × Tm)} {ds : List (List Value)} {i : Nat} {c : List UInt8 × Tm}, TmCells F w (cs.map (·.2)) ds → cs[i]? = some c → ∃ xs, TmAt F w c.2 xs ∧ ∀ (j : Nat) (u : Value), (strT c.1 :: xs)[j]? = some u → (ctRow cs ds).flatten[6 * i + j]? = some u
 | [], _, _, _, _, h => by simp at h
 | x :: cs, [], _, _, h, _ => h.elim
 | x :: cs, d :: ds, 0, c, h, hc => by
  obtain rfl : x = c := by simpa using hc
  refine ⟨d, h.1, fun j u hu => ?_⟩
  have hj := (List.getElem?_eq_some_iff.1 hu).1
  rw [ctRow, List.flatten_cons, List.getElem?_append_left (by omega)]
  simpa using hu
 | x :: cs, d :: ds, i + 1, c, h, hc => by
  obtain ⟨xs, h1, h2⟩ := ctRow_at (cs := cs) (ds := ds) (i := i) h.2 (by simpa using hc)
  refine ⟨xs, h1, fun j u hu => ?_⟩
  have h5 : (strT x.1 :: d).length = 6 := by rw [List.length_cons, h.1.len]
  rw [ctRow, List.flatten_cons, List.getElem?_append_right (by omega), h5, show 6 * (i + 1) + j - 6 = 6 * i + j by omega]
  exact h2 j u hu
def RowK (m : Nat) (w : World) (v : Value) (cs : List (List UInt8 × Tm)) : Prop := ∃ ds, w.ownsRow m 67 6 v cs.length (ctRow cs ds).flatten ∧ TmCells (List.range m ++ ownL v) w (cs.map (·.2)) ds
theorem RowK.nil (m : Nat) (w : World) : RowK m w (.slice none 0 0) [] := ⟨[], World.ownsRow_nil w m 67 6, trivial⟩
theorem RowK.own {m : Nat} {w : World} {v : Value} {cs : List (List UInt8 × Tm)} (h : RowK m w v cs) : ∀ g, v.ownBlock = some g → m ≤ g ∧ g < w.heap.size := by
 obtain ⟨ds, h1, -⟩ := h
 exact own_where h1
theorem RowK.step {m : Nat} {w w' : World} {v : Value} {cs : List (List UInt8 × Tm)} {F : List Nat} (h : RowK m w v cs) (hs : Step F w F w') (hF : ∀ k ∈ F, k < m) : RowK m w' v cs := by
 obtain ⟨ds, h1, h2⟩ := h
 have ho := own_where h1
 refine ⟨ds, own_step h1 hs (fun g hg hgF => by have := hF g hgF; have := (ho g hg).1; omega), ?_⟩
 have hs2 : Step (List.range m ++ ownL v) w (List.range m ++ ownL v) w' := ⟨hs.os, hs.tape, hs.output, hs.size, fun k hk hn => hs.block k hk (fun hc => hn (List.mem_append_left _ (List.mem_range.2 (hF k hc)))), fun k hk => .inl hk⟩
 exact TmCells.step hs2 h2
theorem RowK.below {m : Nat} {w w' : World} {v : Value} {cs : List (List UInt8 × Tm)} (h : RowK m w v cs) (hb : Below w.heap.size w w') : RowK m w' v cs := h.step (F := []) (Step.of_below hb (Nat.le_refl _)) (fun k hk => by cases hk)
theorem RowK.upd {m b : Nat} {w w' : World} {v : Value} {cs : List (List UInt8 × Tm)} (h : RowK m w v cs) (hu : Upd b w w') (hb : b < m) : RowK m w' v cs := h.step (F := [b]) (Step.of_upd hu (by simp)) (fun k hk => by simp at hk; omega)
theorem RowK.in {m : Nat} {w : World} {v : Value} {cs : List (List UInt8 × Tm)} (h : RowK m w v cs) : CtsAt (List.range m) w cs v := by
 obtain ⟨ds, h1, hc⟩ := h
 obtain ⟨h0, h1⟩ := h1
 rcases h1 with ⟨rfl, hn⟩ | ⟨g, cap, cur, rfl, hg, hb, hcp, hm, hs, ht⟩
 ·obtain rfl := List.eq_nil_of_length_eq_zero hn
  exact CtsAt.nil _ _ _ _
 ·refine ⟨some ⟨g, 0, none⟩, cap, rfl, hcp, fun _ => ⟨g, 0, rfl, fun hh => by have := List.mem_range.1 hh; omega, (Array.getElem?_eq_some_iff.1 hb).1, fun i c hi => ?_⟩⟩
  have hB : Blk w g 67 cur.toList := by unfold Blk; simpa using hb
  obtain ⟨xs, g1, g2⟩ := ctRow_at hc hi
  refine ⟨xs, fun j u hu => hB.cell ?_, TmAt.sub (fun k hk => .inl (List.mem_append_left _ hk)) _ _ g1⟩
  have h5 := g2 j u hu
  rw [← ht, List.getElem?_take] at h5
  split at h5
  ·rw [Nat.zero_add]; exact h5
  ·cases h5
theorem RowK.slice {m : Nat} {w : World} {v : Value} {cs : List (List UInt8 × Tm)} (h : RowK m w v cs) : ∃ a n c, v = .slice a n c := by
 obtain ⟨a, c, rfl⟩ := h.in.slice
 exact ⟨a, _, c, rfl⟩
theorem elemCts1 : Try.prog.underlying 36 = some (.slice 67) := by kernel_rfl
theorem infoCt : (Try.prog.info? 67).map (fun i => (i.zero, i.size, i.bytes)) = some (some (.agg zC.toArray), 6, 96) := by kernel_rfl
theorem sizeCts : (Try.prog.info? 36).map (·.size) = some 1 := by kernel_rfl
theorem run_build_ct (s0 : ByteArray) (k n : Int) (s : ByteArray) (la aa : Option Addr) (L lc N ac : Nat) (w : World) : (Instr.buildSlice 36 1 #[(0, .agg [Value.string s0, Value.int .i64 k, .int .i64 n, .string s, .slice la L lc, .slice aa N ac].toArray)]).run Try.prog w = .ok (.slice (some ⟨w.heap.size, 0, none⟩) 1 1) (w.alloc (.cells [Value.string s0, Value.int .i64 k, .int .i64 n, .string s, .slice la L lc, .slice aa N ac].toArray 67)) := by kernel_rfl
theorem run_build_ct1 {F : List Nat} {w : World} {t : Tm} {xs : List Value} (h : TmAt F w t xs) (s : List UInt8) (w' : World) : (Instr.buildSlice 36 1 #[(0, .agg (strT s :: xs).toArray)]).run Try.prog w' = .ok (.slice (some ⟨w'.heap.size, 0, none⟩) 1 1) (w'.alloc (.cells (strT s :: xs).toArray 67)) := by
 obtain ⟨lv, av, rfl, h1, h2⟩ := h.open
 obtain ⟨la, lc, rfl⟩ := h1.slice
 obtain ⟨aa, ac, rfl⟩ := h2.slice
 exact run_build_ct _ _ _ _ _ _ _ _ _ _ _
theorem run_build_ctv (s0 : ByteArray) (k n : Int) (s : ByteArray) (la aa : Option Addr) (L lc N ac : Nat) (w : World) : (Instr.build 67 #[(0, Value.string s0), (1, .agg [Value.int .i64 k, .int .i64 n, .string s, .slice la L lc, .slice aa N ac].toArray)]).run Try.prog w = .ok (.agg [Value.string s0, Value.int .i64 k, .int .i64 n, .string s, .slice la L lc, .slice aa N ac].toArray) w := by kernel_rfl
theorem run_build_ctw {F : List Nat} {w : World} {t : Tm} {xs : List Value} (h : TmAt F w t xs) (s : List UInt8) (w' : World) : (Instr.build 67 #[(0, strT s), (1, .agg xs.toArray)]).run Try.prog w' = .ok (.agg (strT s :: xs).toArray) w' := by
 obtain ⟨lv, av, rfl, h1, h2⟩ := h.open
 obtain ⟨la, lc, rfl⟩ := h1.slice
 obtain ⟨aa, ac, rfl⟩ := h2.slice
 exact run_build_ctv _ _ _ _ _ _ _ _ _ _ _
theorem run_build_dcv (k p : Int) (s0 : ByteArray) (k1 n : Int) (s : ByteArray) (la aa : Option Addr) (L lc N ac : Nat) (w : World) : (Instr.build 38 #[(0, .int .i64 k), (2, Value.string s0), (1, .int .i64 p), (3, .agg [Value.int .i64 k1, .int .i64 n, .string s, .slice la L lc, .slice aa N ac].toArray)]).run Try.prog w = .ok (.agg (([.int .i64 k, .int .i64 p, .string s0] : List Value) ++ (([.int .i64 k1, .int .i64 n, .string s, .slice la L lc, .slice aa N ac] : List Value) ++ (z5T ++ ([.int .i64 0, .slice none 0 0] : List Value)))).toArray) w := by kernel_rfl
def dC0 (k p : Int) (s : List UInt8) (tc : List Value) : List Value := [.int .i64 k, .int .i64 p, strT s] ++ (tc ++ (z5T ++ [.int .i64 0, .slice none 0 0]))
theorem run_build_dc {F : List Nat} {w : World} {t : Tm} {xs : List Value} (h : TmAt F w t xs) (k p : Int) (s : List UInt8) (w' : World) : (Instr.build 38 #[(0, .int .i64 k), (2, strT s), (1, .int .i64 p), (3, .agg xs.toArray)]).run Try.prog w' = .ok (.agg (dC0 k p s xs).toArray) w' := by
 obtain ⟨lv, av, rfl, h1, h2⟩ := h.open
 obtain ⟨la, lc, rfl⟩ := h1.slice
 obtain ⟨aa, ac, rfl⟩ := h2.slice
 exact run_build_dcv _ _ _ _ _ _ _ _ _ _ _ _ _
theorem RowK.append {m : Nat} {w : World} {v : Value} {cs : List (List UInt8 × Tm)} {s : List UInt8} {t : Tm} {g : Nat} {xs : List Value} (h : RowK m w v cs) (hb : Blk w g 67 (strT s :: xs)) (ht : TmAt (List.range m ++ ownL v) w t xs) (hn : (cs.length + 1) * 96 ≤ 140737488355328) (hm : m ≤ w.heap.size) :
    ∃ v' w', (Builtin.append_ #[36, 36] 36 #[v, .slice (some ⟨g, 0, none⟩) 1 1]).run Try.prog w = .ok v' w' ∧ RowK m w' v' (cs ++ [(s, t)]) ∧ w.grownBy w' v.ownBlock ∧ (v'.ownBlock = v.ownBlock ∨ v'.ownBlock = some w.heap.size) := by
  obtain ⟨ds, h1, h2⟩ := h
  obtain ⟨i0, hi0, hz0, hz1, hz2⟩ := info_parts infoCt
  have hl : (strT s :: xs).length = 6 := by rw [List.length_cons, ht.len]
  obtain ⟨v', w', e1, e2, e3, -, e5⟩ := run_append_own_at w m 36 36 67 i0 _ 6 96 elemCts1 hi0 hz0 hz1 hz2 (by rfl) (by decide) v cs.length (ctRow cs ds).flatten h1 ⟨g, 0, none⟩ 1 1 (strT s :: xs) (by rw [hl]) (fun j u hj => by rw [Addr.add_mid]; exact hb.whole j u hj) (fun u hu => by rcases List.mem_cons.1 hu with rfl | hu; rfl; exact ht.one u hu) (by unfold maxLen; omega) hn hm
  have hs := grown_step (m := m) e3 e5
  refine ⟨v', w', e1, ⟨ds ++ [xs], ?_, ?_⟩, e3, e5⟩
  · rw [ctRow_snoc (s, t) xs (by have := h2.len; simpa using this), List.flatten_append, List.length_append]
    simpa using e2
  · rw [List.map_append]
    exact TmCells.snoc (TmAt.step hs _ _ ht) (TmCells.step hs h2)
set_option maxHeartbeats 4000000 in
theorem term_walkR (q : Nat) (w : World) (l : List Int) (m : Nat) (h : RdAt q w l m) : Calls Try.prog 53 #[.pointer (some ⟨q, 0, none⟩)] w (RdM q (termP l) RTm w) := by
 obtain ⟨B, hB⟩ : ∃ B, Hid (w.heap.size = B) := ⟨_, rfl⟩
 have H := Lib.hid h
 have QB : Hid (q < B) := by rw [← hB.out]; exact h.lt
 clear h
 go_enter Try.func53, Try.ntmps53
 go_upto_region 0 with (fail)
 refine lbeg (opsOf Try.f53 0) ?_
 refine lall 0 25 z5T (B) (some 2) hB ?_
 intro w1 bw1 bew1 hsw1
 refine ldn 1 ?_
 generalize hact : Act.put _ (some 2) _ = act
 simp only [Act.put, sA, sC, sZ] at hact
 subst hact
 obtain ⟨v, hblk, hby, hisB, hlen⟩ := H.out.below bew1 QB.out
 have BR := Lib.hid bw1
 have BB1 : Hid (Bel [q] B w w1) := Bel.of bew1
 have S1 : Hid (w1.heap.size = B + 1) := hsw1
 have BQ := Lib.hid hblk
 have BY := Lib.hid hby
 have IB := Lib.hid hisB
 have LL := Lib.hid hlen
 clear bw1 bew1 hsw1 hblk hby hisB hlen H
 go_upto_region 1 with (fail)
 refine lbeg (opsOf Try.f53 1) ?_
 refine lnow 0 (.pointer (some ⟨q, 0, none⟩)) (some 3) ?_
 refine lnow 1 (.pointer (some ⟨q, 0, none⟩)) (some 4) ?_
 refine lnow 2 (.pointer (some ⟨q, 1, none⟩)) (some 5) ?_
 refine lin_putF 3 1 3 (.tmp 5) (.const (.int .i64 3000)) q 87 [v, .int .i64 (m : Int)] (.int .i64 3000) (by kernel_rfl) (by kernel_rfl) (by kernel_rfl) (by kernel_rfl) (by kernel_rfl) BQ.out (by simp) sizeIntR rfl rfl ?_
 intro w2 b2 u2
 refine ldn 4 ?_
 generalize hact : Act.put _ none _ = act
 simp only [Act.put, sA, sC, sZ] at hact
 subst hact
 have RD2 : Hid (RdAt q w2 l 3000) := ⟨v, b2, BY.out.keep (fun k hk hk2 => u2.block k hk2 (by omega)) u2.size, IB.out, LL.out⟩
 have BR2 : Hid (Blk w2 B 25 z5T) := u2.blk BR.out (by have := QB.out; omega)
 have BB2 : Hid (Bel [q] B w w2) := BB1.out.upd u2 (.inl (by simp)) (by have := S1.out; omega)
 have S2 : Hid (B < w2.heap.size) := BR2.out.lt
 clear b2 u2 BQ BY IB LL BR BB1 S1
 have CALL := node_walk 3000 q w2 l 3000 RD2.out (Nat.le_refl _) (Nat.le_refl _)
 go_upto_region 2 with (fail)
 refine lbeg (opsOf Try.f53 2) ?_
 refine lnow 0 (.pointer (some ⟨q, 0, none⟩)) (some 6) ?_
 cases hn : nodeP 3000 (3000, l) with
 | none =>
  rw [hn] at CALL
  refine lin_callP 1 79 #[.pointer (some ⟨q, 0, none⟩)] (some 7) _ (by kernel_rfl) (by kernel_rfl) (by kernel_rfl) (CALL) ?_
  rintro e w' ⟨hb, hr⟩
  obtain rfl : e = fellF := hr
  exact .inr ⟨_, rfl, rfl, RdM.no (by rw [hB.out]; exact BB2.out.trans (hb.mono (Nat.le_of_lt S2.out))) (termP_none hn)⟩
 | some y =>
  obtain ⟨x, m', l3⟩ := y
  rw [hn] at CALL
  refine lin_callP 1 79 #[.pointer (some ⟨q, 0, none⟩)] (some 7) _ (by kernel_rfl) (by kernel_rfl) (by kernel_rfl) (CALL) ?_
  rintro e w3 ⟨hb3, cs, rfl, hct, hr3⟩
  dsimp only at hr3
  refine .inl ⟨_, rfl, ?_⟩
  have C5 := Lib.hid hct.len
  have ONE := Lib.hid hct.one
  have qb := QB.out
  have BR3 : Hid (Blk w3 B 25 z5T) := bel_keep hb3 BR2.out (by omega) S2.out
  refine lput 2 25 (.tmp 2) (.tmp 7) (B) _ (z5T) (cs) BR3.out (C5.out.trans (rfl : z5T.length = 5).symm) (t5Size C5.out) (by simpa using ONE.out) ?_
  intro w9 bw9 uw9
  refine ldn 3 ?_
  generalize hact : Act.put _ none _ = act
  simp only [Act.put, sA, sC, sZ] at hact
  subst hact
  have s2 := S2.out
  have POST : Hid (RdM q (termP l) RTm w (.returned (.agg cs.toArray)) w9) := RdM.yes (by rw [hB.out]; exact (BB2.out.trans (hb3.mono (Nat.le_of_lt S2.out))).newBlk uw9 (Nat.le_refl _) (Nat.le_of_lt BR3.out.lt)) (termP_some hn) ⟨cs, rfl, by rw [hB.out]; exact (TmAt.step (Step.of_upd uw9 (List.mem_range.2 (by omega))) _ _ hct).range (by omega)⟩ (hr3.upd uw9 qb)
  have HB9 := Lib.hid bw9
  clear bw9 uw9 hct hr3 hb3 CALL
  go_wp2
  refine bodyPost_ret (v := .agg cs.toArray) ?_ rfl POST.out
  exact results_cell_row (g := B) (t := 25) (cs := cs.toArray) (fr := (0, 0)) Try.results53 _ _ _ rfl HB9.out Try.underlying25 rfl (t5Size C5.out)
end Go.Proofs.Yteohjbggicchgaa
namespace Go.Proofs.Yteohjbggicchgaa
open Go Go.RowKit
set_option maxRecDepth 100000
structure DSt (q B : Nat) (w0 : World) (zc : List Value) (z : Nat) (l : List Int) (m : Nat) (wr : World) : Prop where
 bt : Blk wr z 38 zc
 br : Blk wr B 38 zD
 rd : RdAt q wr l m
 be : Bel [q] B w0 wr
 qb : q < B
 bz : B < z
theorem DSt.call {q B z m m' : Nat} {w0 wr w' : World} {zc : List Value} {l l' : List Int} (h : DSt q B w0 zc z l m wr) (hb : Bel [q] wr.heap.size wr w') (hr : RdAt q w' l' m') : DSt q B w0 zc z l' m' w' :=
 ⟨bel_keep hb h.bt (by have := h.qb; have := h.bz; omega) h.bt.lt, bel_keep hb h.br (by have := h.qb; omega) h.br.lt, hr, h.be.trans (hb.mono (Nat.le_of_lt h.br.lt)), h.qb, h.bz⟩
theorem DSt.fell {q B z m : Nat} {w0 wr w' : World} {zc : List Value} {l : List Int} (h : DSt q B w0 zc z l m wr) (hb : Bel [q] wr.heap.size wr w') : Bel [q] B w0 w' := h.be.trans (hb.mono (Nat.le_of_lt h.br.lt))
theorem DSt.set {q B z m : Nat} {w0 wr w' : World} {zc zc' : List Value} {l : List Int} (h : DSt q B w0 zc z l m wr) (hb : Blk w' z 38 zc') (hu : Upd z wr w') : DSt q B w0 zc' z l m w' :=
 ⟨hb, hu.blk h.br (by have := h.bz; omega), h.rd.upd hu (by have := h.qb; have := h.bz; omega), h.be.newBlk hu (Nat.le_of_lt h.bz) (Nat.le_of_lt h.br.lt), h.qb, h.bz⟩
theorem DSt.below {q B z m k : Nat} {w0 wr w' : World} {zc : List Value} {l : List Int} (h : DSt q B w0 zc z l m wr) (hb : Below k wr w') (hk : z < k) : DSt q B w0 zc z l m w' :=
 ⟨h.bt.below hb hk, h.br.below hb (by have := h.bz; omega), h.rd.below hb (by have := h.qb; have := h.bz; omega), h.be.trans (Bel.of (hb.mono (by have := h.bz; omega))), h.qb, h.bz⟩
section
variable {P : Program} {ops : Array Oper} {Q : Exit → Act → World → Prop}
theorem reg_lccP {S : World → Prop} {fuel : Nat} {listed : Array Bool} {a : Act} {w : World} (K : World → Prop) (i j1 j2 k1 k2 : Nat) (vi : Value) (di d1 d2 e1 e2 : Tmp) (f1 f2 : FuncId) (args1 args2 : Array Value) (R1 : Ending → World → Prop) (hS : S w) (hSn : ∀ w1, K w1 → S w1)
    (hg : (ops[i]?.isSome && (opAt ops i).guard.isNone && ops[j1]?.isSome && (opAt ops j1).guard.isNone && ops[j2]?.isSome && (opAt ops j2).guard.isNone && ops[k1]?.isSome && (opAt ops k1).guard.isNone && ops[k2]?.isSome && (opAt ops k2).guard.isNone) = true) (hr : ((Region.ready .any ops (listed) == [i, j1]) && (Region.ready .any ops ((listed).setIfInBounds j1 true) == [i, j2]) && (Region.ready .any ops (((listed).setIfInBounds j1 true).setIfInBounds j2 true) == [i, k1]) && (Region.ready .any ops ((((listed).setIfInBounds j1 true).setIfInBounds j2 true).setIfInBounds k1 true) == [i, k2]) && (Region.ready .any ops (((((listed).setIfInBounds j1 true).setIfInBounds j2 true).setIfInBounds k1 true).setIfInBounds k2 true) == [i]) && (Region.ready .any ops ((listed).setIfInBounds i true) == [j1]) && (Region.ready .any ops (((listed).setIfInBounds i true).setIfInBounds j1 true) == [j2]) && (Region.ready .any ops ((((listed).setIfInBounds i true).setIfInBounds j1 true).setIfInBounds j2 true) == [k1]) && (Region.ready .any ops (((((listed).setIfInBounds i true).setIfInBounds j1 true).setIfInBounds j2 true).setIfInBounds k1 true) == [k2])) = true)
    (hdi : (opAt ops i).dst = some di) (hd1 : (opAt ops j1).dst = some d1) (hd2 : (opAt ops j2).dst = some d2) (he1 : (opAt ops k1).dst = some e1) (he2 : (opAt ops k2).dst = some e2)
    (nd : di ≠ d1 ∧ di ≠ d2 ∧ di ≠ e1 ∧ di ≠ e2) (ni : i ≠ j1 ∧ i ≠ j2 ∧ i ≠ k1 ∧ i ≠ k2)
    (h0 : (execOp (a).eval (opAt ops i)).run P w = .ok (.value vi) w) (h1 : ∀ v1 w1, K w1 → (execOp ((a).put (some d1) v1).eval (opAt ops i)).run P w1 = .ok (.value vi) w1) (h2 : ∀ v1 v2 w1, K w1 → (execOp (((a).put (some d1) v1).put (some d2) v2).eval (opAt ops i)).run P w1 = .ok (.value vi) w1) (h3 : ∀ v1 v2 u1 w1, K w1 → (execOp ((((a).put (some d1) v1).put (some d2) v2).put (some e1) u1).eval (opAt ops i)).run P w1 = .ok (.value vi) w1) (h4 : ∀ v1 v2 u1 u2 w1, K w1 → (execOp (((((a).put (some d1) v1).put (some d2) v2).put (some e1) u1).put (some e2) u2).eval (opAt ops i)).run P w1 = .ok (.value vi) w1)
    (c10 : (execOp (a).eval (opAt ops j1)).run P w = .ok (.enter f1 args1) w) (c11 : (execOp ((a).put (some di) vi).eval (opAt ops j1)).run P w = .ok (.enter f1 args1) w) (c20 : ∀ v1 w1, (execOp ((a).put (some d1) v1).eval (opAt ops j2)).run P w1 = .ok (.enter f2 args2) w1) (c21 : ∀ v1 w1, (execOp (((a).put (some di) vi).put (some d1) v1).eval (opAt ops j2)).run P w1 = .ok (.enter f2 args2) w1)
    (hc1 : Calls P f1 args1 w R1)
    (h : ∀ e w1, R1 e w1 → (∃ ch, e = .panicked ch ∧ ∀ a' : Act, a'.defers = a.defers → Q (.panic ch) a' w1) ∨ (K w1 ∧ ∃ v1, e = .returned v1 ∧ ∃ R2, Calls P f2 args2 w1 R2 ∧ ∀ e w2, R2 e w2 → (∃ ch, e = .panicked ch ∧ ∀ a' : Act, a'.defers = a.defers → Q (.panic ch) a' w2) ∨ (K w2 ∧ ∃ v2, e = .returned v2 ∧ ∃ u1 u2 w3, K w3 ∧
      (execOp (((a).put (some d1) v1).put (some d2) v2).eval (opAt ops k1)).run P w2 = .ok (.value u1) w2 ∧ (execOp ((((a).put (some di) vi).put (some d1) v1).put (some d2) v2).eval (opAt ops k1)).run P w2 = .ok (.value u1) w2 ∧ (execOp ((((a).put (some d1) v1).put (some d2) v2).put (some e1) u1).eval (opAt ops k2)).run P w2 = .ok (.value u2) w3 ∧ (execOp (((((a).put (some di) vi).put (some d1) v1).put (some d2) v2).put (some e1) u1).eval (opAt ops k2)).run P w2 = .ok (.value u2) w3 ∧
      wpAnyH P .any ops Q S fuel ((((((listed).setIfInBounds i true).setIfInBounds j1 true).setIfInBounds j2 true).setIfInBounds k1 true).setIfInBounds k2 true) ((((((a).put (some di) vi).put (some d1) v1).put (some d2) v2).put (some e1) u1).put (some e2) u2) w3))) : wpAnyH P .any ops Q S (fuel + 5) listed a w := by
  simp only [Bool.and_eq_true, beq_iff_eq] at hg hr
  obtain ⟨⟨⟨⟨⟨⟨⟨⟨⟨gi, ni'⟩, g1⟩, n1⟩, g2⟩, n2⟩, g3⟩, n3⟩, g4⟩, n4⟩ := hg
  obtain ⟨⟨⟨⟨⟨⟨⟨⟨r0, r1⟩, r2⟩, r3⟩, r4⟩, s0⟩, s1⟩, s2⟩, s3⟩ := hr
  obtain ⟨q1, q2, q3, q4⟩ := nd
  obtain ⟨m1, m2, m3, m4⟩ := ni
  have Wi : ∀ y, Region.wanted (opAt ops i) y = true := fun y => by simp [Region.wanted, Option.isNone_iff_eq_none.1 ni']
  have W1 : ∀ y, Region.wanted (opAt ops j1) y = true := fun y => by simp [Region.wanted, Option.isNone_iff_eq_none.1 n1]
  have W2 : ∀ y, Region.wanted (opAt ops j2) y = true := fun y => by simp [Region.wanted, Option.isNone_iff_eq_none.1 n2]
  have W3 : ∀ y, Region.wanted (opAt ops k1) y = true := fun y => by simp [Region.wanted, Option.isNone_iff_eq_none.1 n3]
  have W4 : ∀ y, Region.wanted (opAt ops k2) y = true := fun y => by simp [Region.wanted, Option.isNone_iff_eq_none.1 n4]
  have C1 : ∀ (b : Act) (v u : Value), (b.put (some d1) u).put (some di) v = (b.put (some di) v).put (some d1) u := fun b v u => Act.put_comm b u v (fun d h1 h2 => q1 (by cases h1; cases h2; rfl))
  have C2 : ∀ (b : Act) (v u : Value), (b.put (some d2) u).put (some di) v = (b.put (some di) v).put (some d2) u := fun b v u => Act.put_comm b u v (fun d h1 h2 => q2 (by cases h1; cases h2; rfl))
  have C3 : ∀ (b : Act) (v u : Value), (b.put (some e1) u).put (some di) v = (b.put (some di) v).put (some e1) u := fun b v u => Act.put_comm b u v (fun d h1 h2 => q3 (by cases h1; cases h2; rfl))
  have C4 : ∀ (b : Act) (v u : Value), (b.put (some e2) u).put (some di) v = (b.put (some di) v).put (some e2) u := fun b v u => Act.put_comm b u v (fun d h1 h2 => q4 (by cases h1; cases h2; rfl))
  have L1 : ∀ l : Array Bool, (l.setIfInBounds j1 true).setIfInBounds i true = (l.setIfInBounds i true).setIfInBounds j1 true := fun l => Array.setIfInBounds_comm _ _ (Ne.symm m1)
  have L2 : ∀ l : Array Bool, (l.setIfInBounds j2 true).setIfInBounds i true = (l.setIfInBounds i true).setIfInBounds j2 true := fun l => Array.setIfInBounds_comm _ _ (Ne.symm m2)
  have L3 : ∀ l : Array Bool, (l.setIfInBounds k1 true).setIfInBounds i true = (l.setIfInBounds i true).setIfInBounds k1 true := fun l => Array.setIfInBounds_comm _ _ (Ne.symm m3)
  have L4 : ∀ l : Array Bool, (l.setIfInBounds k2 true).setIfInBounds i true = (l.setIfInBounds i true).setIfInBounds k2 true := fun l => Array.setIfInBounds_comm _ _ (Ne.symm m4)
  refine wpAnyH_two r0 ?_ ?_
  · skip
    refine wpOp_value vi (get_opAt gi) (Wi _) (h0) ⟨hS, ?_⟩
    rw [hdi]
    refine wpAnyH_one s0 ?_
    refine wpOp_callP f1 args1 R1 (get_opAt g1) (W1 _) c11 hc1 (fun e w1 hR => ?_)
    rcases h e w1 hR with ⟨ch, rfl, hq⟩ | ⟨hk1, v1, rfl, R2, hc2, hh⟩
    · exact .inr ⟨ch, rfl, hq _ (put_defers _ _ _)⟩
    refine .inl ⟨v1, rfl, hSn _ hk1, ?_⟩
    rw [hd1]
    refine wpAnyH_one s1 ?_
    refine wpOp_callP f2 args2 R2 (get_opAt g2) (W2 _) (c21 _ _) hc2 (fun e w2 hR => ?_)
    rcases hh e w2 hR with ⟨ch, rfl, hq⟩ | ⟨hk2, v2, rfl, u1, u2, w3, hk3, x10, x11, x20, x21, hf⟩
    · exact .inr ⟨ch, rfl, hq _ (by rw [put_defers, put_defers])⟩
    refine .inl ⟨v2, rfl, hSn _ hk2, ?_⟩
    rw [hd2]
    refine wpAnyH_one s2 ?_
    refine wpOp_value u1 (get_opAt g3) (W3 _) x11 ⟨hSn _ hk2, ?_⟩
    rw [he1]
    refine wpAnyH_one s3 ?_
    refine wpOp_value u2 (get_opAt g4) (W4 _) x21 ⟨hSn _ hk3, ?_⟩
    rw [he2]
    exact hf
  · skip
    refine wpOp_callP f1 args1 R1 (get_opAt g1) (W1 _) c10 hc1 (fun e w1 hR => ?_)
    rcases h e w1 hR with ⟨ch, rfl, hq⟩ | ⟨hk1, v1, rfl, R2, hc2, hh⟩
    · exact .inr ⟨ch, rfl, hq _ rfl⟩
    refine .inl ⟨v1, rfl, hSn _ hk1, ?_⟩
    rw [hd1]
    refine wpAnyH_two r1 ?_ ?_
    · skip
      refine wpOp_value vi (get_opAt gi) (Wi _) (h1 _ _ hk1) ⟨hSn _ hk1, ?_⟩
      rw [hdi, C1, L1]
      refine wpAnyH_one s1 ?_
      refine wpOp_callP f2 args2 R2 (get_opAt g2) (W2 _) (c21 _ _) hc2 (fun e w2 hR => ?_)
      rcases hh e w2 hR with ⟨ch, rfl, hq⟩ | ⟨hk2, v2, rfl, u1, u2, w3, hk3, x10, x11, x20, x21, hf⟩
      · exact .inr ⟨ch, rfl, hq _ (by rw [put_defers, put_defers])⟩
      refine .inl ⟨v2, rfl, hSn _ hk2, ?_⟩
      rw [hd2]
      refine wpAnyH_one s2 ?_
      refine wpOp_value u1 (get_opAt g3) (W3 _) x11 ⟨hSn _ hk2, ?_⟩
      rw [he1]
      refine wpAnyH_one s3 ?_
      refine wpOp_value u2 (get_opAt g4) (W4 _) x21 ⟨hSn _ hk3, ?_⟩
      rw [he2]
      exact hf
    · skip
      refine wpOp_callP f2 args2 R2 (get_opAt g2) (W2 _) (c20 _ _) hc2 (fun e w2 hR => ?_)
      rcases hh e w2 hR with ⟨ch, rfl, hq⟩ | ⟨hk2, v2, rfl, u1, u2, w3, hk3, x10, x11, x20, x21, hf⟩
      · exact .inr ⟨ch, rfl, hq _ (by rw [put_defers])⟩
      refine .inl ⟨v2, rfl, hSn _ hk2, ?_⟩
      rw [hd2]
      refine wpAnyH_two r2 ?_ ?_
      · skip
        refine wpOp_value vi (get_opAt gi) (Wi _) (h2 _ _ _ hk2) ⟨hSn _ hk2, ?_⟩
        rw [hdi, C2, C1, L2, L1]
        refine wpAnyH_one s2 ?_
        refine wpOp_value u1 (get_opAt g3) (W3 _) x11 ⟨hSn _ hk2, ?_⟩
        rw [he1]
        refine wpAnyH_one s3 ?_
        refine wpOp_value u2 (get_opAt g4) (W4 _) x21 ⟨hSn _ hk3, ?_⟩
        rw [he2]
        exact hf
      · skip
        refine wpOp_value u1 (get_opAt g3) (W3 _) x10 ⟨hSn _ hk2, ?_⟩
        rw [he1]
        refine wpAnyH_two r3 ?_ ?_
        · skip
          refine wpOp_value vi (get_opAt gi) (Wi _) (h3 _ _ _ _ hk2) ⟨hSn _ hk2, ?_⟩
          rw [hdi, C3, C2, C1, L3, L2, L1]
          refine wpAnyH_one s3 ?_
          refine wpOp_value u2 (get_opAt g4) (W4 _) x21 ⟨hSn _ hk3, ?_⟩
          rw [he2]
          exact hf
        · skip
          refine wpOp_value u2 (get_opAt g4) (W4 _) x20 ⟨hSn _ hk3, ?_⟩
          rw [he2]
          refine wpAnyH_one r4 ?_
          refine wpOp_value vi (get_opAt gi) (Wi _) (h4 _ _ _ _ _ hk3) ⟨hSn _ hk3, ?_⟩
          rw [hdi, C4, C3, C2, C1, L4, L3, L2, L1]
          exact hf
end
theorem restP_good {k p : Int} {s : List UInt8} {t : Tm} {l r : List Int} {d : Dc} (hb : isB l) (hl : l.length ≤ 1000000000) (hs : s.length ≤ 1000000000) (ht : GoodT t) (h : restP k p s t l = some (d, r)) : GoodD d := by
 unfold restP at h
 by_cases k2 : k = 2 ∨ k = 3
 ·rw [if_pos k2] at h
  cases hn : termP l with
  | none => rw [hn] at h; cases h
  | some y =>
   obtain ⟨v, r'⟩ := y
   rw [hn] at h
   simp only [Option.some.injEq, Prod.mk.injEq] at h
   obtain ⟨rfl, -⟩ := h
   exact ⟨hs, ht, (termP_good hb hl hn).1, GoodC.nil⟩
 rw [if_neg k2] at h
 by_cases k4 : k = 4
 ·rw [if_pos k4] at h
  match l, hb, hl, h with
  | [], _, _, h => simp [smallP] at h
  | [f], _, _, h => simp [smallP] at h
  | f :: c :: l2, hb, hl, h =>
   simp only [smallP] at h
   have hc := hb.tail.head
   simp only [List.length_cons] at hl
   cases hn : timesP ctorP c.toNat l2 with
   | none => rw [hn] at h; cases h
   | some y =>
    obtain ⟨cs, r'⟩ := y
    rw [hn] at h
    simp only [Option.some.injEq, Prod.mk.injEq] at h
    obtain ⟨rfl, -⟩ := h
    exact ⟨hs, ht, nT_good, ctors_good hb.tail.tail (by omega) (by omega) hn⟩
 ·rw [if_neg k4] at h
  simp only [Option.some.injEq, Prod.mk.injEq] at h
  obtain ⟨rfl, -⟩ := h
  exact ⟨hs, ht, nT_good, GoodC.nil⟩
-- what a declaration's tail is, by its kind
theorem restP_2n {k p : Int} {s : List UInt8} {t : Tm} {l : List Int} (k2 : k = 2 ∨ k = 3) (h : termP l = none) : restP k p s t l = none := by unfold restP; rw [if_pos k2, h]
theorem restP_2 {k p : Int} {s : List UInt8} {t v : Tm} {l r : List Int} (k2 : k = 2 ∨ k = 3) (h : termP l = some (v, r)) : restP k p s t l = some (⟨k, p, s, t, v, 0, []⟩, r) := by unfold restP; rw [if_pos k2, h]
theorem restP_4a {k p : Int} {s : List UInt8} {t : Tm} (k4 : k = 4) : restP k p s t [] = none := by subst k4; rfl
theorem restP_4b {k p f : Int} {s : List UInt8} {t : Tm} (k4 : k = 4) : restP k p s t [f] = none := by subst k4; rfl
theorem restP_4n {k p f c : Int} {s : List UInt8} {t : Tm} {l : List Int} (k4 : k = 4) (h : timesP ctorP c.toNat l = none) : restP k p s t (f :: c :: l) = none := by
 unfold restP
 rw [if_neg (by omega), if_pos k4]
 simp only [smallP]
 rw [h]
theorem restP_4 {k p f c : Int} {s : List UInt8} {t : Tm} {l r : List Int} {cs : List (List UInt8 × Tm)} (k4 : k = 4) (h : timesP ctorP c.toNat l = some (cs, r)) : restP k p s t (f :: c :: l) = some (⟨k, p, s, t, nT, f, cs⟩, r) := by
 unfold restP
 rw [if_neg (by omega), if_pos k4]
 simp only [smallP]
 rw [h]
theorem restP_0 {k p : Int} {s : List UInt8} {t : Tm} {l : List Int} (k2 : ¬ (k = 2 ∨ k = 3)) (k4 : ¬ k = 4) : restP k p s t l = some (⟨k, p, s, t, nT, 0, []⟩, l) := by unfold restP; rw [if_neg k2, if_neg k4]
theorem ctorP_a {l : List Int} (h : textP l = none) : ctorP l = none := by unfold ctorP; rw [h]
theorem ctorP_b {l l1 : List Int} {s : List UInt8} (h : textP l = some (s, l1)) (h2 : termP l1 = none) : ctorP l = none := by
 unfold ctorP
 rw [h]
 dsimp only
 rw [h2]
theorem ctorP_c {l l1 r : List Int} {s : List UInt8} {t : Tm} (h : textP l = some (s, l1)) (h2 : termP l1 = some (t, r)) : ctorP l = some ((s, t), r) := by
 unfold ctorP
 rw [h]
 dsimp only
 rw [h2]
-- a declaration, by its parts
theorem rawP_a : rawP [] = none := rfl
theorem rawP_b {k : Int} {l : List Int} (h : textP l = none) : rawP (k :: l) = none := by
 unfold rawP
 simp only [smallP]
 rw [h]
theorem rawP_c {k : Int} {l : List Int} {s : List UInt8} (h : textP l = some (s, [])) : rawP (k :: l) = none := by
 unfold rawP
 simp only [smallP]
 rw [h]
theorem rawP_d {k p : Int} {l l2 : List Int} {s : List UInt8} (h : textP l = some (s, p :: l2)) (h2 : termP l2 = none) : rawP (k :: l) = none := by
 unfold rawP
 simp only [smallP]
 rw [h]
 dsimp only
 rw [h2]
theorem rawP_e {k p : Int} {l l2 l4 : List Int} {s : List UInt8} {t : Tm} (h : textP l = some (s, p :: l2)) (h2 : termP l2 = some (t, l4)) : rawP (k :: l) = restP k p s t l4 := by
 unfold rawP
 simp only [smallP]
 rw [h]
 dsimp only
 rw [h2]
theorem declP_no {l : List Int} (h : rawP l = none) : declP l = none := by unfold declP; rw [h]
theorem declP_form {l r : List Int} {d : Dc} (h : rawP l = some (d, r)) (hf : formB d = false) : declP l = none := by
 unfold declP
 rw [h]
 dsimp only
 rw [if_neg (by simp [hf])]
theorem declP_yes {l r : List Int} {d : Dc} (h : rawP l = some (d, r)) (hf : formB d = true) : declP l = some (d, r) := by
 unfold declP
 rw [h]
 dsimp only
 rw [if_pos hf]
def RDc (d : Dc) (v : Value) (w w' : World) : Prop := ∃ cs, v = .agg cs.toArray ∧ DcAt (List.range w.heap.size) w' d cs
theorem dC0_form {k p : Int} {s : List UInt8} {t : Tm} {tc : List Value} (h : tc.length = 5) : DcForm ⟨k, p, s, t, nT, 0, []⟩ (dC0 k p s tc) tc z5T (.slice none 0 0) := ⟨rfl, h, rfl⟩
end Go.Proofs.Yteohjbggicchgaa
