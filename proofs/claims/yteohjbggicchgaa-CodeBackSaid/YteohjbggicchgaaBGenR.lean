/- Ranging over a function: a plain walk's region carried into a round; a call of yield; the statement's law in the words of these texts. General lemmas on the model; nothing about the program. -/
import Derived.Test.YteohjbggicchgaaBGenT
import Derived.RangeFuncNested
import Derived.RangeFuncLeaves
import Derived.OrdersIn
import Derived.Shelf.Abstract
namespace Go.Proofs.Yteohjbggicchgaa
open Go Go.RowKit
set_option maxRecDepth 100000
/-- A round of loop l, whatever functions are entered, at whatever depth. -/
def inR (l : Nat) : Fence := Fence.wide.inRound l
theorem inR_round (l : Nat) : (inR l).round = some l := rfl
def noDefer (ops : Array Oper) : Bool := ops.all fun o => match o.op with | .defer _ => false | _ => true
theorem noDefer_at {ops : Array Oper} (h : noDefer ops = true) {i : Nat} {o : Oper} (ho : ops[i]? = some o) : ∀ c, o.op ≠ .defer c := by
 intro c hc
 obtain ⟨hlt, rfl⟩ := Array.getElem?_eq_some_iff.1 ho
 have := (Array.all_eq_true.1 h) i hlt
 rw [hc] at this
 cases this
theorem rows_in {n l : Nat} {P : Program} {row : String} {args : Array Value} {w : World} {R : Value → World → Prop} (h : Rows P row args w R) : RowsIn (inR l) n P row args w R := fun c cs _ => by
 obtain ⟨v, w', hr, hs⟩ := h c cs
 exact ⟨v, w', hr, (stepsIn_wide (P := P)).2 hs⟩
section
variable {P : Program} {ops : Array Oper} {Q : Exit → Act → World → Prop} {n l : Nat}
theorem oper_in {o : Oper} (hnd : ∀ c, o.op ≠ .defer c) {a : Act} {w : World} {K K' : Act → World → Prop} (hK : ∀ a w, K a w → K' a w) (h : o.wp P a w K Q) : o.wpIn (inR l) n P a w K' Q := by
 unfold Oper.wp at h
 refine ⟨fun _ _ => trivial, ?_⟩
 rw [inR_round, Oper.semAt_eq _ _ _ hnd]
 generalize (execOp a.eval o).run P w = r at *
 cases r with
 | ok x w' =>
  cases x <;> simp only [Oper.upon] at h <;> simp only [Oper.uponIn]
  case value v => exact hK _ _ h
  case skip => exact hK _ _ h
  case defer d => exact hK _ _ h
  case enter f args =>
   refine ⟨fun hh => (by cases hh), CallsIn.mono (CallsIn.inRound l (callsIn_wide.2 h)) fun e w'' he => ?_⟩
   cases e <;> first | exact hK _ _ he | exact he
  case row row args => exact ⟨fun hh => (by cases hh), RowsIn.mono (rows_in h) fun v w'' he => hK _ _ he⟩
 | halt x w' => cases x <;> simp only [Oper.upon] at h ⊢ <;> exact h
theorem wpOp_in (hnd : noDefer ops = true) (hl : ¬ LetsOut Q) {i : Nat} {a : Act} {w : World} {K K' : Act → World → Prop} (hK : ∀ a w, K a w → K' a w) (h : wpOp P ops Q i K a w) : wpOpIn (inR l) n P ops Q i K' a w := by
 unfold wpOp at h
 unfold wpOpIn
 cases ho : ops[i]? with
 | none => rw [ho] at h; exact hK _ _ h
 | some o =>
  rw [ho] at h
  dsimp only at h ⊢
  by_cases hw : Region.wanted o (yielded ops a.tmps) = true
  ·rw [if_pos hw] at h ⊢
   rcases h with h | h
   ·exact oper_in (noDefer_at hnd ho) hK h
   ·exact absurd h.2 hl
  ·rw [if_neg hw] at h ⊢
   exact ⟨fun _ _ => trivial, hK _ _ h⟩
theorem wpOps_in (hnd : noDefer ops = true) (hl : ¬ LetsOut Q) : ∀ (L : List Nat) (a : Act) (w : World), wpOps P ops Q L a w → wpOpsIn (inR l) n P ops Q L a w
 | [], _, _, h => h
 | i :: L, a, w, h => by
  rw [wpOps_cons] at h
  rw [wpOpsIn_cons]
  exact wpOp_in hnd hl (fun a w h => wpOps_in hnd hl L a w h) h
theorem wpAny_in {md : Region.Mode} (hnd : noDefer ops = true) (hl : ¬ LetsOut Q) : ∀ (fuel : Nat) (listed : Array Bool) (a : Act) (w : World), wpAny P md ops Q fuel listed a w → wpAnyIn (inR l) n P md ops Q fuel listed a w
 | 0, _, _, _, h => h
 | fuel + 1, _, _, _, h => ⟨h.1, fun i hi => wpOp_in hnd hl (fun a w h => wpAny_in hnd hl fuel _ a w h) (h.2 i hi)⟩
/-- THE BEGINNING of a plain region in a round. -/
theorem rin_lin {id : Nat} {ops0 : Array Oper} {a : Act} {w : World} (ops : Array Oper) (he : ops0 = ops) (hnd : noDefer ops = true) (hl : ¬ LetsOut Q) (h : wpFrom P ops Q 0 a w) : (Code.region id ops0 false).wpIn (inR l) n P Q a w := by
 subst he
 refine wpIn_region (wpOps_in hnd hl _ a w ?_)
 have h1 := wpOps_eq_wpList (P := P) (ops := ops0) (Q := Q) ops0.toList 0 (fun j => by simp)
 rw [List.range_eq_range', ← Array.length_toList, h1]
 have := h.out
 rwa [List.drop_zero] at this
/-- THE BEGINNING of a drawn region in a round. -/
theorem rin_draw {id : Nat} {ops0 : Array Oper} {a : Act} {w : World} (ops : Array Oper) (S : World → Prop) (he : ops0 = ops) (hnd : noDefer ops = true) (hm : P.follows .mixedOrders = true) (k : Nat) (hk : ops.size = k)
    (h : ∀ Q' : Exit → Act → World → Prop, (∀ c a w d v, Q' (.panic c) (a.put d v) w → Q' (.panic c) a w) → (∀ a w, Q .normal a w → Q' .normal a w) → wpAnyH P .any ops Q' S k (Array.replicate k false) a w.drew) : (Code.region id ops0 true).wpIn (inR l) n P Q a w := by
  subst he
  subst hk
  refine wpIn_mono (Q := fun e a w => match e with | .normal => Q .normal a w | _ => False) (wpIn_region_any hm (wpAny_in hnd (fun ⟨_, _, h⟩ => h) _ _ _ _ (wpAny_of_held _ _ _ _ (h _ (fun _ _ _ _ _ h => h) (fun _ _ h => h))))) (fun e a w he => ?_)
  cases e <;> first | exact he | exact False.elim he
end
/-- What is left of a plain region that calls yield. -/
structure finFrom (P : Program) (ops : Array Oper) (Q : Exit → Act → World → Prop) (i : Nat) (a : Act) (w : World) : Prop where
 out : wpOpsIn Fence.wide 0 P ops Q (List.range' i (ops.size - i)) a w
section
variable {P : Program} {ops : Array Oper} {Q : Exit → Act → World → Prop} {a : Act} {w : World}
theorem fin_begin {id : Nat} {ops0 : Array Oper} (ops : Array Oper) (he : ops0 = ops) (h : finFrom P ops Q 0 a w) : (Code.region id ops0 false).wp P Q a w := by
 subst he
 refine (wpIn_wide (n := 0)).1 (wpIn_region ?_)
 have := h.out
 rwa [Nat.sub_zero, ← List.range_eq_range'] at this
theorem range_at {i : Nat} (h : ops[i]?.isSome = true) : List.range' i (ops.size - i) = i :: List.range' (i + 1) (ops.size - (i + 1)) := by
 obtain ⟨o, ho⟩ := Option.isSome_iff_exists.1 h
 obtain ⟨hlt, -⟩ := Array.getElem?_eq_some_iff.1 ho
 rw [show ops.size - i = (ops.size - (i + 1)) + 1 by omega, List.range'_succ]
theorem fin_now (i : Nat) (v : Value) (d : Option Tmp) (hi : (ops[i]?.isSome && Region.wanted (opAt ops i) (yielded ops a.tmps)) = true) (hd : (opAt ops i).dst = d)
    (hrun : (execOp a.eval (opAt ops i)).run P w = .ok (.value v) w) (h : finFrom P ops Q (i + 1) (a.put d v) w) : finFrom P ops Q i a w := by
  simp only [Bool.and_eq_true] at hi
  obtain ⟨h1, h2⟩ := hi
  subst hd
  refine ⟨?_⟩
  rw [range_at h1, wpOpsIn_cons]
  unfold wpOpIn
  rw [get_opAt h1]
  dsimp only
  rw [if_pos h2]
  refine ⟨fun _ _ => trivial, ?_⟩
  rw [show Fence.wide.round = none from rfl, Oper.semAt_none, hrun, Oper.uponIn_value]
  exact h.out
/-- The call of yield. -/
theorem fin_yield (i m lp : Nat) (args : Array Value) (d : Option Tmp) (R : Ending → World → Prop) (hi : (ops[i]?.isSome && Region.wanted (opAt ops i) (yielded ops a.tmps)) = true) (hd : (opAt ops i).dst = d)
    (hrun : ∀ fn tmps assign body, (Instr.yield lp args).run P w = .ok (.round lp fn tmps assign body) w → (execOp a.eval (opAt ops i)).run P w = .ok (.round lp fn tmps assign body) w)
    (hY : YieldAt Fence.wide m P lp args w R) (h : ∀ e w', R e w' → ∃ v, e = .returned v ∧ finFrom P ops Q (i + 1) (a.put d v) w') : finFrom P ops Q i a w := by
  simp only [Bool.and_eq_true] at hi
  obtain ⟨h1, h2⟩ := hi
  subst hd
  obtain ⟨fn, tmps, assign, body, hy, hR⟩ := hY
  refine ⟨?_⟩
  rw [range_at h1, wpOpsIn_cons]
  unfold wpOpIn
  rw [get_opAt h1]
  dsimp only
  rw [if_pos h2]
  refine ⟨fun _ _ => trivial, ?_⟩
  rw [show Fence.wide.round = none from rfl, Oper.semAt_none, hrun _ _ _ _ hy, Oper.uponIn_round]
  refine ⟨fun hh => (by cases hh), ⟨trivial, fun c cs _ => ?_⟩⟩
  obtain ⟨e, w', hr, hc⟩ := hR.2 c cs (room_wide _)
  obtain ⟨v, rfl, hk⟩ := h e w' hr
  exact ⟨.returned v, w', hk.out, hc⟩
theorem fin_done (i : Nat) (hi : ops.size = i) (h : Q .normal a w) : finFrom P ops Q i a w := by
 refine ⟨?_⟩
 rw [hi, Nat.sub_self]
 exact h
end
/-- A function whose body ranges over a function. -/
theorem calls_of_marks {P : Program} {f : FuncId} {fn : Func} {c : Code} {args : Array Value} {w : World} {R : Ending → World → Prop} (hf : P.funcs[f]? = some fn) (hb : fn.body = some c)
    (h : c.wp P (bodyPostM Fence.wide 0 P fn R) { tmps := args ++ Array.replicate (fn.ntmps - args.size) undef, defers := [] } w) : Calls P f args w R :=
  callsIn_wide.1 (callsIn_of_wp_marks hf hb trivial ((wpIn_wide (n := 0)).2 h) rfl)
/-- .. returns ahead of the loop. -/
theorem ret_plain {P : Program} {fn : Func} {R : Ending → World → Prop} {a : Act} {w : World} {v : Value} (hr : (results fn a.tmps).run P w = .ok v w) (hd : a.defers = []) (hR : R (.returned v) w) : bodyPostM Fence.wide 0 P fn R .ret a w := by
 show LeavesInM Fence.wide 0 P fn a.tmps R a.defers .returning w
 rw [hd]
 exact ⟨_, hr, hR⟩
/-- .. returns behind it. -/
theorem ret_marks {P : Program} {fn : Func} {R : Ending → World → Prop} {a : Act} {w : World} {v : Value} {D : Nat} (hd : a.defers = [{ target := .collected D, args := #[] }]) (hK : w.heap[D]? = some (.deferred (some [])))
    (hr : (results fn a.tmps).run P (w.putObj D (.deferred none)) = .ok v (w.putObj D (.deferred none))) (hR : R (.returned v) (w.putObj D (.deferred none))) : bodyPostM Fence.wide 0 P fn R .ret a w := by
  show LeavesInM Fence.wide 0 P fn a.tmps R a.defers .returning w
  rw [hd]
  exact ⟨by simp, .inl ⟨_, _, rfl, run_takeDeferred hK, ⟨_, hr, hR⟩⟩⟩
theorem below_put {n : Nat} {w w' : World} {D : Nat} {o : Obj} (h : Below n w w') (hD : n ≤ D) (hlt : D < w'.heap.size) : Below n w (w'.putObj D o) :=
 h.grown (grownBy_putObj' w' D o) (by omega) (fun k e => by cases e; omega)
theorem blk_put {w : World} {b D : Nat} {t : TypeId} {cs : List Value} {o : Obj} (h : Blk w b t cs) (hne : D ≠ b) : Blk (w.putObj D o) b t cs := by
 unfold Blk at h ⊢
 rw [World.putObj_heap_other (Ne.symm hne)]
 exact h
theorem keepsFrom_below {B : Nat} {W W' : World} (h : Below W.heap.size W W') : KeepsFrom B W W' :=
 ⟨h.size, fun k _ _ ho _ => (h.block k (Array.getElem?_eq_some_iff.1 ho).1).trans ho⟩
/-- The blocks that stood at W are the same in W', but for those in G. -/
structure Keeps (G : List Nat) (W W' : World) : Prop where
 os : W'.os = W.os
 tape : W'.tape = W.tape
 output : W'.output = W.output
 size : W.heap.size ≤ W'.heap.size
 same : ∀ k, k < W.heap.size → k ∉ G → W'.heap[k]? = W.heap[k]?
theorem Keeps.refl (G : List Nat) (W : World) : Keeps G W W := ⟨rfl, rfl, rfl, Nat.le_refl _, fun _ _ _ => rfl⟩
theorem Keeps.trans {G : List Nat} {A B C : World} (h : Keeps G A B) (k : Keeps G B C) : Keeps G A C := ⟨k.os.trans h.os, k.tape.trans h.tape, k.output.trans h.output, Nat.le_trans h.size k.size, fun i hi hg => (k.same i (Nat.lt_of_lt_of_le hi h.size) hg).trans (h.same i hi hg)⟩
theorem Keeps.below {G : List Nat} {A B C : World} (h : Keeps G A B) (k : Below A.heap.size B C) : Keeps G A C := ⟨k.os.trans h.os, k.tape.trans h.tape, k.output.trans h.output, Nat.le_trans h.size k.size, fun i hi hg => (k.block i hi).trans (h.same i hi hg)⟩
theorem Keeps.of_below {G : List Nat} {A B : World} (k : Below A.heap.size A B) : Keeps G A B := (Keeps.refl G A).below k
theorem Keeps.drew (G : List Nat) (A : World) : Keeps G A A.drew := ⟨rfl, rfl, rfl, Nat.le_refl _, fun _ _ _ => rfl⟩
theorem Keeps.upd {G : List Nat} {A B C : World} {b : Nat} (h : Keeps G A B) (k : Upd b B C) (hb : b ∈ G ∨ A.heap.size ≤ b) : Keeps G A C :=
 ⟨k.os.trans h.os, k.tape.trans h.tape, k.output.trans h.output, Nat.le_trans h.size k.size, fun i hi hg => (k.block i (Nat.lt_of_lt_of_le hi h.size) (fun e => by
  subst e
  rcases hb with hb | hb
  ·exact hg hb
  ·omega)).trans (h.same i hi hg)⟩
theorem Keeps.from {G : List Nat} {B : Nat} {W W' : World} (h : Keeps G W W') (hG : ∀ g ∈ G, g < B) : KeepsFrom B W W' :=
 ⟨h.size, fun k o hk ho _ => (h.same k (Array.getElem?_eq_some_iff.1 ho).1 (fun hg => by have := hG k hg; omega)).trans ho⟩
theorem Keeps.lower {G : List Nat} {n : Nat} {w W W' : World} (hw : Below n w W) (h : Keeps G W W') (hG : ∀ g ∈ G, n ≤ g) (hn : n ≤ W.heap.size) : Below n w W' :=
 ⟨h.os.trans hw.os, h.tape.trans hw.tape, h.output.trans hw.output, Nat.le_trans hw.size h.size, fun k hk => (h.same k (by omega) (fun hg => by have := hG k hg; omega)).trans (hw.block k hk)⟩
theorem own_below {β : Type} (B n : Nat) (w : World) (hn : n ≤ B) : OwnFrom (β := β) B (fun _ W => Below n w W ∧ n ≤ W.heap.size) := fun s W W' row h hg hr =>
 ⟨h.1.grown hg h.2 (fun k e => by have := (hr k e).1; omega), Nat.le_trans h.2 hg.size⟩
/-- A load beside a call. -/
theorem reg_lc {P : Program} {ops : Array Oper} {Q : Exit → Act → World → Prop} {S : World → Prop} {fuel : Nat} {listed : Array Bool} {a : Act} {w : World} (i j : Nat) (vi : Value) (di dj : Tmp) (f : FuncId) (args : Array Value) (R : Ending → World → Prop) (hS : S w) (hSn : ∀ w1, Below w.heap.size w w1 → S w1)
    (hst : (ops[i]?.isSome && ops[j]?.isSome && (opAt ops i).guard.isNone && (opAt ops j).guard.isNone && (Region.ready .any ops listed == [i, j] || Region.ready .any ops listed == [j, i]) && (Region.ready .any ops (listed.setIfInBounds i true) == [j]) && (Region.ready .any ops (listed.setIfInBounds j true) == [i])) = true)
    (hdi : (opAt ops i).dst = some di) (hdj : (opAt ops j).dst = some dj) (nij : di ≠ dj) (eij : i ≠ j)
    (hi0 : (execOp a.eval (opAt ops i)).run P w = .ok (.value vi) w) (hi1 : ∀ vj w1, Below w.heap.size w w1 → (execOp (a.put (some dj) vj).eval (opAt ops i)).run P w1 = .ok (.value vi) w1)
    (hj0 : (execOp a.eval (opAt ops j)).run P w = .ok (.enter f args) w) (hj1 : (execOp (a.put (some di) vi).eval (opAt ops j)).run P w = .ok (.enter f args) w) (hc : Calls P f args w R)
    (h : ∀ e w5, R e w5 → Below w.heap.size w w5 ∧ ∃ vj, e = .returned vj ∧ wpAnyH P .any ops Q S fuel ((listed.setIfInBounds i true).setIfInBounds j true) ((a.put (some di) vi).put (some dj) vj) w5) : wpAnyH P .any ops Q S (fuel + 2) listed a w := by
  simp only [Bool.and_eq_true, Bool.or_eq_true, beq_iff_eq] at hst
  obtain ⟨⟨⟨⟨⟨⟨g1, g2⟩, n1⟩, n2⟩, r0⟩, ri⟩, rj⟩ := hst
  have wi : ∀ y, Region.wanted (opAt ops i) y = true := fun y => by simp [Region.wanted, Option.isNone_iff_eq_none.1 n1]
  have wj : ∀ y, Region.wanted (opAt ops j) y = true := fun y => by simp [Region.wanted, Option.isNone_iff_eq_none.1 n2]
  have cij : ∀ (b : Act) (v u : Value), (b.put (some dj) u).put (some di) v = (b.put (some di) v).put (some dj) u := fun b v u => Act.put_comm b u v (fun d h1 h2 => nij (by cases h1; cases h2; rfl))
  have p1 : wpOp P ops Q i (fun a' w' => S w' ∧ wpAnyH P .any ops Q S (fuel + 1) (listed.setIfInBounds i true) a' w') a w := by
    refine wpOp_value vi (get_opAt g1) (wi _) hi0 ⟨hS, wpAnyH_one ri ?_⟩
    rw [hdi]
    refine wpOp_callE f args R (get_opAt g2) (wj _) hj1 hc (fun e w5 hR => ?_)
    obtain ⟨hb, vj, rfl, h3⟩ := h e w5 hR
    refine ⟨vj, rfl, hSn _ hb, ?_⟩
    rw [hdj]
    exact h3
  have p2 : wpOp P ops Q j (fun a' w' => S w' ∧ wpAnyH P .any ops Q S (fuel + 1) (listed.setIfInBounds j true) a' w') a w := by
    refine wpOp_callE f args R (get_opAt g2) (wj _) hj0 hc (fun e w5 hR => ?_)
    obtain ⟨hb5, vj, rfl, h3⟩ := h e w5 hR
    refine ⟨vj, rfl, hSn _ hb5, wpAnyH_one rj ?_⟩
    rw [hdj]
    refine wpOp_value vi (get_opAt g1) (wi _) (hi1 vj w5 hb5) ⟨hSn _ hb5, ?_⟩
    rw [hdi, cij, Array.setIfInBounds_comm _ _ (Ne.symm eij)]
    exact h3
  rcases r0 with r0 | r0
  · exact wpAnyH_two r0 p1 p2
  · exact wpAnyH_two r0 p2 p1
theorem then_normal {K : Act → World → Prop} {Q : Exit → Act → World → Prop} {a : Act} {w : World} (h : K a w) : Exit.then K Q .normal a w := h
theorem own_blk_any {β : Type} (B b : Nat) (t : TypeId) (cs : List Value) : OwnFrom (β := β) B (fun _ W => Blk W b t cs) := fun s W W' row h hg hr => by
 have h' : Blk W b t cs := h
 have := hg.block b h'.lt (fun e => by
  obtain ⟨-, o, ho, hc⟩ := hr b e.symm
  unfold Blk at h'
  rw [h'] at ho
  obtain rfl := Option.some.inj ho
  cases hc)
 show Blk W' b t cs
 unfold Blk at h' ⊢
 rw [this, h']
theorem results_cell1 {P : Program} {fn : Func} {p : Tmp} {ty : TypeId} (h : fn.results = #[.cell p ty]) (tmps : Array Value) (w : World) (g : Nat) (v : Value) (hp : tmps.getD p undef = .pointer (some ⟨g, 0, none⟩)) (hc : w.cell? ⟨g, 0, none⟩ = some v)
    (d : TypeDesc) (hd : P.underlying ty = some d) (hr : d.isRow = false) : (results fn tmps).run P w = .ok v w := by
  have hagg : (isAgg ty).run P w = .ok false w := by
    unfold isAgg
    rw [Sem.run_bind, run_underlying hd w]
    cases d <;> simp_all
  have hl : (loadVar ty ⟨g, 0, none⟩).run P w = .ok v w := by
    simp [loadVar, Sem.run_bind, hagg, hc]
  have hp' : tmps[p]?.getD undef = .pointer (some ⟨g, 0, none⟩) := by simpa using hp
  simp [results, h, hp', asAddr, hl]
end Go.Proofs.Yteohjbggicchgaa
