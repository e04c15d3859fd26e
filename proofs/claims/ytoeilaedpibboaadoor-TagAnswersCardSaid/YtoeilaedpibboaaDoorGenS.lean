/- More steps through regions, each going on in a new world of which only what is needed is said. General lemmas on the model; nothing about the program. -/
import Derived.Test.YtoeilaedpibboaaDoorDskFl
namespace Go.Proofs.YtoeilaedpibboaaDoor
open Go Go.RowKit
set_option maxRecDepth 100000

section
variable {P : Program} {ops : Array Oper} {Q : Exit → Act → World → Prop} {S : World → Prop} {fuel : Nat} {listed : Array Bool} {a : Act} {w : World}

theorem exec_box {op : Oper} (ty : TypeId) (x : Operand) (ho : op.op = .box ty x) (cs : List Value) (hx : a.eval x = .agg cs.toArray) :
    (execOp a.eval op).run P w = .ok (.value (.pointer (some ⟨w.heap.size, 0, none⟩))) (w.alloc (.cells cs.toArray ty)) := by
  unfold execOp
  simp only [ho, hx, Instr.box]
  rfl
/-- A new variable. -/
theorem lin_alloc (i : Nat) (ty : TypeId) (z : List Value) (q : Nat) (d : Option Tmp) (hi : (ops[i]?.isSome && Region.wanted (opAt ops i) (yielded ops a.tmps)) = true) (hd : (opAt ops i).dst = d)
    (ho : (opAt ops i).op = .alloc ty) (hz : (P.info? ty).map (·.zero) = some (some (.agg z.toArray))) (hq : Hid (w.heap.size = q))
    (h : ∀ w', Blk w' q ty z → Below q w w' → Hid (w'.heap.size = q + 1) → wpFrom P ops Q (i + 1) (a.put d (.pointer (some ⟨q, 0, none⟩))) w') : wpFrom P ops Q i a w := by
  obtain rfl := hq.out
  exact lin_value i _ d _ hi hd (exec_alloc ty ho (.agg z.toArray) hz) (h _ (Blk.new w ty z) ((Below.refl _ _).alloc (Nat.le_refl _) _) (by unfold Hid; simp))
/-- A parameter that lies in memory. -/
theorem lin_box (i : Nat) (ty : TypeId) (x : Operand) (z : List Value) (q : Nat) (d : Option Tmp) (hi : (ops[i]?.isSome && Region.wanted (opAt ops i) (yielded ops a.tmps)) = true) (hd : (opAt ops i).dst = d)
    (ho : (opAt ops i).op = .box ty x) (hx : a.eval x = .agg z.toArray) (hq : Hid (w.heap.size = q))
    (h : ∀ w', Blk w' q ty z → Below q w w' → Hid (w'.heap.size = q + 1) → wpFrom P ops Q (i + 1) (a.put d (.pointer (some ⟨q, 0, none⟩))) w') : wpFrom P ops Q i a w := by
  obtain rfl := hq.out
  exact lin_value i _ d _ hi hd (exec_box ty x ho z hx) (h _ (Blk.new w ty z) ((Below.refl _ _).alloc (Nat.le_refl _) _) (by unfold Hid; simp))
/-- A whole array is loaded. -/
theorem lin_load (i : Nat) (ty : TypeId) (x : Operand) (b : Nat) (t : TypeId) (cs : List Value) (d : Option Tmp) (hi : (ops[i]?.isSome && Region.wanted (opAt ops i) (yielded ops a.tmps)) = true) (hd : (opAt ops i).dst = d)
    (ho : (opAt ops i).op = .load ty x) (hx : a.eval x = .pointer (some ⟨b, 0, none⟩)) (hb : Blk w b t cs) (D : TypeDesc) (hu : P.underlying ty = some D) (hr : D.isRow = true) (hz : (P.info? ty).map (·.size) = some cs.length)
    (h : wpFrom P ops Q (i + 1) (a.put d (.agg cs.toArray)) w) : wpFrom P ops Q i a w :=
  lin_now i _ d hi hd (exec_load_mid ty x ho b 0 hx cs D hb.whole hu hr hz) h
/-- A whole array is stored. -/
theorem lin_put (i : Nat) (ty : TypeId) (x y : Operand) (b : Nat) (t : TypeId) (cs vs : List Value) (hi : (ops[i]?.isSome && Region.wanted (opAt ops i) (yielded ops a.tmps)) = true) (hd : (opAt ops i).dst = none)
    (ho : (opAt ops i).op = .store ty x y) (hx : a.eval x = .pointer (some ⟨b, 0, none⟩)) (hy : a.eval y = .agg vs.toArray) (hb : Blk w b t cs) (hl : vs.length = cs.length) (hz : (P.info? ty).map (·.size) = some vs.length) (h1 : vs.toArray.all (·.oneCell') = true)
    (h : ∀ w', Blk w' b t vs → Upd b w w' → wpFrom P ops Q (i + 1) (a.put none undef) w') : wpFrom P ops Q i a w :=
  lin_store i (w.setCells b 0 vs) hi hd (exec_store_mid ty x y ho b 0 vs hx hy (hb.there 0 _ (by omega)) hz h1) (h _ (hb.setWhole vs hl) ((Upd.refl b w).setCells vs 0))
/-- The result of a copy of one-cell elements into a block that is known whole. -/
theorem exec_copy {op : Oper} (dT sT ty elem : TypeId) (g off dLen dCap pb po sLen sCap : Nat)
    (he : execOp a.eval op = (Builtin.copy_ #[dT, sT] ty #[.slice (some ⟨g, off, none⟩) dLen dCap, .slice (some ⟨pb, po, none⟩) sLen sCap] >>= fun x => pure (.value x)))
    (hu : P.underlying dT = some (.slice elem)) (hsz : (P.info? elem).map (·.size) = some 1)
    (cur : List Value) (t : TypeId) (hg : Blk w g t cur) (cs : List Value) (hn : cs.length = Nat.min sLen dLen) (hsrc : w.rangeAt pb po cs) (hfit : off + cs.length ≤ cur.length) (h1 : ∀ v ∈ cs, v.oneCell' = true) :
    (execOp a.eval op).run P w = .ok (.value (goInt cs.length)) (w.setRow g (splice cur off cs).toArray) := by
  have hcp := run_copy_row (P := P) w dT sT ty elem g off dLen dCap ⟨pb, po, none⟩ sLen sCap cur.toArray t cs hu hsz hg hn
    (fun j v hv => by rw [Addr.add_mid]; exact hsrc j v hv) (by simpa using hfit) h1
  have e : (cur.toArray.toList.take off ++ cs ++ cur.toArray.toList.drop (off + cs.length)) = splice cur off cs := by simp [splice]
  rw [e] at hcp
  exact exec_of _ _ he hcp
theorem lin_copy (i : Nat) (dd : Option Tmp) (hi : (ops[i]?.isSome && Region.wanted (opAt ops i) (yielded ops a.tmps)) = true) (hdd : (opAt ops i).dst = dd)
    (dT sT ty elem : TypeId) (g off dLen dCap pb po sLen sCap : Nat)
    (he : execOp a.eval (opAt ops i) = (Builtin.copy_ #[dT, sT] ty #[.slice (some ⟨g, off, none⟩) dLen dCap, .slice (some ⟨pb, po, none⟩) sLen sCap] >>= fun x => pure (.value x)))
    (hu : P.underlying dT = some (.slice elem)) (hsz : (P.info? elem).map (·.size) = some 1)
    (cur : List Value) (t : TypeId) (hg : Blk w g t cur) (cs : List Value) (hn : cs.length = Nat.min sLen dLen) (hsrc : w.rangeAt pb po cs) (hfit : off + cs.length ≤ cur.length) (h1 : ∀ v ∈ cs, v.oneCell' = true)
    (h : ∀ w', Blk w' g t (splice cur off cs) → Upd g w w' → wpFrom P ops Q (i + 1) (a.put dd (goInt cs.length)) w') : wpFrom P ops Q i a w :=
  lin_value i _ dd _ hi hdd (exec_copy dT sT ty elem g off dLen dCap pb po sLen sCap he hu hsz cur t hg cs hn hsrc hfit h1) (h _ (hg.setRow _) ((Upd.refl g w).setRow _))
theorem reg_copy (i : Nat) (dd : Option Tmp) (hi : (ops[i]?.isSome && (Region.ready .any ops listed == [i]) && Region.wanted (opAt ops i) (yielded ops a.tmps)) = true) (hdd : (opAt ops i).dst = dd)
    (dT sT ty elem : TypeId) (g off dLen dCap pb po sLen sCap : Nat)
    (he : execOp a.eval (opAt ops i) = (Builtin.copy_ #[dT, sT] ty #[.slice (some ⟨g, off, none⟩) dLen dCap, .slice (some ⟨pb, po, none⟩) sLen sCap] >>= fun x => pure (.value x)))
    (hu : P.underlying dT = some (.slice elem)) (hsz : (P.info? elem).map (·.size) = some 1)
    (cur : List Value) (t : TypeId) (hg : Blk w g t cur) (cs : List Value) (hn : cs.length = Nat.min sLen dLen) (hsrc : w.rangeAt pb po cs) (hfit : off + cs.length ≤ cur.length) (h1 : ∀ v ∈ cs, v.oneCell' = true)
    (h : ∀ w', Blk w' g t (splice cur off cs) → Upd g w w' → S w' ∧ wpAnyH P .any ops Q S fuel (listed.setIfInBounds i true) (a.put dd (goInt cs.length)) w') : wpAnyH P .any ops Q S (fuel + 1) listed a w := by
  obtain ⟨hS, hk⟩ := h _ (hg.setRow _) ((Upd.refl g w).setRow _)
  exact reg_value i _ dd _ hi hdd (exec_copy dT sT ty elem g off dLen dCap pb po sLen sCap he hu hsz cur t hg cs hn hsrc hfit h1) hS hk
end
end Go.Proofs.YtoeilaedpibboaaDoor
