/- A region that draws its order: a row is made and handed to a call while another row is made: in whichever order, one end. General lemmas on the model. -/
import Derived.Test.YtoeilaedpibboaaDoorTagReg
namespace Go.Proofs.YtoeilaedpibboaaDoor
open Go Go.RowKit

section
variable {P : Program} {ops : Array Oper} {Q : Exit → Act → World → Prop} {S : World → Prop} {fuel : Nat} {listed : Array Bool} {a : Act} {w : World}
theorem set_comm (l : Array Bool) (i j : Nat) : (l.setIfInBounds i true).setIfInBounds j true = (l.setIfInBounds j true).setIfInBounds i true := by
  by_cases h : i = j
  · subst h; rfl
  · exact Array.setIfInBounds_comm _ _ h
/-- Row i is made, then call c takes it; row p is made at any time. -/
theorem reg_group (i c p : Nat) (di dc dp : Tmp) (f : FuncId) (fi fp : Nat → Value) (oi op' : Obj) (args : Nat → Array Value) (vc : Value) (Ri Rp : World → Nat → Prop) (hS : S w) (hSn : ∀ w1 w2, S w1 → Below w1.heap.size w1 w2 → S w2)
    (hst : (ops[i]?.isSome && ops[c]?.isSome && ops[p]?.isSome && (Region.ready .any ops listed == [i, p]) && (Region.ready .any ops (listed.setIfInBounds i true) == [c, p]) && (Region.ready .any ops (listed.setIfInBounds p true) == [i])
      && (Region.ready .any ops ((listed.setIfInBounds i true).setIfInBounds c true) == [p]) && (Region.ready .any ops ((listed.setIfInBounds i true).setIfInBounds p true) == [c]) && (Region.ready .any ops ((listed.setIfInBounds p true).setIfInBounds i true) == [c])) = true)
    (hdi : (opAt ops i).dst = some di) (hdc : (opAt ops c).dst = some dc) (hdp : (opAt ops p).dst = some dp) (_n1 : di ≠ dc) (n2 : di ≠ dp) (n3 : dc ≠ dp)
    (wi1 : Region.wanted (opAt ops i) (yielded ops a.tmps) = true) (wp1 : Region.wanted (opAt ops p) (yielded ops a.tmps) = true) (wc1 : ∀ q, Region.wanted (opAt ops c) (yielded ops (a.put (some di) (fi q)).tmps) = true)
    (wp2 : ∀ q, Region.wanted (opAt ops p) (yielded ops (a.put (some di) (fi q)).tmps) = true) (wp3 : ∀ q, Region.wanted (opAt ops p) (yielded ops ((a.put (some di) (fi q)).put (some dc) vc).tmps) = true)
    (wc2 : ∀ q r, Region.wanted (opAt ops c) (yielded ops ((a.put (some di) (fi q)).put (some dp) (fp r)).tmps) = true) (wi2 : ∀ r, Region.wanted (opAt ops i) (yielded ops (a.put (some dp) (fp r)).tmps) = true)
    (ri1 : ∀ w1 : World, (execOp a.eval (opAt ops i)).run P w1 = .ok (.value (fi w1.heap.size)) (w1.alloc oi)) (ri2 : ∀ r w1, (execOp (a.put (some dp) (fp r)).eval (opAt ops i)).run P w1 = .ok (.value (fi w1.heap.size)) (w1.alloc oi))
    (rp1 : ∀ w1, (execOp a.eval (opAt ops p)).run P w1 = .ok (.value (fp w1.heap.size)) (w1.alloc op')) (rp2 : ∀ q w1, (execOp (a.put (some di) (fi q)).eval (opAt ops p)).run P w1 = .ok (.value (fp w1.heap.size)) (w1.alloc op'))
    (rp3 : ∀ q w1, (execOp ((a.put (some di) (fi q)).put (some dc) vc).eval (opAt ops p)).run P w1 = .ok (.value (fp w1.heap.size)) (w1.alloc op'))
    (rc1 : ∀ q w1, (execOp (a.put (some di) (fi q)).eval (opAt ops c)).run P w1 = .ok (.enter f (args q)) w1) (rc2 : ∀ q r w1, (execOp ((a.put (some di) (fi q)).put (some dp) (fp r)).eval (opAt ops c)).run P w1 = .ok (.enter f (args q)) w1)
    (hRi : ∀ w1 : World, Ri (w1.alloc oi) w1.heap.size) (hRin : ∀ w1 w2 q, Ri w1 q → Below w1.heap.size w1 w2 → Ri w2 q) (hRp : ∀ w1 : World, Rp (w1.alloc op') w1.heap.size) (hRpn : ∀ w1 w2 q, Rp w1 q → Below w1.heap.size w1 w2 → Rp w2 q)
    (hc : ∀ w1 q, S w1 → Ri w1 q → Calls P f (args q) w1 (fun e w' => e = .returned vc ∧ Below w1.heap.size w1 w'))
    (h : ∀ w' q r, S w' → Rp w' r → wpAnyH P .any ops Q S fuel (((listed.setIfInBounds i true).setIfInBounds c true).setIfInBounds p true) (((a.put (some di) (fi q)).put (some dc) vc).put (some dp) (fp r)) w') :
    wpAnyH P .any ops Q S (fuel + 3) listed a w := by
  simp only [Bool.and_eq_true, beq_iff_eq] at hst
  obtain ⟨⟨⟨⟨⟨⟨⟨⟨g1, g2⟩, g3⟩, e1⟩, e2⟩, e3⟩, e4⟩, e5⟩, e6⟩ := hst
  have al : ∀ (w1 : World) (o : Obj), Below w1.heap.size w1 (w1.alloc o) := fun w1 o => (Below.refl _ _).alloc (Nat.le_refl _) _
  have cpc : ∀ (b : Act) (v u : Value), (b.put (some dp) u).put (some dc) v = (b.put (some dc) v).put (some dp) u := fun b v u => Act.put_comm b u v (fun d h1 h2 => n3 (by cases h1; cases h2; rfl))
  have cpi : ∀ (b : Act) (v u : Value), (b.put (some dp) u).put (some di) v = (b.put (some di) v).put (some dp) u := fun b v u => Act.put_comm b u v (fun d h1 h2 => n2 (by cases h1; cases h2; rfl))
  -- behind i and p, the call comes
  have last : ∀ w1 q r, S w1 → Ri w1 q → Rp w1 r → wpOp P ops Q c (fun a' w' => S w' ∧ wpAnyH P .any ops Q S fuel (((listed.setIfInBounds i true).setIfInBounds c true).setIfInBounds p true) a' w') ((a.put (some di) (fi q)).put (some dp) (fp r)) w1 := fun w1 q r s1 i1 p1 => by
    refine wpOp_callE f (args q) _ (get_opAt g2) (wc2 q r) (rc2 q r w1) (hc w1 q s1 i1) fun e w2 ⟨he, hb⟩ => ⟨vc, he, hSn _ _ s1 hb, ?_⟩
    rw [hdc, cpc]
    exact h w2 q r (hSn _ _ s1 hb) (hRpn _ _ _ p1 hb)
  refine wpAnyH_two e1 ?_ ?_
  · refine wpOp_value (fi w.heap.size) (get_opAt g1) wi1 (ri1 w) ⟨hSn _ _ hS (al _ _), ?_⟩
    rw [hdi]
    have s1 := hSn _ _ hS (al w oi)
    have i1 := hRi w
    generalize w.heap.size = q at *
    generalize w.alloc oi = w1 at *
    refine wpAnyH_two e2 ?_ ?_
    · refine wpOp_callE f (args q) _ (get_opAt g2) (wc1 q) (rc1 q w1) (hc w1 q s1 i1) fun e w2 ⟨he, hb⟩ => ⟨vc, he, hSn _ _ s1 hb, ?_⟩
      rw [hdc]
      have s2 := hSn _ _ s1 hb
      refine wpAnyH_one e4 (wpOp_value (fp w2.heap.size) (get_opAt g3) (wp3 q) (rp3 q w2) ⟨hSn _ _ s2 (al _ _), ?_⟩)
      rw [hdp]
      exact h _ q _ (hSn _ _ s2 (al _ _)) (hRp w2)
    · refine wpOp_value (fp w1.heap.size) (get_opAt g3) (wp2 q) (rp2 q w1) ⟨hSn _ _ s1 (al _ _), ?_⟩
      rw [hdp]
      refine wpAnyH_one e5 ?_
      rw [show (((listed.setIfInBounds i true).setIfInBounds p true).setIfInBounds c true) = (((listed.setIfInBounds i true).setIfInBounds c true).setIfInBounds p true) from set_comm _ _ _]
      exact last _ q _ (hSn _ _ s1 (al _ _)) (hRin _ _ _ i1 (al _ _)) (hRp w1)
  · refine wpOp_value (fp w.heap.size) (get_opAt g3) wp1 (rp1 w) ⟨hSn _ _ hS (al _ _), ?_⟩
    rw [hdp]
    have s1 := hSn _ _ hS (al w op')
    have p1 := hRp w
    generalize w.heap.size = r at *
    generalize w.alloc op' = w1 at *
    refine wpAnyH_one e3 (wpOp_value (fi w1.heap.size) (get_opAt g1) (wi2 r) (ri2 r w1) ⟨hSn _ _ s1 (al _ _), ?_⟩)
    rw [hdi, cpi]
    refine wpAnyH_one e6 ?_
    rw [set_comm listed p i, show (((listed.setIfInBounds i true).setIfInBounds p true).setIfInBounds c true) = (((listed.setIfInBounds i true).setIfInBounds c true).setIfInBounds p true) from set_comm _ _ _]
    exact last _ _ r (hSn _ _ s1 (al _ _)) (hRi w1) (hRpn _ _ _ p1 (al _ _))
/-- A call and a row that is made: in whichever order. -/
theorem reg_group2 (c p : Nat) (dc dp : Tmp) (f : FuncId) (fp : Nat → Value) (op' : Obj) (args : Array Value) (vc : Value) (Rp : World → Nat → Prop) (hS : S w) (hSn : ∀ w1 w2, S w1 → Below w1.heap.size w1 w2 → S w2)
    (hst : (ops[c]?.isSome && ops[p]?.isSome && (Region.ready .any ops listed == [c, p]) && (Region.ready .any ops (listed.setIfInBounds c true) == [p]) && (Region.ready .any ops (listed.setIfInBounds p true) == [c])) = true)
    (hdc : (opAt ops c).dst = some dc) (hdp : (opAt ops p).dst = some dp) (n3 : dc ≠ dp)
    (wc1 : Region.wanted (opAt ops c) (yielded ops a.tmps) = true) (wp1 : Region.wanted (opAt ops p) (yielded ops a.tmps) = true) (wp2 : Region.wanted (opAt ops p) (yielded ops (a.put (some dc) vc).tmps) = true) (wc2 : ∀ r, Region.wanted (opAt ops c) (yielded ops (a.put (some dp) (fp r)).tmps) = true)
    (rp1 : ∀ w1, (execOp a.eval (opAt ops p)).run P w1 = .ok (.value (fp w1.heap.size)) (w1.alloc op')) (rp2 : ∀ w1, (execOp (a.put (some dc) vc).eval (opAt ops p)).run P w1 = .ok (.value (fp w1.heap.size)) (w1.alloc op'))
    (rc1 : ∀ w1, (execOp a.eval (opAt ops c)).run P w1 = .ok (.enter f args) w1) (rc2 : ∀ r w1, (execOp (a.put (some dp) (fp r)).eval (opAt ops c)).run P w1 = .ok (.enter f args) w1)
    (hRp : ∀ w1 : World, Rp (w1.alloc op') w1.heap.size) (hRpn : ∀ w1 w2 q, Rp w1 q → Below w1.heap.size w1 w2 → Rp w2 q)
    (hc : ∀ w1, S w1 → Calls P f args w1 (fun e w' => e = .returned vc ∧ Below w1.heap.size w1 w'))
    (h : ∀ w' r, S w' → Rp w' r → wpAnyH P .any ops Q S fuel ((listed.setIfInBounds c true).setIfInBounds p true) ((a.put (some dc) vc).put (some dp) (fp r)) w') :
    wpAnyH P .any ops Q S (fuel + 2) listed a w := by
  simp only [Bool.and_eq_true, beq_iff_eq] at hst
  obtain ⟨⟨⟨⟨g2, g3⟩, e1⟩, e2⟩, e3⟩ := hst
  have al : ∀ (w1 : World) (o : Obj), Below w1.heap.size w1 (w1.alloc o) := fun w1 o => (Below.refl _ _).alloc (Nat.le_refl _) _
  have cpc : ∀ (b : Act) (v u : Value), (b.put (some dp) u).put (some dc) v = (b.put (some dc) v).put (some dp) u := fun b v u => Act.put_comm b u v (fun d h1 h2 => n3 (by cases h1; cases h2; rfl))
  refine wpAnyH_two e1 ?_ ?_
  · refine wpOp_callE f args _ (get_opAt g2) wc1 (rc1 w) (hc w hS) fun e w2 ⟨he, hb⟩ => ⟨vc, he, hSn _ _ hS hb, ?_⟩
    rw [hdc]
    have s2 := hSn _ _ hS hb
    refine wpAnyH_one e2 (wpOp_value (fp w2.heap.size) (get_opAt g3) wp2 (rp2 w2) ⟨hSn _ _ s2 (al _ _), ?_⟩)
    rw [hdp]
    exact h _ _ (hSn _ _ s2 (al _ _)) (hRp w2)
  · refine wpOp_value (fp w.heap.size) (get_opAt g3) wp1 (rp1 w) ⟨hSn _ _ hS (al _ _), ?_⟩
    rw [hdp]
    have s1 := hSn _ _ hS (al w op')
    have p1 := hRp w
    generalize w.heap.size = r at *
    generalize w.alloc op' = w1 at *
    refine wpAnyH_one e3 (wpOp_callE f args _ (get_opAt g2) (wc2 r) (rc2 r w1) (hc w1 s1) fun e w2 ⟨he, hb⟩ => ⟨vc, he, hSn _ _ s1 hb, ?_⟩)
    rw [hdc, cpc, set_comm listed p c]
    exact h _ r (hSn _ _ s1 hb) (hRpn _ _ _ p1 hb)
/-- Row i is made, then call c takes it; row p is made, then row s out of it: in whichever order. -/
theorem reg_group4 (i c p s : Nat) (di dc dp ds : Tmp) (f : FuncId) (fi fp fs : Nat → Value) (oi op' : Obj) (os : Nat → Obj) (args : Nat → Array Value) (vc : Value) (Ri Rp Rs : World → Nat → Prop) (hS : S w) (hSn : ∀ w1 w2, S w1 → Below w1.heap.size w1 w2 → S w2)
    (g1 : ops[i]?.isSome = true) (g2 : ops[c]?.isSome = true) (g3 : ops[p]?.isSome = true) (g4 : ops[s]?.isSome = true)
    (e00 : (Region.ready .any ops listed == [i, p]) = true) (e01 : (Region.ready .any ops (listed.setIfInBounds p true) == [i, s]) = true) (e02 : (Region.ready .any ops ((listed.setIfInBounds p true).setIfInBounds s true) == [i]) = true) (e10 : (Region.ready .any ops (listed.setIfInBounds i true) == [c, p]) = true) (e11 : (Region.ready .any ops ((listed.setIfInBounds i true).setIfInBounds p true) == [c, s]) = true) (e12 : (Region.ready .any ops (((listed.setIfInBounds i true).setIfInBounds p true).setIfInBounds s true) == [c]) = true) (e20 : (Region.ready .any ops ((listed.setIfInBounds i true).setIfInBounds c true) == [p]) = true) (e21 : (Region.ready .any ops (((listed.setIfInBounds i true).setIfInBounds c true).setIfInBounds p true) == [s]) = true)
    (hdi : (opAt ops i).dst = some di) (hdc : (opAt ops c).dst = some dc) (hdp : (opAt ops p).dst = some dp) (hds : (opAt ops s).dst = some ds) (n2 : di ≠ dp) (n3 : dc ≠ dp) (n4 : di ≠ ds) (n5 : dc ≠ ds)
    (wi00 : Region.wanted (opAt ops i) (yielded ops a.tmps) = true)
    (wi01 : ∀ r, Region.wanted (opAt ops i) (yielded ops (a.put (some dp) (fp r)).tmps) = true)
    (wi02 : ∀ r t, Region.wanted (opAt ops i) (yielded ops ((a.put (some dp) (fp r)).put (some ds) (fs t)).tmps) = true)
    (wc10 : ∀ q, Region.wanted (opAt ops c) (yielded ops (a.put (some di) (fi q)).tmps) = true)
    (wc11 : ∀ q r, Region.wanted (opAt ops c) (yielded ops ((a.put (some di) (fi q)).put (some dp) (fp r)).tmps) = true)
    (wc12 : ∀ q r t, Region.wanted (opAt ops c) (yielded ops (((a.put (some di) (fi q)).put (some dp) (fp r)).put (some ds) (fs t)).tmps) = true)
    (wp00 : Region.wanted (opAt ops p) (yielded ops a.tmps) = true)
    (wp10 : ∀ q, Region.wanted (opAt ops p) (yielded ops (a.put (some di) (fi q)).tmps) = true)
    (wp20 : ∀ q, Region.wanted (opAt ops p) (yielded ops ((a.put (some di) (fi q)).put (some dc) vc).tmps) = true)
    (ws01 : ∀ r, Region.wanted (opAt ops s) (yielded ops (a.put (some dp) (fp r)).tmps) = true)
    (ws11 : ∀ q r, Region.wanted (opAt ops s) (yielded ops ((a.put (some di) (fi q)).put (some dp) (fp r)).tmps) = true)
    (ws21 : ∀ q r, Region.wanted (opAt ops s) (yielded ops (((a.put (some di) (fi q)).put (some dc) vc).put (some dp) (fp r)).tmps) = true)
    (ri00 : ∀  (w1 : World),  (execOp a.eval (opAt ops i)).run P w1 = .ok (.value (fi w1.heap.size)) (w1.alloc oi))
    (ri01 : ∀ r (w1 : World),  (execOp (a.put (some dp) (fp r)).eval (opAt ops i)).run P w1 = .ok (.value (fi w1.heap.size)) (w1.alloc oi))
    (ri02 : ∀ r t (w1 : World),  (execOp ((a.put (some dp) (fp r)).put (some ds) (fs t)).eval (opAt ops i)).run P w1 = .ok (.value (fi w1.heap.size)) (w1.alloc oi))
    (rc10 : ∀ q (w1 : World),  (execOp (a.put (some di) (fi q)).eval (opAt ops c)).run P w1 = .ok (.enter f (args q)) w1)
    (rc11 : ∀ q r (w1 : World),  (execOp ((a.put (some di) (fi q)).put (some dp) (fp r)).eval (opAt ops c)).run P w1 = .ok (.enter f (args q)) w1)
    (rc12 : ∀ q r t (w1 : World),  (execOp (((a.put (some di) (fi q)).put (some dp) (fp r)).put (some ds) (fs t)).eval (opAt ops c)).run P w1 = .ok (.enter f (args q)) w1)
    (rp00 : ∀  (w1 : World),  (execOp a.eval (opAt ops p)).run P w1 = .ok (.value (fp w1.heap.size)) (w1.alloc op'))
    (rp10 : ∀ q (w1 : World),  (execOp (a.put (some di) (fi q)).eval (opAt ops p)).run P w1 = .ok (.value (fp w1.heap.size)) (w1.alloc op'))
    (rp20 : ∀ q (w1 : World),  (execOp ((a.put (some di) (fi q)).put (some dc) vc).eval (opAt ops p)).run P w1 = .ok (.value (fp w1.heap.size)) (w1.alloc op'))
    (rs01 : ∀ r (w1 : World),  (execOp (a.put (some dp) (fp r)).eval (opAt ops s)).run P w1 = .ok (.value (fs w1.heap.size)) (w1.alloc (os r)))
    (rs11 : ∀ q r (w1 : World),  (execOp ((a.put (some di) (fi q)).put (some dp) (fp r)).eval (opAt ops s)).run P w1 = .ok (.value (fs w1.heap.size)) (w1.alloc (os r)))
    (rs21 : ∀ q r (w1 : World),  (execOp (((a.put (some di) (fi q)).put (some dc) vc).put (some dp) (fp r)).eval (opAt ops s)).run P w1 = .ok (.value (fs w1.heap.size)) (w1.alloc (os r)))
    (hRi : ∀ w1 : World, Ri (w1.alloc oi) w1.heap.size) (hRin : ∀ w1 w2 q, Ri w1 q → Below w1.heap.size w1 w2 → Ri w2 q) (hRp : ∀ w1 : World, Rp (w1.alloc op') w1.heap.size) (hRpn : ∀ w1 w2 q, Rp w1 q → Below w1.heap.size w1 w2 → Rp w2 q)
    (hRs : ∀ (w1 : World) r, Rp w1 r → Rs (w1.alloc (os r)) w1.heap.size) (hRsn : ∀ w1 w2 q, Rs w1 q → Below w1.heap.size w1 w2 → Rs w2 q)
    (hc : ∀ w1 q, S w1 → Ri w1 q → Calls P f (args q) w1 (fun e w' => e = .returned vc ∧ Below w1.heap.size w1 w'))
    (h : ∀ w1 q r t, S w1 → Rs w1 t → wpAnyH P .any ops Q S fuel ((((listed.setIfInBounds i true).setIfInBounds c true).setIfInBounds p true).setIfInBounds s true) ((((a.put (some di) (fi q)).put (some dc) vc).put (some dp) (fp r)).put (some ds) (fs t)) w1) :
    wpAnyH P .any ops Q S (fuel + 4) listed a w := by
  have al : ∀ (w1 : World) (o : Obj), Below w1.heap.size w1 (w1.alloc o) := fun w1 o => (Below.refl _ _).alloc (Nat.le_refl _) _
  have cpc : ∀ (b : Act) (v u : Value), (b.put (some dp) u).put (some dc) v = (b.put (some dc) v).put (some dp) u := fun b v u => Act.put_comm b u v (fun d h1 h2 => n3 (by cases h1; cases h2; rfl))
  have cpi : ∀ (b : Act) (v u : Value), (b.put (some dp) u).put (some di) v = (b.put (some di) v).put (some dp) u := fun b v u => Act.put_comm b u v (fun d h1 h2 => n2 (by cases h1; cases h2; rfl))
  have csc : ∀ (b : Act) (v u : Value), (b.put (some ds) u).put (some dc) v = (b.put (some dc) v).put (some ds) u := fun b v u => Act.put_comm b u v (fun d h1 h2 => n5 (by cases h1; cases h2; rfl))
  have csi : ∀ (b : Act) (v u : Value), (b.put (some ds) u).put (some di) v = (b.put (some di) v).put (some ds) u := fun b v u => Act.put_comm b u v (fun d h1 h2 => n4 (by cases h1; cases h2; rfl))
  have L1 : ∀ l : Array Bool, (l.setIfInBounds p true).setIfInBounds c true = (l.setIfInBounds c true).setIfInBounds p true := fun l => set_comm l p c
  have L2 : ∀ l : Array Bool, (l.setIfInBounds s true).setIfInBounds c true = (l.setIfInBounds c true).setIfInBounds s true := fun l => set_comm l s c
  have L3 : ∀ l : Array Bool, (l.setIfInBounds p true).setIfInBounds i true = (l.setIfInBounds i true).setIfInBounds p true := fun l => set_comm l p i
  have L4 : ∀ l : Array Bool, (l.setIfInBounds s true).setIfInBounds i true = (l.setIfInBounds i true).setIfInBounds s true := fun l => set_comm l s i
  rw [beq_iff_eq] at e00 e01 e02 e10 e11 e12 e20 e21
  have s21 : ∀ w1 q r, S w1 → Rp w1 r → wpAnyH P .any ops Q S (fuel + 1) (((listed.setIfInBounds i true).setIfInBounds c true).setIfInBounds p true) (((a.put (some di) (fi q)).put (some dc) vc).put (some dp) (fp r)) w1 := fun w1 q r h1 h3 => by
    refine wpAnyH_one e21 (wpOp_value (fs w1.heap.size) (get_opAt g4) (ws21 q r) (rs21 q r w1) ⟨hSn _ _ h1 (al _ _), ?_⟩)
    rw [hds]
    exact h _ q r _ (hSn _ _ h1 (al _ _)) (hRs _ _ h3)
  have s20 : ∀ w1 q, S w1 → wpAnyH P .any ops Q S (fuel + 2) ((listed.setIfInBounds i true).setIfInBounds c true) ((a.put (some di) (fi q)).put (some dc) vc) w1 := fun w1 q h1 => by
    refine wpAnyH_one e20 (wpOp_value (fp w1.heap.size) (get_opAt g3) (wp20 q) (rp20 q w1) ⟨hSn _ _ h1 (al _ _), ?_⟩)
    rw [hdp]
    exact s21 _ q _ (hSn _ _ h1 (al _ _)) (hRp _)
  have s12 : ∀ w1 q r t, S w1 → Ri w1 q → Rs w1 t → wpAnyH P .any ops Q S (fuel + 1) (((listed.setIfInBounds i true).setIfInBounds p true).setIfInBounds s true) (((a.put (some di) (fi q)).put (some dp) (fp r)).put (some ds) (fs t)) w1 := fun w1 q r t h1 h2 h4 => by
    refine wpAnyH_one e12 (wpOp_callE f (args q) _ (get_opAt g2) (wc12 q r t) (rc12 q r t w1) (hc w1 q h1 h2) fun e w2 ⟨he, hb⟩ => ⟨vc, he, hSn _ _ h1 hb, ?_⟩)
    rw [hdc, csc, cpc, L2, L1]
    exact h w2 q r t (hSn _ _ h1 (hb)) (hRsn _ _ _ h4 (hb))
  have s11 : ∀ w1 q r, S w1 → Ri w1 q → Rp w1 r → wpAnyH P .any ops Q S (fuel + 2) ((listed.setIfInBounds i true).setIfInBounds p true) ((a.put (some di) (fi q)).put (some dp) (fp r)) w1 := fun w1 q r h1 h2 h3 => by
    refine wpAnyH_two e11 ?_ ?_
    · refine wpOp_callE f (args q) _ (get_opAt g2) (wc11 q r) (rc11 q r w1) (hc w1 q h1 h2) fun e w2 ⟨he, hb⟩ => ⟨vc, he, hSn _ _ h1 hb, ?_⟩
      rw [hdc, cpc, L1]
      exact s21 w2 q r (hSn _ _ h1 (hb)) (hRpn _ _ _ h3 (hb))
    · refine wpOp_value (fs w1.heap.size) (get_opAt g4) (ws11 q r) (rs11 q r w1) ⟨hSn _ _ h1 (al _ _), ?_⟩
      rw [hds]
      exact s12 _ q r _ (hSn _ _ h1 (al _ _)) (hRin _ _ _ h2 (al _ _)) (hRs _ _ h3)
  have s10 : ∀ w1 q, S w1 → Ri w1 q → wpAnyH P .any ops Q S (fuel + 3) (listed.setIfInBounds i true) (a.put (some di) (fi q)) w1 := fun w1 q h1 h2 => by
    refine wpAnyH_two e10 ?_ ?_
    · refine wpOp_callE f (args q) _ (get_opAt g2) (wc10 q) (rc10 q w1) (hc w1 q h1 h2) fun e w2 ⟨he, hb⟩ => ⟨vc, he, hSn _ _ h1 hb, ?_⟩
      rw [hdc]
      exact s20 w2 q (hSn _ _ h1 (hb))
    · refine wpOp_value (fp w1.heap.size) (get_opAt g3) (wp10 q) (rp10 q w1) ⟨hSn _ _ h1 (al _ _), ?_⟩
      rw [hdp]
      exact s11 _ q _ (hSn _ _ h1 (al _ _)) (hRin _ _ _ h2 (al _ _)) (hRp _)
  have s02 : ∀ w1 r t, S w1 → Rs w1 t → wpAnyH P .any ops Q S (fuel + 2) ((listed.setIfInBounds p true).setIfInBounds s true) ((a.put (some dp) (fp r)).put (some ds) (fs t)) w1 := fun w1 r t h1 h4 => by
    refine wpAnyH_one e02 (wpOp_value (fi w1.heap.size) (get_opAt g1) (wi02 r t) (ri02 r t w1) ⟨hSn _ _ h1 (al _ _), ?_⟩)
    rw [hdi, csi, cpi, L4, L3]
    exact s12 _ _ r t (hSn _ _ h1 (al _ _)) (hRi _) (hRsn _ _ _ h4 (al _ _))
  have s01 : ∀ w1 r, S w1 → Rp w1 r → wpAnyH P .any ops Q S (fuel + 3) (listed.setIfInBounds p true) (a.put (some dp) (fp r)) w1 := fun w1 r h1 h3 => by
    refine wpAnyH_two e01 ?_ ?_
    · refine wpOp_value (fi w1.heap.size) (get_opAt g1) (wi01 r) (ri01 r w1) ⟨hSn _ _ h1 (al _ _), ?_⟩
      rw [hdi, cpi, L3]
      exact s11 _ _ r (hSn _ _ h1 (al _ _)) (hRi _) (hRpn _ _ _ h3 (al _ _))
    · refine wpOp_value (fs w1.heap.size) (get_opAt g4) (ws01 r) (rs01 r w1) ⟨hSn _ _ h1 (al _ _), ?_⟩
      rw [hds]
      exact s02 _ r _ (hSn _ _ h1 (al _ _)) (hRs _ _ h3)
  have h1 := hS
  refine wpAnyH_two e00 ?_ ?_
  · refine wpOp_value (fi w.heap.size) (get_opAt g1) wi00 (ri00 w) ⟨hSn _ _ h1 (al _ _), ?_⟩
    rw [hdi]
    exact s10 _ _ (hSn _ _ h1 (al _ _)) (hRi _)
  · refine wpOp_value (fp w.heap.size) (get_opAt g3) wp00 (rp00 w) ⟨hSn _ _ h1 (al _ _), ?_⟩
    rw [hdp]
    exact s01 _ _ (hSn _ _ h1 (al _ _)) (hRp _)
end
end Go.Proofs.YtoeilaedpibboaaDoor
