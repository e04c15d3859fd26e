/- A region that draws its order: a call, a row that is made of its result, a call that takes the row; and a row that is made at any time. General lemmas on the model. -/
import Derived.Test.YtngpmilojfbpmaaDoorGenS
namespace Go.Proofs.YtngpmilojfbpmaaDoor
open Go Go.RowKit

section
variable {P : Program} {ops : Array Oper} {Q : Exit → Act → World → Prop} {S : World → Prop} {fuel : Nat} {listed : Array Bool} {a : Act} {w : World}
theorem set_com (l : Array Bool) (i j : Nat) : (l.setIfInBounds i true).setIfInBounds j true = (l.setIfInBounds j true).setIfInBounds i true := by
  by_cases h : i = j
  · subst h; rfl
  · exact Array.setIfInBounds_comm _ _ h
/-- A call c, then row i is made of its result, then call e takes it, then x, y, z are read off its result; row p is made at any time. -/
theorem reg_chain (c i e x y z p : Nat) (dc di de dx dy dz dp : Tmp) (f1 f3 : FuncId) (fi fp : Nat → Value) (oi op' : Obj) (args1 : Array Value) (args3 : Nat → Array Value) (vc ve vx vy vz : Value) (Ri Rp : World → Nat → Prop)
    (hQ : ∀ c a w d v, Q (.panic c) (a.put d v) w → Q (.panic c) a w) (hS : S w) (hSn : ∀ w1 w2, S w1 → Below w1.heap.size w1 w2 → S w2)
    (hst : (Region.noSelect ops && ops[c]?.isSome && ops[i]?.isSome && ops[e]?.isSome && ops[x]?.isSome && ops[y]?.isSome && ops[z]?.isSome && ops[p]?.isSome && (Region.ready .any ops listed == [c, p]) && (Region.ready .any ops (listed.setIfInBounds c true) == [i, p]) && (Region.ready .any ops ((listed.setIfInBounds c true).setIfInBounds i true) == [e, p]) && (Region.ready .any ops (listed.setIfInBounds p true) == [c]) && (Region.ready .any ops ((listed.setIfInBounds c true).setIfInBounds p true) == [i]) && (Region.ready .any ops (((listed.setIfInBounds c true).setIfInBounds i true).setIfInBounds p true) == [e]) && (Region.free .any ops (((listed.setIfInBounds c true).setIfInBounds i true).setIfInBounds e true) x && (Region.ready .any ops (((listed.setIfInBounds c true).setIfInBounds i true).setIfInBounds e true)).contains x) && (Region.free .any ops ((((listed.setIfInBounds c true).setIfInBounds i true).setIfInBounds e true).setIfInBounds x true) y && (Region.ready .any ops ((((listed.setIfInBounds c true).setIfInBounds i true).setIfInBounds e true).setIfInBounds x true)).contains y) && (Region.free .any ops (((((listed.setIfInBounds c true).setIfInBounds i true).setIfInBounds e true).setIfInBounds x true).setIfInBounds y true) z && (Region.ready .any ops (((((listed.setIfInBounds c true).setIfInBounds i true).setIfInBounds e true).setIfInBounds x true).setIfInBounds y true)).contains z) && (Region.ready .any ops ((((((listed.setIfInBounds c true).setIfInBounds i true).setIfInBounds e true).setIfInBounds x true).setIfInBounds y true).setIfInBounds z true) == [p]) && (Region.free .any ops ((((listed.setIfInBounds c true).setIfInBounds i true).setIfInBounds e true).setIfInBounds p true) x && (Region.ready .any ops ((((listed.setIfInBounds c true).setIfInBounds i true).setIfInBounds e true).setIfInBounds p true)).contains x) && (Region.free .any ops (((((listed.setIfInBounds c true).setIfInBounds i true).setIfInBounds e true).setIfInBounds x true).setIfInBounds p true) y && (Region.ready .any ops (((((listed.setIfInBounds c true).setIfInBounds i true).setIfInBounds e true).setIfInBounds x true).setIfInBounds p true)).contains y) && (Region.free .any ops ((((((listed.setIfInBounds c true).setIfInBounds i true).setIfInBounds e true).setIfInBounds x true).setIfInBounds y true).setIfInBounds p true) z && (Region.ready .any ops ((((((listed.setIfInBounds c true).setIfInBounds i true).setIfInBounds e true).setIfInBounds x true).setIfInBounds y true).setIfInBounds p true)).contains z)) = true)
    (hdc : (opAt ops c).dst = some dc) (hdi : (opAt ops i).dst = some di) (hde : (opAt ops e).dst = some de) (hdx : (opAt ops x).dst = some dx) (hdy : (opAt ops y).dst = some dy) (hdz : (opAt ops z).dst = some dz) (hdp : (opAt ops p).dst = some dp)
    (hne : (dc ≠ dp ∧ di ≠ dp ∧ de ≠ dp) ∧ dx ≠ dp ∧ dy ≠ dp ∧ dz ≠ dp)
    (wc0 : Region.wanted (opAt ops c) (yielded ops a.tmps) = true)
    (wp0 : Region.wanted (opAt ops p) (yielded ops a.tmps) = true)
    (wc0p : ∀ r : Nat, Region.wanted (opAt ops c) (yielded ops (a.put (some dp) (fp r)).tmps) = true)
    (wi1 : Region.wanted (opAt ops i) (yielded ops (a.put (some dc) vc).tmps) = true)
    (wp1 : Region.wanted (opAt ops p) (yielded ops (a.put (some dc) vc).tmps) = true)
    (wi1p : ∀ r : Nat, Region.wanted (opAt ops i) (yielded ops ((a.put (some dc) vc).put (some dp) (fp r)).tmps) = true)
    (we2 : ∀ s : Nat, Region.wanted (opAt ops e) (yielded ops ((a.put (some dc) vc).put (some di) (fi s)).tmps) = true)
    (wp2 : ∀ s : Nat, Region.wanted (opAt ops p) (yielded ops ((a.put (some dc) vc).put (some di) (fi s)).tmps) = true)
    (we2p : ∀ s r : Nat, Region.wanted (opAt ops e) (yielded ops (((a.put (some dc) vc).put (some di) (fi s)).put (some dp) (fp r)).tmps) = true)
    (wx3 : ∀ s : Nat, Region.wanted (opAt ops x) (yielded ops (((a.put (some dc) vc).put (some di) (fi s)).put (some de) ve).tmps) = true)
    (wx3p : ∀ s r : Nat, Region.wanted (opAt ops x) (yielded ops ((((a.put (some dc) vc).put (some di) (fi s)).put (some de) ve).put (some dp) (fp r)).tmps) = true)
    (wy4 : ∀ s : Nat, Region.wanted (opAt ops y) (yielded ops ((((a.put (some dc) vc).put (some di) (fi s)).put (some de) ve).put (some dx) vx).tmps) = true)
    (wy4p : ∀ s r : Nat, Region.wanted (opAt ops y) (yielded ops (((((a.put (some dc) vc).put (some di) (fi s)).put (some de) ve).put (some dx) vx).put (some dp) (fp r)).tmps) = true)
    (wz5 : ∀ s : Nat, Region.wanted (opAt ops z) (yielded ops (((((a.put (some dc) vc).put (some di) (fi s)).put (some de) ve).put (some dx) vx).put (some dy) vy).tmps) = true)
    (wz5p : ∀ s r : Nat, Region.wanted (opAt ops z) (yielded ops ((((((a.put (some dc) vc).put (some di) (fi s)).put (some de) ve).put (some dx) vx).put (some dy) vy).put (some dp) (fp r)).tmps) = true)
    (wp6 : ∀ s : Nat, Region.wanted (opAt ops p) (yielded ops ((((((a.put (some dc) vc).put (some di) (fi s)).put (some de) ve).put (some dx) vx).put (some dy) vy).put (some dz) vz).tmps) = true)
    (rc0 : ∀ w1, (execOp a.eval (opAt ops c)).run P w1 = .ok (.enter f1 args1) w1)
    (rp0 : ∀ w1 : World, (execOp a.eval (opAt ops p)).run P w1 = .ok (.value (fp w1.heap.size)) (w1.alloc op'))
    (rc0p : ∀ r : Nat, ∀ w1, (execOp (a.put (some dp) (fp r)).eval (opAt ops c)).run P w1 = .ok (.enter f1 args1) w1)
    (ri1 : ∀ w1 : World, (execOp (a.put (some dc) vc).eval (opAt ops i)).run P w1 = .ok (.value (fi w1.heap.size)) (w1.alloc oi))
    (rp1 : ∀ w1 : World, (execOp (a.put (some dc) vc).eval (opAt ops p)).run P w1 = .ok (.value (fp w1.heap.size)) (w1.alloc op'))
    (ri1p : ∀ r : Nat, ∀ w1 : World, (execOp ((a.put (some dc) vc).put (some dp) (fp r)).eval (opAt ops i)).run P w1 = .ok (.value (fi w1.heap.size)) (w1.alloc oi))
    (re2 : ∀ s : Nat, ∀ w1, (execOp ((a.put (some dc) vc).put (some di) (fi s)).eval (opAt ops e)).run P w1 = .ok (.enter f3 (args3 s)) w1)
    (rp2 : ∀ s : Nat, ∀ w1 : World, (execOp ((a.put (some dc) vc).put (some di) (fi s)).eval (opAt ops p)).run P w1 = .ok (.value (fp w1.heap.size)) (w1.alloc op'))
    (re2p : ∀ s r : Nat, ∀ w1, (execOp (((a.put (some dc) vc).put (some di) (fi s)).put (some dp) (fp r)).eval (opAt ops e)).run P w1 = .ok (.enter f3 (args3 s)) w1)
    (rx3 : ∀ s : Nat, ∀ w1 : World, (execOp (((a.put (some dc) vc).put (some di) (fi s)).put (some de) ve).eval (opAt ops x)).run P w1 = .ok (.value vx) w1)
    (rx3p : ∀ s r : Nat, ∀ w1 : World, (execOp ((((a.put (some dc) vc).put (some di) (fi s)).put (some de) ve).put (some dp) (fp r)).eval (opAt ops x)).run P w1 = .ok (.value vx) w1)
    (ry4 : ∀ s : Nat, ∀ w1 : World, (execOp ((((a.put (some dc) vc).put (some di) (fi s)).put (some de) ve).put (some dx) vx).eval (opAt ops y)).run P w1 = .ok (.value vy) w1)
    (ry4p : ∀ s r : Nat, ∀ w1 : World, (execOp (((((a.put (some dc) vc).put (some di) (fi s)).put (some de) ve).put (some dx) vx).put (some dp) (fp r)).eval (opAt ops y)).run P w1 = .ok (.value vy) w1)
    (rz5 : ∀ s : Nat, ∀ w1 : World, (execOp (((((a.put (some dc) vc).put (some di) (fi s)).put (some de) ve).put (some dx) vx).put (some dy) vy).eval (opAt ops z)).run P w1 = .ok (.value vz) w1)
    (rz5p : ∀ s r : Nat, ∀ w1 : World, (execOp ((((((a.put (some dc) vc).put (some di) (fi s)).put (some de) ve).put (some dx) vx).put (some dy) vy).put (some dp) (fp r)).eval (opAt ops z)).run P w1 = .ok (.value vz) w1)
    (rp6 : ∀ s : Nat, ∀ w1 : World, (execOp ((((((a.put (some dc) vc).put (some di) (fi s)).put (some de) ve).put (some dx) vx).put (some dy) vy).put (some dz) vz).eval (opAt ops p)).run P w1 = .ok (.value (fp w1.heap.size)) (w1.alloc op'))
    (hRi : ∀ w1 : World, Ri (w1.alloc oi) w1.heap.size) (hRin : ∀ w1 w2 q, Ri w1 q → Below w1.heap.size w1 w2 → Ri w2 q) (hRp : ∀ w1 : World, S w1 → Rp (w1.alloc op') w1.heap.size) (hRpn : ∀ w1 w2 q, Rp w1 q → Below w1.heap.size w1 w2 → Rp w2 q)
    (hc1 : ∀ w1, S w1 → Calls P f1 args1 w1 (fun e w' => e = .returned vc ∧ Below w1.heap.size w1 w'))
    (hc3 : ∀ w1 q, S w1 → Ri w1 q → Calls P f3 (args3 q) w1 (fun e w' => e = .returned ve ∧ Below w1.heap.size w1 w'))
    (h : ∀ w' s r, S w' → Rp w' r → wpAnyH P .any ops Q S fuel (((((((listed.setIfInBounds c true).setIfInBounds i true).setIfInBounds e true).setIfInBounds x true).setIfInBounds y true).setIfInBounds z true).setIfInBounds p true) (((((((a.put (some dc) vc).put (some di) (fi s)).put (some de) ve).put (some dx) vx).put (some dy) vy).put (some dz) vz).put (some dp) (fp r)) w') :
    wpAnyH P .any ops Q S (fuel + 7) listed a w := by
  have al : ∀ (w1 : World) (o : Obj), Below w1.heap.size w1 (w1.alloc o) := fun w1 o => (Below.refl _ _).alloc (Nat.le_refl _) _
  simp only [Bool.and_eq_true, beq_iff_eq] at hst
  obtain ⟨⟨⟨⟨⟨⟨⟨⟨⟨⟨⟨⟨⟨⟨⟨⟨⟨⟨⟨⟨gn, gc⟩, gi⟩, ge⟩, gx⟩, gy⟩, gz⟩, gp⟩, e0⟩, e1⟩, e2⟩, e3⟩, e4⟩, e5⟩, ⟨fxa, fxb⟩⟩, ⟨fya, fyb⟩⟩, ⟨fza, fzb⟩⟩, e6⟩, ⟨fxpa, fxpb⟩⟩, ⟨fypa, fypb⟩⟩, ⟨fzpa, fzpb⟩⟩ := hst
  obtain ⟨⟨nc, ni, ne⟩, nx, ny, nz⟩ := hne
  have cp : ∀ (d : Tmp) (_ : d ≠ dp) (b : Act) (v u : Value), (b.put (some dp) u).put (some d) v = (b.put (some d) v).put (some dp) u := fun d hd b v u => Act.put_comm b u v (fun k h1 h2 => hd (by cases h1; cases h2; rfl))
  -- behind c, i, p
  have last : ∀ w1 s r, S w1 → Ri w1 s → Rp w1 r → wpAnyH P .any ops Q S (fuel + 4) (((listed.setIfInBounds c true).setIfInBounds i true).setIfInBounds p true) (((a.put (some dc) vc).put (some di) (fi s)).put (some dp) (fp r)) w1 := fun w1 s r s1 i1 p1 => by
    refine wpAnyH_one e5 (wpOp_callE f3 (args3 s) _ (get_opAt ge) (we2p s r) (re2p s r w1) (hc3 w1 s s1 i1) fun e0 w2 ⟨he, hb⟩ => ⟨ve, he, hSn _ _ s1 hb, ?_⟩)
    rw [hde, cp _ ne, set_com _ p e]
    have s2 := hSn _ _ s1 hb
    have p2 := hRpn _ _ _ p1 hb
    refine wpAnyH_now vx (get_opAt gx) gn fxpa (by simpa using fxpb) (wx3p s r) (fun c a w h => hQ c a w _ _ h) (rx3p s r) s2 ?_
    rw [hdx]
    rw [cp _ nx, set_com _ p x]
    refine wpAnyH_now vy (get_opAt gy) gn fypa (by simpa using fypb) (wy4p s r) (fun c a w h => hQ c a w _ _ h) (ry4p s r) s2 ?_
    rw [hdy]
    rw [cp _ ny, set_com _ p y]
    refine wpAnyH_now vz (get_opAt gz) gn fzpa (by simpa using fzpb) (wz5p s r) (fun c a w h => hQ c a w _ _ h) (rz5p s r) s2 ?_
    rw [hdz]
    rw [cp _ nz, set_com _ p z]
    exact h w2 s r s2 p2
  refine wpAnyH_two e0 ?_ ?_
  · refine wpOp_callE f1 args1 _ (get_opAt gc) wc0 (rc0 w) (hc1 w hS) fun e0 w2 ⟨he, hb⟩ => ⟨vc, he, hSn _ _ hS hb, ?_⟩
    rw [hdc]
    have s2 := hSn _ _ hS hb
    refine wpAnyH_two e1 ?_ ?_
    · refine wpOp_value (fi w2.heap.size) (get_opAt gi) wi1 (ri1 w2) ⟨hSn _ _ s2 (al _ _), ?_⟩
      rw [hdi]
      have s3 := hSn _ _ s2 (al w2 oi)
      have i3 := hRi w2
      generalize w2.heap.size = s at *
      generalize w2.alloc oi = w3 at *
      refine wpAnyH_two e2 ?_ ?_
      · refine wpOp_callE f3 (args3 s) _ (get_opAt ge) (we2 s) (re2 s w3) (hc3 w3 s s3 i3) fun e0 w4 ⟨he, hb4⟩ => ⟨ve, he, hSn _ _ s3 hb4, ?_⟩
        rw [hde]
        have s4 := hSn _ _ s3 hb4
        refine wpAnyH_now vx (get_opAt gx) gn fxa (by simpa using fxb) (wx3 s) (fun c a w h => hQ c a w _ _ h) (rx3 s) s4 ?_
        rw [hdx]
        refine wpAnyH_now vy (get_opAt gy) gn fya (by simpa using fyb) (wy4 s) (fun c a w h => hQ c a w _ _ h) (ry4 s) s4 ?_
        rw [hdy]
        refine wpAnyH_now vz (get_opAt gz) gn fza (by simpa using fzb) (wz5 s) (fun c a w h => hQ c a w _ _ h) (rz5 s) s4 ?_
        rw [hdz]
        refine wpAnyH_one e6 (wpOp_value (fp w4.heap.size) (get_opAt gp) (wp6 s) (rp6 s w4) ⟨hSn _ _ s4 (al _ _), ?_⟩)
        rw [hdp]
        exact h _ s _ (hSn _ _ s4 (al _ _)) (hRp w4 s4)
      · refine wpOp_value (fp w3.heap.size) (get_opAt gp) (wp2 s) (rp2 s w3) ⟨hSn _ _ s3 (al _ _), ?_⟩
        rw [hdp]
        exact last _ s _ (hSn _ _ s3 (al _ _)) (hRin _ _ _ i3 (al _ _)) (hRp w3 s3)
    · refine wpOp_value (fp w2.heap.size) (get_opAt gp) wp1 (rp1 w2) ⟨hSn _ _ s2 (al _ _), ?_⟩
      rw [hdp]
      have s3 := hSn _ _ s2 (al w2 op')
      have p3 := hRp w2 s2
      generalize w2.heap.size = r at *
      generalize w2.alloc op' = w3 at *
      refine wpAnyH_one e4 (wpOp_value (fi w3.heap.size) (get_opAt gi) (wi1p r) (ri1p r w3) ⟨hSn _ _ s3 (al _ _), ?_⟩)
      rw [hdi, cp _ ni, set_com _ p i]
      exact last _ _ r (hSn _ _ s3 (al _ _)) (hRi w3) (hRpn _ _ _ p3 (al _ _))
  · refine wpOp_value (fp w.heap.size) (get_opAt gp) wp0 (rp0 w) ⟨hSn _ _ hS (al _ _), ?_⟩
    rw [hdp]
    have s1 := hSn _ _ hS (al w op')
    have p1 := hRp w hS
    generalize w.heap.size = r at *
    generalize w.alloc op' = w1 at *
    refine wpAnyH_one e3 (wpOp_callE f1 args1 _ (get_opAt gc) (wc0p r) (rc0p r w1) (hc1 w1 s1) fun e0 w2 ⟨he, hb⟩ => ⟨vc, he, hSn _ _ s1 hb, ?_⟩)
    rw [hdc, cp _ nc, set_com _ p c]
    have s2 := hSn _ _ s1 hb
    have p2 := hRpn _ _ _ p1 hb
    refine wpAnyH_one e4 (wpOp_value (fi w2.heap.size) (get_opAt gi) (wi1p r) (ri1p r w2) ⟨hSn _ _ s2 (al _ _), ?_⟩)
    rw [hdi, cp _ ni, set_com _ p i]
    exact last _ _ r (hSn _ _ s2 (al _ _)) (hRi w2) (hRpn _ _ _ p2 (al _ _))
end
end Go.Proofs.YtngpmilojfbpmaaDoor
