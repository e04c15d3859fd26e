/- Calls that may panic; what is kept but for some blocks. -/
import Derived.Test.YtdacmogedchnaaaQGenT
import Derived.Test.YtdacmogedchnaaaQGenR
import Derived.Recover
namespace Go.Proofs.Ytdacmogedchnaaa
open Go Go.RowKit
/-- Below block B, but for the blocks G, the world w' is as w was. -/
structure Bel (G : List Nat) (B : Nat) (w w' : World) : Prop where
 os : w'.os = w.os
 tape : w'.tape = w.tape
 output : w'.output = w.output
 size : w.heap.size ≤ w'.heap.size
 block : ∀ k, k < B → k ∉ G → w'.heap[k]? = w.heap[k]?
theorem Bel.refl (G : List Nat) (B : Nat) (w : World) : Bel G B w w := ⟨rfl, rfl, rfl, Nat.le_refl _, fun _ _ _ => rfl⟩
theorem Bel.trans {G : List Nat} {B : Nat} {a b c : World} (h : Bel G B a b) (k : Bel G B b c) : Bel G B a c :=
 ⟨k.os.trans h.os, k.tape.trans h.tape, k.output.trans h.output, Nat.le_trans h.size k.size, fun i hi hg => (k.block i hi hg).trans (h.block i hi hg)⟩
theorem Bel.mono {G : List Nat} {B B' : Nat} {a b : World} (h : Bel G B a b) (hB : B' ≤ B) : Bel G B' a b := ⟨h.os, h.tape, h.output, h.size, fun i hi hg => h.block i (Nat.lt_of_lt_of_le hi hB) hg⟩
theorem Bel.of {G : List Nat} {B : Nat} {a b : World} (h : Below B a b) : Bel G B a b := ⟨h.os, h.tape, h.output, h.size, fun i hi _ => h.block i hi⟩
theorem Bel.below {G : List Nat} {B : Nat} {a b : World} (h : Bel G B a b) (hG : ∀ k ∈ G, B ≤ k) : Below B a b := ⟨h.os, h.tape, h.output, h.size, fun i hi => h.block i hi (fun hc => absurd hi (Nat.not_lt.2 (hG i hc)))⟩
theorem Bel.step {F G : List Nat} {B : Nat} {a b : World} (h : Bel G B a b) (hB : a.heap.size ≤ B) (hF : ∀ k ∈ G, k ∈ F) : Step F a F b := ⟨h.os, h.tape, h.output, h.size, fun k hk hn => h.block k (Nat.lt_of_lt_of_le hk hB) (fun hc => hn (hF k hc)), fun _ h => .inl h⟩
theorem Bel.upd {G : List Nat} {B b : Nat} {u v w : World} (h : Bel G B u v) (k : Upd b v w) (hb : b ∈ G ∨ B ≤ b) (hB : B ≤ v.heap.size) : Bel G B u w :=
 ⟨k.os.trans h.os, k.tape.trans h.tape, k.output.trans h.output, Nat.le_trans h.size k.size, fun i hi hg => (k.block i (Nat.lt_of_lt_of_le hi hB) (fun e => hb.elim (fun hc => hg (e ▸ hc)) (fun hc => by omega))).trans (h.block i hi hg)⟩
theorem Bel.blk {G : List Nat} {B : Nat} {a b : World} (h : Bel G B a b) {k : Nat} {t : TypeId} {cs : List Value} (hk : Blk a k t cs) (hB : k < B) (hG : k ∉ G) : Blk b k t cs := by
 unfold Blk
 rw [h.block k hB hG]
 exact hk
section
variable {P : Program} {ops : Array Oper} {Q : Exit → Act → World → Prop} {S : World → Prop} {fuel : Nat} {listed : Array Bool} {a : Act} {w : World}
theorem lin_callP (i : Nat) (f : FuncId) (args : Array Value) (d : Option Tmp) (R : Ending → World → Prop) (hi : (ops[i]?.isSome && Region.wanted (opAt ops i) (yielded ops a.tmps)) = true) (hd : (opAt ops i).dst = d)
    (hrun : (execOp a.eval (opAt ops i)).run P w = .ok (.enter f args) w) (hc : Calls P f args w R)
    (h : ∀ e w', R e w' → (∃ v, e = .returned v ∧ wpFrom P ops Q (i + 1) (a.put d v) w') ∨ (∃ ch, e = .panicked ch ∧ Q (.panic ch) a w')) : wpFrom P ops Q i a w := by
  simp only [Bool.and_eq_true] at hi
  obtain ⟨h1, h2⟩ := hi
  subst hd
  refine ⟨?_⟩
  rw [drop_opAt h1]
  refine wpList_step fun K hK => ?_
  rw [if_pos h2]
  unfold Oper.wp
  rw [hrun]
  refine hc.mono fun e w' hR => ?_
  rcases h e w' hR with ⟨v, rfl, hk⟩ | ⟨ch, rfl, hk⟩
  · exact hK _ _ hk.out
  · exact hk
theorem put_defers (a : Act) (d : Option Tmp) (v : Value) : (a.put d v).defers = a.defers := by cases d <;> rfl
theorem region_beginP {id : Nat} {ops0 : Array Oper} (ops : Array Oper) (S : World → Prop) (he : ops0 = ops) (hm : P.follows .mixedOrders = true) (n : Nat) (hn : ops.size = n)
    (h : ∀ Q' : Exit → Act → World → Prop, (∀ c a w d v, Q' (.panic c) (a.put d v) w → Q' (.panic c) a w) → (∀ a w, Q .normal a w → Q' .normal a w) → (∀ c a w, (∀ a' : Act, a'.defers = a.defers → Q (.panic c) a' w) → Q' (.panic c) a w) → wpAnyH P .any ops Q' S n (Array.replicate n false) a w.drew) : (Code.region id ops0 true).wp P Q a w := by
  subst he
  subst hn
  refine Code.wp_mono (Q := fun e a w => match e with | .normal => Q .normal a w | .panic c => ∀ a' : Act, a'.defers = a.defers → Q (.panic c) a' w | _ => False) (fun e a w he => ?_) (wp_region_held hm (h _ (fun c a w d v h a' ha => h a' (ha.trans (put_defers a d v).symm)) (fun _ _ h => h) (fun _ _ _ h => h)))
  cases e <;> first | exact he | exact he _ rfl | exact False.elim he
end
end Go.Proofs.Ytdacmogedchnaaa
