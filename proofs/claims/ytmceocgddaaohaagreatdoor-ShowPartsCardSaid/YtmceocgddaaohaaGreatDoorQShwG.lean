/- A range over a function that never says 'no more': the caller leaves the loop in its N-th round at the latest. General; nothing about the program. -/
import Derived.Test.YtmceocgddaaohaaGreatDoorQTrmK
namespace Go.Proofs.YtmceocgddaaohaaGreatDoor
open Go Go.RowKit
set_option maxRecDepth 100000
/-- How a round may be left. -/
def leftE (B N : Nat) (Kp : World → World → Prop) (I : Nat → World → Prop) (Ix : Code → Nat → World → Prop) (k : Nat) (W : World) : Exit → Act → World → Prop
 | .normal, _, W' => KeepsFrom B W W' ∧ Kp W W' ∧ k + 1 < N ∧ I (k + 1) W'
 | .exit id, _, W' => KeepsFrom B W W' ∧ Ix (.exit id) (k + 1) W'
 | _, _, _ => False
/-- What an iterator says that goes on as long as it is let: rounds 0, 1, .., of which less than N go on. -/
def Endless (P : Program) (gf : FuncId) (lb : Array Value) (N : Nat) (el : Nat → Value) (Kp : World → World → Prop) (w : World) : Prop :=
 ∀ (l : Nat) (J Jx : Nat → World → Prop) (W : World), Below w.heap.size w W → (∀ k A B, J k A → Below A.heap.size A B → J k B) →
  (∀ k W1, k < N → J k W1 → YieldAt Fence.wide 0 P l #[el k] W1 fun e W' => (e = .returned (.bool true) ∧ k + 1 < N ∧ J (k + 1) W' ∧ Kp W1 W') ∨ (e = .returned (.bool false) ∧ Jx (k + 1) W')) →
  J 0 W → Calls P gf (#[.func (.yield l) #[] #[]] ++ lb) W fun e W' => (∃ v, e = .returned v) ∧ ∃ k, k ≤ N ∧ Jx k W'
set_option maxHeartbeats 2000000 in
theorem range_endless {P : Program} {Q : Exit → Act → World → Prop} {a : Act} {w : World} {g : Operand} {p1 : Tmp} {assign body : Code} (gf : FuncId) (lb : Array Value) (hg : a.eval g = .func (.func gf) #[] lb) (eg : ∀ args w, (callFunc gf args).run P w = .ok (.enter gf args) w)
    (N : Nat) (el : Nat → Value) (Kp : World → World → Prop) (hKt : ∀ {A B C : World}, Kp A B → Kp B C → Kp A C) (hKb : ∀ (W : World) (l : Nat) (o o' : Obj), w.heap.size ≤ l → W.heap[l]? = some o → o.isCells = false → Kp W (W.putObj l o'))
    (hseq : Endless P gf lb N el Kp w) (I : Nat → World → Prop) (Ix : Code → Nat → World → Prop) (hI : OwnFrom w.heap.size I) (hIx : ∀ c, OwnFrom w.heap.size (Ix c)) (h0 : I 0 w) (A1 : Nat → Act)
    (hassign : ∀ (l k : Nat) (W : World) (K : Act → World → Prop), K (A1 k) W → assign.wpIn (inR l) 0 P (Exit.then K (fun _ _ _ => False)) { tmps := a.tmps.setIfInBounds p1 (el k), defers := [] } W)
    (hbody : ∀ (l k : Nat) (W : World), k < N → I k W → body.wpIn (inR l) 0 P (leftE w.heap.size N Kp I Ix k W) (A1 k) W)
    (hstop : ∀ (D : Nat) (c : Code) (k : Nat) (W : World), k ≤ N → Ix c k W → w.heap.size ≤ D → W.heap[D]? = some (.deferred (some [])) → c.wp P Q (Act.marked a D) W) :
    (Code.rangeFunc g #[p1] assign body).wp P Q a w := by
  refine (wpIn_wide (n := 1)).1 (wpIn_rangeFunc fun fn hfn => ?_)
  -- the loop's record, in each of its states
  let R : LoopState → Option Code → Obj := fun s p => .loop { state := s, pending := p, fn := fn, tmps := a.tmps, params := #[p1], assign := assign, body := body, defers := w.heap.size }
  have hD : ((w.alloc (.deferred (some []))).alloc (R .ready none)).heap[w.heap.size]? = some (.deferred (some [])) := (Below.heap_alloc _ _ _ (by simp)).trans (World.alloc_heap_new w _)
  have hL : ((w.alloc (.deferred (some []))).alloc (R .ready none)).heap[w.heap.size + 1]? = some (R .ready none) := by
    have := World.alloc_heap_new (w.alloc (.deferred (some []))) (R .ready none)
    rwa [World.size_alloc] at this
  have hI0 : I 0 ((w.alloc (.deferred (some []))).alloc (R .ready none)) := hI.alloc _ (hI.alloc _ h0)
  have hbel : Below w.heap.size w ((w.alloc (.deferred (some []))).alloc (R .ready none)) := ((Below.refl _ w).alloc (Nat.le_refl _) _).alloc (by simp) _
  generalize hW1 : (w.alloc (.deferred (some []))).alloc (R .ready none) = W1 at hD hL hI0 hbel
  refine ⟨w.heap.size + 1, _, W1, { target := .fn (.func gf) lb, args := #[.func (.yield (w.heap.size + 1)) #[] #[]] }, W1, gf, #[.func (.yield (w.heap.size + 1)) #[] #[]] ++ lb, W1, by rw [← hW1]; exact run_enterLoop_outer _ _ _ _ _, ?_, ?_, ?_, fun _ => Nat.le_refl _, ?_⟩
  · simp only [resolve, hg]
    simp [go_sem]
  · intro f _
    trivial
  · simp [invoke, go_sem, eg]
  · refine CallsIn.mono (callsIn_wide.2 (hseq (w.heap.size + 1) (fun k W => I k W ∧ W.heap[w.heap.size + 1]? = some (R .ready none) ∧ W.heap[w.heap.size]? = some (.deferred (some [])))
      (fun k W => ∃ c, Ix c k W ∧ W.heap[w.heap.size + 1]? = some (R .done (some c)) ∧ W.heap[w.heap.size]? = some (.deferred (some []))) W1 hbel ?_ ?_ ⟨hI0, hL, hD⟩)) ?_
    · rintro k A B ⟨h1, h2, h3⟩ hb
      exact ⟨hI _ _ _ none h1 (grown_of_below hb) (fun r e => by cases e), (hb.block _ (Array.getElem?_eq_some_iff.1 h2).1).trans h2, (hb.block _ (Array.getElem?_eq_some_iff.1 h3).1).trans h3⟩
    · rintro k W hk ⟨h1, h2, h3⟩
      have hlt : w.heap.size + 1 < W.heap.size := (Array.getElem?_eq_some_iff.1 h2).1
      have hy := run_yield (P := P) (args := #[el k]) h2 rfl
      refine ⟨fn, a.tmps.setIfInBounds p1 (el k), assign, body, by simpa using hy, roundIn_of_wpIn hfn (wpIn_mono (hassign _ k W (fun a₁ w₁ => a₁ = A1 k ∧ w₁ = W) ⟨rfl, rfl⟩) fun e a₁ w₁ he => ?_)⟩
      cases e with
      | normal =>
        obtain ⟨rfl, rfl⟩ := he
        refine ⟨_, run_beginRound h2 rfl, ?_⟩
        have hbusy : (w₁.putObj (w.heap.size + 1) (R .busy none)).heap[w.heap.size + 1]? = some (R .busy none) := World.putObj_heap_same hlt
        have hdef : (w₁.putObj (w.heap.size + 1) (R .busy none)).heap[w.heap.size]? = some (.deferred (some [])) := (World.putObj_heap_other (by omega)).trans h3
        have hkp : Kp w₁ (w₁.putObj (w.heap.size + 1) (R .busy none)) := hKb _ _ _ _ (by omega) h2 rfl
        refine wpIn_mono (hbody _ k _ hk (hI.putObj _ h1 (by omega) h2 rfl)) fun e2 a3 W3 hp => ?_
        cases e2 with
        | normal =>
          obtain ⟨p1, p2, p3, p4⟩ := hp
          have hb3 := p1.same _ _ (by omega) hbusy rfl
          have hd3 := p1.same _ _ (Nat.le_refl _) hdef rfl
          exact ⟨_, _, run_endRound (P := P) none hb3, .inl ⟨rfl, p3, ⟨hI.putObj _ p4 (by omega) hb3 rfl, World.putObj_heap_same (Array.getElem?_eq_some_iff.1 hb3).1, (World.putObj_heap_other (by omega)).trans hd3⟩, hKt (hKt hkp p2) (hKb _ _ _ _ (by omega) hb3 rfl)⟩⟩
        | exit id =>
          obtain ⟨p1, p2⟩ := hp
          have hb3 := p1.same _ _ (by omega) hbusy rfl
          have hd3 := p1.same _ _ (Nat.le_refl _) hdef rfl
          exact ⟨_, _, run_endRound (P := P) (some (.exit id)) hb3, .inr ⟨rfl, .exit id, (hIx _).putObj _ p2 (by omega) hb3 rfl, World.putObj_heap_same (Array.getElem?_eq_some_iff.1 hb3).1, (World.putObj_heap_other (by omega)).trans hd3⟩⟩
        | ret => exact hp.elim
        | goto t => exact hp.elim
        | panic ch => exact hp.elim
        | outgrown => exact hp.elim
      | ret => exact he.elim
      | exit id => exact he.elim
      | goto t => exact he.elim
      | panic ch => exact he.elim
      | outgrown => exact he.elim
    · rintro e W2 ⟨⟨v, rfl⟩, k, hk, c, h1, h2, h3⟩
      exact ⟨some c, _, run_endLoop (P := P) h2 (by simp), (wpIn_wide (n := 1)).2 (hstop _ c k _ hk ((hIx c).putObj _ h1 (by omega) h2 rfl) (Nat.le_refl _) ((World.putObj_heap_other (by omega)).trans h3))⟩
end Go.Proofs.YtmceocgddaaohaaGreatDoor
