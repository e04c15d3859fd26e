/- Ranging over the nodes of a term: the law for a caller; how many nodes. -/
import Derived.Test.YteohjbggicchgaaKGenT
import Derived.Test.YteohjbggicchgaaKTrmI
namespace Go.Proofs.Yteohjbggicchgaa
open Go Go.RowKit
set_option maxRecDepth 100000
theorem own_keepC {β : Type} (B : Nat) (G : List Nat) (w : World) : OwnFrom (β := β) B (fun _ W => KeepC G w W) := fun s W W' row h hg hr =>
 ⟨Nat.le_trans h.size hg.size, fun k o hk ho hc => by
  have h1 := h.same k o hk ho hc
  rw [hg.block k (Array.getElem?_eq_some_iff.1 h1).1 (fun e => by
   obtain ⟨-, u, hu, hcu⟩ := hr k e.symm
   rw [h1] at hu
   obtain rfl := Option.some.inj hu
   rw [firm_cells hc] at hcu
   cases hcu)]
  exact h1⟩
/-- How the body of a round may be left. -/
def postR {α : Type} (G : List Nat) (I : List α → World → Prop) (Ix : Code → List α → World → Prop) (xs : List α) (W : World) : Exit → Act → World → Prop
 | .normal, _, W' => Keeps G W W' ∧ I xs W'
 | .ret, _, W' => Keeps G W W' ∧ Ix .ret xs W'
 | .exit id, _, W' => Keeps G W W' ∧ Ix (.exit id) xs W'
 | _, _, _ => False
/-- The marks of a loop over a function, pushed onto what is deferred. -/
def Act.marked (a : Act) (D : Nat) : Act := { a with defers := { target := .collected D, args := #[] } :: a.defers }
set_option maxHeartbeats 1000000 in
/-- THE STATEMENT 'for x, d := range nodes(t)'. -/
theorem range_nodes {Q : Exit → Act → World → Prop} {a : Act} {w : World} {g : Operand} {p1 p2 : Tmp} {assign body : Code} (G : List Nat) (w0 u : World) (n bt : Nat) (xs : List (Nd G w0)) (hg : a.eval g = .func (.func 85) #[] #[.pointer (some ⟨bt, 0, none⟩)])
    (hseq : SeqStopsK Fence.wide 0 Try.prog 85 #[.pointer (some ⟨bt, 0, none⟩)] Nd.enc (KeepC G) (fun ys => ys = xs) (fun p => p <+: xs) xs.length w) (hk0 : KeepC G w0 w) (hu : Below n u w) (hn : n ≤ w.heap.size)
    (hG : ∀ g ∈ G, g < w.heap.size) (hGn : ∀ g ∈ G, n ≤ g)
    (I : List (Nd G w0) → World → Prop) (Ix : Code → List (Nd G w0) → World → Prop) (hI : OwnFrom w.heap.size I) (hIx : ∀ c, OwnFrom w.heap.size (Ix c)) (h0 : I [] w) (A1 : Nd G w0 → Nat → Act)
    (hassign : ∀ (l : Nat) (x : Nd G w0) (W : World) (K : Act → World → Prop), (∀ W', Blk W' W.heap.size 25 x.cs → Below W.heap.size W W' → K (A1 x W.heap.size) W') →
      assign.wpIn (inR l) 0 Try.prog (Exit.then K (fun _ _ _ => False)) { tmps := (a.tmps.setIfInBounds p1 (.agg x.cs.toArray)).setIfInBounds p2 (.int .i64 x.d), defers := [] } W)
    (hbody : ∀ (l : Nat) (pre : List (Nd G w0)) (x : Nd G w0) (nb : Nat) (W : World), I pre W → w.heap.size ≤ nb → Blk W nb 25 x.cs → TmAt G W x.t x.cs → Below n u W → n ≤ W.heap.size → pre.length < xs.length → body.wpIn (inR l) 0 Try.prog (postR G I Ix (pre ++ [x]) W) (A1 x nb) W)
    (hdone : ∀ (D : Nat) (W : World), I xs W → w.heap.size ≤ D → W.heap[D]? = some (.deferred (some [])) → Below n u W → Q .normal (Act.marked a D) W)
    (hstop : ∀ (D : Nat) (c : Code) (pre : List (Nd G w0)) (W : World), pre <+: xs → Ix c pre W → w.heap.size ≤ D → W.heap[D]? = some (.deferred (some [])) → Below n u W → c.wp Try.prog Q (Act.marked a D) W) :
    (Code.rangeFunc g #[p1, p2] assign body).wp Try.prog Q a w := by
  refine (wpIn_wide (n := 1)).1 ?_
  have keep : ∀ {W W' : World}, Keeps G W W' → KeepsFrom w.heap.size W W' := fun h => h.from hG
  have hIJ : OwnFrom w.heap.size (fun pre W => I pre W ∧ (KeepC G w0 W ∧ w.heap.size ≤ W.heap.size) ∧ Below n u W ∧ n ≤ W.heap.size) := fun s A B row h hg2 hr =>
    ⟨hI s A B row h.1 hg2 hr, ⟨own_keepC (β := Unit) w.heap.size G w0 () A B row h.2.1.1 hg2 hr, Nat.le_trans h.2.1.2 hg2.size⟩, own_below (β := Unit) w.heap.size n u hn () A B row h.2.2 hg2 hr⟩
  have hIxJ : ∀ c, OwnFrom w.heap.size (fun pre W => Ix c pre W ∧ Below n u W ∧ n ≤ W.heap.size) := fun c s A B row h hg2 hr =>
    ⟨hIx c s A B row h.1 hg2 hr, own_below (β := Unit) w.heap.size n u hn () A B row h.2 hg2 hr⟩
  refine wpIn_rangeFunc_ownH (F := Fence.wide) (n := 1) (gf := 85) (lb := #[.pointer (some ⟨bt, 0, none⟩)]) (encs := Nd.enc) (Kp := KeepC G) (S := fun ys => ys = xs) (Sp := fun p => p <+: xs) (N := xs.length) (w0 := w) rfl (Nat.le_refl _) hg trivial
    (enters_of Try.func85 (by kernel_rfl) rfl) hseq (fun h k => h.trans k) (fun W l o o' => KeepC.put (w := w) G W l o o') (Below.refl _ _) (fun _ => rfl)
    (fun pre W => I pre W ∧ (KeepC G w0 W ∧ w.heap.size ≤ W.heap.size) ∧ Below n u W ∧ n ≤ W.heap.size) (fun c pre W => Ix c pre W ∧ Below n u W ∧ n ≤ W.heap.size) hIJ hIxJ ⟨h0, ⟨hk0, Nat.le_refl _⟩, hu, hn⟩
    (fun x a' W => ∃ nb, w.heap.size ≤ nb ∧ Blk W nb 25 x.cs ∧ a' = A1 x nb) (fun x a' s A B row h hg2 hr => by
      obtain ⟨nb, e1, e2, e3⟩ := h
      exact ⟨nb, e1, own_blk_any (β := Unit) w.heap.size nb 25 x.cs () A B row e2 hg2 hr, e3⟩) ?_ ?_ ?_ ?_
  · intro l pre x W K ⟨hi, ⟨hkc, hwW⟩, hb, hnW⟩ hK
    have ez : (#[p1, p2].zip x.enc).foldl (fun (t : Array Value) (y : Tmp × Value) => match y with | (p, v) => t.setIfInBounds p v) a.tmps = (a.tmps.setIfInBounds p1 (.agg x.cs.toArray)).setIfInBounds p2 (.int .i64 x.d) := by
      unfold Nd.enc
      simp
    have ha := hassign l x W K fun W' hnb hbl => ?_
    · rw [← ez] at ha
      exact ha
    · refine hK _ _ (keepsFrom_below hbl) (KeepC.of_below hbl) ⟨hI _ _ _ none hi (grown_of_below hbl) (fun r e => by cases e), ⟨hkc.trans (KeepC.of_below hbl), Nat.le_trans hwW hbl.size⟩, hb.trans (hbl.mono hnW), Nat.le_trans hnW hbl.size⟩ ⟨_, hwW, hnb, rfl⟩
  · rintro l pre x a' W hl hrec ⟨hi, ⟨hkc, hwW⟩, hb, hnW⟩ ⟨nb, e1, e2, rfl⟩ hlen
    refine wpIn_mono (hbody l pre x nb W hi e1 e2 (TmAt.keepC hkc _ _ x.at_) hb hnW hlen) fun e a2 W2 h => ?_
    have low : Keeps G W W2 → Below n u W2 := fun hk => hk.lower hb hGn hnW
    cases e with
    | normal => exact ⟨keep h.1, KeepC.of_keeps h.1, h.2, ⟨hkc.trans (KeepC.of_keeps h.1), Nat.le_trans hwW h.1.size⟩, low h.1, Nat.le_trans hnW h.1.size⟩
    | ret => exact ⟨keep h.1, h.2, low h.1, Nat.le_trans hnW h.1.size⟩
    | exit id => exact ⟨keep h.1, h.2, low h.1, Nat.le_trans hnW h.1.size⟩
    | goto t => exact h.elim
    | panic c => exact h.elim
    | outgrown => exact h.elim
  · rintro D ys W hD rfl ⟨hi, -, hb, -⟩ hK
    exact hdone D W hi hD hK hb
  · rintro D c pre W hD hp ⟨hi, hb, -⟩ hK
    exact (wpIn_wide (n := 1)).2 (hstop D c pre W hp hi hD hK hb)
set_option maxHeartbeats 1000000 in
theorem weight_walk {F : List Nat} (t : Tm) (cs : List Value) (w : World) (ht : TmAt F w t cs) (hs : SmT t) : Calls Try.prog 62 #[.agg cs.toArray] w fun e w' => e = .returned (.int .i64 ((1 + t.levels.length : Nat) : Int)) ∧ Below w.heap.size w w' := by
 obtain ⟨lv, av, rfl, h1, h2⟩ := ht.open
 obtain ⟨-, sl, -, -⟩ := hs.open
 obtain ⟨la, lc, rfl⟩ := h1.slice
 obtain ⟨aa, ac, rfl⟩ := h2.slice
 have hr : reachBytes = 140737488351232 := rfl
 rw [hr] at sl
 obtain ⟨L, hL⟩ : ∃ L, Hid (t.levels.length = L) := ⟨_, rfl⟩
 rw [hL.out] at sl ⊢
 obtain ⟨N, hN⟩ : ∃ N, Hid (t.args.length = N) := ⟨_, rfl⟩
 rw [hN.out]
 obtain ⟨q, hq⟩ : ∃ q, Hid (w.heap.size = q) := ⟨_, rfl⟩
 obtain ⟨CS, hCS⟩ : ∃ x, Hid ([.int .i64 t.kind, .int .i64 t.n, strT t.name, .slice la L lc, .slice aa N ac] = x) := ⟨_, rfl⟩
 rw [hCS.out, hq.out]
 clear ht hs h1 h2
 go_enter Try.func62, Try.ntmps62
 go_upto_region 0 with (fail)
 refine lbeg (opsOf Try.f62 0) ?_
 refine lbox 0 25 (.tmp 0) (CS) (q) (some 1) hq ?_
 intro w1 bw1 bew1 hsw1
 refine lnow 1 (.int .i64 0) (some 2) ?_
 refine ldn 2 ?_
 generalize hact : Act.put _ (some 2) _ = act
 simp only [Act.put, sA, sC, sZ] at hact
 subst hact
 have c3 : w1.cell? ⟨q, 3, none⟩ = some (.slice la L lc) := bw1.cell (by rw [← hCS.out]; rfl)
 have BE := Lib.hid bew1
 clear bw1 bew1
 go_upto_region 1 with (fail)
 refine lbeg (opsOf Try.f62 1) ?_
 refine lnow 0 (.pointer (some ⟨q, 3, none⟩)) (some 3) ?_
 refine lcl 1 (.slice la L lc) (some 4) 22 3 (q) 3 (c3) Try.underlying22 ?_
 refine lnow 2 (.int .i64 (L : Int)) (some 5) ?_
 refine lnow 3 (.int .i64 (IntKind.i64.wrap (1 + (L : Int)))) (some 6) ?_
 rw [show IntKind.i64.wrap (1 + (L : Int)) = ((1 + L : Nat) : Int) from (IntWalk.i64_in _ (by omega)).trans (by omega)]
 refine lnow 4 (.int .i64 ((1 + L : Nat) : Int)) (some 2) ?_
 refine ldn 5 ?_
 generalize hact : Act.put _ (some 2) _ = act
 simp only [Act.put, sA, sC, sZ] at hact
 subst hact
 go_wp2
 go_ret
 exact ⟨rfl, BE.out⟩
end Go.Proofs.Yteohjbggicchgaa
