/- How many nodes a term has, by package term. -/
import Derived.Test.YteohjbggicchgaaBTrmJ
namespace Go.Proofs.Yteohjbggicchgaa
open Go Go.RowKit
set_option maxRecDepth 100000
def wsum (l : List (Tm × Int)) : Nat := (l.map fun x => 1 + x.1.levels.length).sum
theorem wsum_append (a b : List (Tm × Int)) : wsum (a ++ b) = wsum a + wsum b := by simp [wsum]
mutual
theorem wsum_walk : ∀ (t : Tm) (d : Int), wsum (walkT t d) = nodesT t
 | .mk k n s l a, d => by
  have h := wsum_walks a k d a.length 0
  rw [walkT, nodesT, ← h]
  simp [wsum, Tm.levels]
theorem wsum_walks : ∀ (ts : List Tm) (k d : Int) (N i : Nat), wsum (walkTs k d N i ts) = nodesTs ts
 | [], k, d, N, i => by simp [walkTs, nodesTs, wsum]
 | t :: ts, k, d, N, i => by rw [walkTs, nodesTs, wsum_append, wsum_walk t, wsum_walks ts]
end
def wN {G : List Nat} {w : World} (l : List (Nd G w)) : Nat := wsum (l.map Nd.pr)
theorem wN_snoc {G : List Nat} {w : World} (l : List (Nd G w)) (x : Nd G w) : wN (l ++ [x]) = wN l + (1 + x.t.levels.length) := by simp [wN, wsum, Nd.pr]
theorem wN_pre {G : List Nat} {w : World} {p l : List (Nd G w)} (h : p <+: l) : wN p ≤ wN l := by
 obtain ⟨z, rfl⟩ := h
 simp [wN, wsum_append]
theorem level_bound {t : Tm} (h : SmT t) : t.levels.length * 40 ≤ 140737488351232 := h.open.2.1
/-- A number in a block of one cell. -/
abbrev IntAt (w : World) (b : Nat) (z : Int) : Prop := Blk w b 3 [.int .i64 z]
theorem results_bool {fn : Func} {p : Tmp} (h : fn.results = #[.cell p 4]) (tmps : Array Value) (w : World) (g : Nat) (z : Bool) (hp : tmps.getD p undef = .pointer (some ⟨g, 0, none⟩)) (hc : Blk w g 4 [.bool z]) : (results fn tmps).run Try.prog w = .ok (.bool z) w :=
 results_cell1 h tmps w g _ hp (hc.cell rfl) _ Try.underlying4 rfl
section
variable {P : Program} {ops : Array Oper} {Q : Exit → Act → World → Prop} {S : World → Prop} {fuel : Nat} {listed : Array Bool} {a : Act} {w : World}
theorem reg_put1 (i : Nat) (ty : TypeId) (x y : Operand) (b : Nat) (t : TypeId) (u v : Value) (hi : (ops[i]?.isSome && (Region.ready .any ops listed == [i]) && Region.wanted (opAt ops i) (yielded ops a.tmps)) = true) (hd : (opAt ops i).dst = none)
    (ho : (opAt ops i).op = .store ty x y) (hx : a.eval x = .pointer (some ⟨b, 0, none⟩)) (hy : a.eval y = v) (hb : Blk w b t [u]) (hz : (P.info? ty).map (·.size) = some 1) (hv : v.cells = #[v]) (h1 : v.oneCell' = true)
    (h : ∀ w', Blk w' b t [v] → Upd b w w' → S w' ∧ wpAnyH P .any ops Q S fuel (listed.setIfInBounds i true) (a.put none undef) w') : wpAnyH P .any ops Q S (fuel + 1) listed a w := by
  obtain ⟨hS, hk⟩ := h (w.setCell ⟨b, 0, none⟩ v) (by simpa using hb.set 0 v) ((Upd.refl b w).setCell 0 v)
  exact reg_store i _ hi hd (exec_store_cell ty x y ho b 0 v hx hy t [u] hb (by simp) hz hv h1) hS hk
end
end Go.Proofs.Yteohjbggicchgaa
