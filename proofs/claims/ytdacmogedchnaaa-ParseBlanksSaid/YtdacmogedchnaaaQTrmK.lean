/- How many nodes a term has, by package term. -/
import Derived.Test.YtdacmogedchnaaaQTrmJ
namespace Go.Proofs.Ytdacmogedchnaaa
open Go Go.RowKit
set_option maxRecDepth 100000
section
variable {P : Program} {ops : Array Oper} {Q : Exit → Act → World → Prop} {S : World → Prop} {fuel : Nat} {listed : Array Bool} {a : Act} {w : World}
theorem reg_put1 (i : Nat) (ty : TypeId) (x y : Operand) (b : Nat) (t : TypeId) (u v : Value) (hi : (ops[i]?.isSome && (Region.ready .any ops listed == [i]) && Region.wanted (opAt ops i) (yielded ops a.tmps)) = true) (hd : (opAt ops i).dst = none)
    (ho : (opAt ops i).op = .store ty x y) (hx : a.eval x = .pointer (some ⟨b, 0, none⟩)) (hy : a.eval y = v) (hb : Blk w b t [u]) (hz : (P.info? ty).map (·.size) = some 1) (hv : v.cells = #[v]) (h1 : v.oneCell' = true)
    (h : ∀ w', Blk w' b t [v] → Upd b w w' → S w' ∧ wpAnyH P .any ops Q S fuel (listed.setIfInBounds i true) (a.put none undef) w') : wpAnyH P .any ops Q S (fuel + 1) listed a w := by
  obtain ⟨hS, hk⟩ := h (w.setCell ⟨b, 0, none⟩ v) (by simpa using hb.set 0 v) ((Upd.refl b w).setCell 0 v)
  exact reg_store i _ hi hd (exec_store_cell ty x y ho b 0 v hx hy t [u] hb (by simp) hz hv h1) hS hk
end
end Go.Proofs.Ytdacmogedchnaaa
