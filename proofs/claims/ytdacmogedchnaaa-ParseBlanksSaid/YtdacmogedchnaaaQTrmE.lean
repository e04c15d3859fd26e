/- Package term's Clone. -/
import Derived.Test.YtdacmogedchnaaaQTrmD
namespace Go.Proofs.Ytdacmogedchnaaa
open Go Go.RowKit
set_option maxRecDepth 100000
section
variable {P : Program} {ops : Array Oper} {Q : Exit → Act → World → Prop} {a : Act} {w : World}
/-- Cells are stored into the middle of a block. -/
theorem lin_putM (i o : Nat) (ty : TypeId) (x y : Operand) (b : Nat) (t : TypeId) (cs vs : List Value) (hi : (ops[i]?.isSome && Region.wanted (opAt ops i) (yielded ops a.tmps)) = true) (hd : (opAt ops i).dst = none)
    (ho : (opAt ops i).op = .store ty x y) (hx : a.eval x = .pointer (some ⟨b, o, none⟩)) (hy : a.eval y = .agg vs.toArray) (hb : Blk w b t cs) (hl : o + vs.length ≤ cs.length) (hz : (P.info? ty).map (·.size) = some vs.length) (h1 : vs.toArray.all (·.oneCell') = true)
    (h : ∀ w', Blk w' b t (splice cs o vs) → Upd b w w' → wpFrom P ops Q (i + 1) (a.put none undef) w') : wpFrom P ops Q i a w :=
  lin_store i (w.setCells b o vs) hi hd (exec_store_mid ty x y ho b o vs hx hy (hb.there o _ hl) hz h1) (h _ (Blk.setCells vs hb o hl) ((Upd.refl b w).setCells vs o))
end
end Go.Proofs.Ytdacmogedchnaaa
