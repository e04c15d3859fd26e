/- What the statements on disks share: calls that write. -/
import Derived.Test.YtpbilngjjlabiaaDskGr
namespace Go.Proofs.Ytpbilngjjlabiaa
open Go Go.RowKit
set_option maxRecDepth 100000

/-- What a region that writes a call's block looks at. -/
structure Cw (qb o : Nat) (c : Cl) (w : World) : Prop where
  n : w.cell? ⟨qb, o + 1, none⟩ = some (.int .i64 c.n)
  block : w.rangeAt qb (o + 2) (ints .u8 c.block)
theorem Cw.step {F F' : List Nat} {qb o : Nat} {c : Cl} {w w' : World} (h : Cw qb o c w) (hs : Step F w F' w') (hq : qb < w.heap.size) (hF : qb ∉ F) : Cw qb o c w' := by
  have k : ∀ o', w'.cell? ⟨qb, o', none⟩ = w.cell? ⟨qb, o', none⟩ := fun o' => World.cell?_of_block (w := w) (a := ⟨qb, o', none⟩) (hs.block qb hq hF)
  exact ⟨(k _).trans h.n, fun j v hv => (k _).trans (h.block j v hv)⟩
theorem Lv.le {F : List Nat} {d sz : Nat} {seen dur : List Int} {pend : List Wr} {left : Int} {w0 w : World} (h : Lv F d sz seen dur pend left w0 w) : ∀ k ∈ F, w0.heap.size ≤ k := h.st.new
theorem Lv.bytes {F : List Nat} {d sz : Nat} {seen dur : List Int} {pend : List Wr} {left : Int} {w0 w : World} (h : Lv F d sz seen dur pend left w0 w) {v : Value} {zs : List Int} (hv : BytesIn w0 v zs) : BytesOff F w v zs := hv.off h.st.below h.le
/-- The first k calls as writes. -/
def wrs (cs : List Cl) (k : Nat) : List Wr := (cs.take k).map fun c => (sec c, c.block)
theorem wrs_length (cs : List Cl) (k : Nat) (h : k ≤ cs.length) : (wrs cs k).length = k := by simp [wrs]; omega
theorem wrs_next (cs : List Cl) (k : Nat) (c : Cl) (h : cs[k]? = some c) : wrs cs (k + 1) = wrs cs k ++ [(sec c, c.block)] := by
  unfold wrs
  rw [List.take_add_one, h]
  simp
end Go.Proofs.Ytpbilngjjlabiaa
