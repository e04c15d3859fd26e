/- Package lex's Join. -/
import Derived.Test.YtdacmogedchnaaaQLexH
namespace Go.Proofs.Ytdacmogedchnaaa
open Go Go.RowKit
set_option maxRecDepth 100000
/-- The value is a slice that reads as these tokens. -/
def SlX (w : World) (v : Value) (ts : List Tk) : Prop := ∃ a c, v = .slice a ts.length c ∧ ts.length ≤ c ∧ (0 < ts.length → ∃ g u, a = some ⟨g, u, none⟩ ∧ g < w.heap.size ∧ w.rangeAt g u (tksC ts))
theorem OwnX.read {ty : TypeId} {q : Nat} {w : World} {v : Value} {ts : List Tk} (h : OwnX ty q w v ts) : SlX w v ts := by
 rcases h.2 with ⟨rfl, h2⟩ | ⟨g, cap, cur, rfl, h1, h2, h3, _⟩
 ·exact ⟨none, 0, by rw [h2], by omega, fun hp => by omega⟩
 ·refine ⟨_, _, rfl, h3, fun _ => ⟨g, 0, rfl, (Array.getElem?_eq_some_iff.1 h2).1, fun j u hu => ?_⟩⟩
  have := World.ownsRow.cells (v := .slice (some ⟨g, 0, none⟩) ts.length cap) (g := g) h rfl j u hu
  rwa [Addr.add_mid] at this
def textsOf (ts : List Tk) : List (List UInt8) := ts.map (·.t)
theorem elemToks : Try.prog.underlying 23 = some (.slice (Try.prog.elem 23)) := by kernel_rfl
theorem run_at_tok (g u n c k : Nat) (hk : k < n) (w : World) : (Instr.indexAt 23 (.slice (some ⟨g, u, none⟩) n c) (.int .i64 (k : Int))).run Try.prog w = .ok (.pointer (some ⟨g, u + k * 3, none⟩)) w := by
 rw [run_indexAt_slice w 23 _ _ _ _ _ elemToks]
 have hz : (sizeOf (Try.prog.elem 23)).run Try.prog w = .ok 3 w := by kernel_rfl
 rw [if_pos (by omega), hz, Result.andThen_ok, Addr.add_mid, Int.toNat_natCast]
end Go.Proofs.Ytdacmogedchnaaa
