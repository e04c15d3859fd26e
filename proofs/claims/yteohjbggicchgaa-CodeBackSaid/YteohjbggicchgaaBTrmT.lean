/- A term that came in as an argument of a law. -/
import Derived.Test.YteohjbggicchgaaBTrmO
import Derived.Test.YteohjbggicchgaaBGenF
namespace Go.Proofs.Yteohjbggicchgaa
open Go.ChangeShapes Go.WideShapes Go.ChangeAt Go.RowKit
set_option maxRecDepth 100000
theorem cellsInt8 : Try.prog.cellsOf 3 = 1 := by kernel_rfl
theorem cellsArr8 : Try.prog.cellsOf 78 = 4 := by kernel_rfl
theorem cellsLv8 : Try.prog.cellsOf 80 = 5 := by kernel_rfl
theorem level_of_trodT {H : Type} {enc : TypeId × Value → H} {W : World} {base : Nat} {spare : Nat → Bool} {held : Bool} {fuel : Nat} {cs : List Value} {x : DataW H × List MemPlace} (h : DataW.trod enc Try.prog W base spare held fuel 80 cs = some x) :
    ∃ l : Lv, cs = ints .i64 l.zs ∧ l.p.length = 4 := by
  obtain ⟨y0, y1, n, -, hl, h0, h1⟩ := trod_struct2 Try.underlying80 h
  have h0' : DataW.trod enc Try.prog W base spare held n 3 ((cs.drop 0).take (Try.prog.cellsOf 3)) = some y0 := h0
  have h1' : DataW.trod enc Try.prog W base spare held n 78 ((cs.drop 1).take (Try.prog.cellsOf 78)) = some y1 := h1
  rw [cellsInt8] at h0'
  rw [cellsArr8] at h1'
  rw [cellsLv8] at hl
  obtain ⟨z, e0, -, -⟩ := DataW.trod_int Try.underlying3 h0'
  obtain ⟨zs, e1, e2, -⟩ := ints_of_array' Try.underlying78 Try.underlying3 cellsInt8 cellsArr8 h1'
  refine ⟨⟨z, zs⟩, ?_, e2⟩
  match cs, hl with
  | [c0, c1, c2, c3, c4], _ =>
    have a0 : [c0] = [Value.int .i64 z] := e0
    have a1 : [c1, c2, c3, c4] = ints .i64 zs := e1
    show c0 :: [c1, c2, c3, c4] = _
    rw [a1, (List.cons.inj a0).1]
    rfl
theorem termTy {H : Type} {enc : TypeId × Value → H} : TermTy H enc Try.prog 3 9 80 22 25 23 where
 fs := ⟨_, Try.underlying25, by kernel_rfl, by kernel_rfl⟩
 i := Try.underlying3
 s := Try.underlying9
 ls := Try.underlying22
 ts := Try.underlying23
 ci := by kernel_rfl
 cs := by kernel_rfl
 cls := by kernel_rfl
 cts := by kernel_rfl
 cl := by kernel_rfl
 ct := by kernel_rfl
 bl := by kernel_rfl
 bt := by kernel_rfl
 lv := fun _ _ _ _ h => level_of_trodT h
theorem open_term {H : Type} {enc : TypeId × Value → H} {W : World} {base : Nat} {v : Value} {d : DataW H} {p : List MemPlace} (hval : Value.okWide Try.prog W .any base 25 v)
    (h : DataW.Trod enc Try.prog W 0 (fun _ => true) true 25 v d p) (hsz : ∀ n ∈ d.weights Try.prog 25, n ≤ reachBytes) : (∃ (t : Tm) (cs : List Value), v = .agg cs.toArray ∧ TmAt [] W t cs ∧ SmT t) ∧ ∀ x ∈ p, x.block < W.heap.size := by
  obtain ⟨cs, rfl, -⟩ := okWide_struct Try.underlying25 hval
  obtain ⟨m, hm⟩ := h
  refine ⟨?_, DataW.trod_lt m _ _ _ hm⟩
  obtain ⟨t, h1, h2⟩ := term_of_trod termTy m _ _ hm hsz
  exact ⟨t, cs.toList, by simp, h1, h2⟩
end Go.Proofs.Yteohjbggicchgaa
