/- The law ParseRows. -/
import Derived.Test.YtdacmogedchnaaaQPrsS
import Derived.Test.YtdacmogedchnaaaQPrsU
namespace Go.Proofs.Ytdacmogedchnaaa
open Go Go.RowKit
set_option maxRecDepth 100000
/-- What Source answers. -/
def srcA (s : List UInt8) : List Dl × Nat × Nat := match readA sourceP s with
 | .ok ds => (ds, 0, 0)
 | .error (p, c) => ([], p, c)
theorem srcA_ok {s : List UInt8} {ds : List Dl} (h : readA sourceP s = .ok ds) : srcA s = (ds, 0, 0) := by unfold srcA; rw [h]
theorem srcA_no {s : List UInt8} {p c : Nat} (h : readA sourceP s = .error (p, c)) : srcA s = ([], p, c) := by unfold srcA; rw [h]
theorem Source_any (s : List UInt8) (w : World) : Calls Try.prog 7 #[sT s] w fun e w' => ∃ v, e = .returned (.tuple #[v, .int .i64 ((srcA s).2.1 : Int), .int .i64 ((srcA s).2.2 : Int)]) ∧ SlG (DlAt (lookK s)) 18 [] w' v (srcA s).1 ∧ Below w.heap.size w w' := by
 refine (Source_walk s w).mono fun e w' h => ?_
 unfold RdPost at h
 unfold srcA
 cases hr : readA sourceP s with
 | error pc =>
  obtain ⟨p, c⟩ := pc
  rw [hr] at h
  exact ⟨_, h.2, SlG.nil _ _ _ _, h.1⟩
 | ok ds =>
  rw [hr] at h
  obtain ⟨hb, v, he, hv⟩ := h
  exact ⟨v, he, SlG.sub (dlG _) hv (fun k hk => by cases hk), hb⟩
/-- What Term answers. -/
def trmA (s : List UInt8) : Rw × Nat × Nat := match readA topP s with
 | .ok t => (t, 0, 0)
 | .error (p, c) => (zRw, p, c)
theorem trmA_ok {s : List UInt8} {t : Rw} (h : readA topP s = .ok t) : trmA s = (t, 0, 0) := by unfold trmA; rw [h]
theorem trmA_no {s : List UInt8} {p c : Nat} (h : readA topP s = .error (p, c)) : trmA s = (zRw, p, c) := by unfold trmA; rw [h]
theorem Term_any (s : List UInt8) (w : World) : Calls Try.prog 8 #[sT s] w fun e w' => ∃ ca, e = .returned (.tuple #[.agg ca.toArray, .int .i64 ((trmA s).2.1 : Int), .int .i64 ((trmA s).2.2 : Int)]) ∧ RwAt (lookK s) [] w' (trmA s).1 ca ∧ Below w.heap.size w w' := by
 refine (Term_walk s w).mono fun e w' h => ?_
 unfold RdPost at h
 unfold trmA
 cases hr : readA topP s with
 | error pc =>
  obtain ⟨p, c⟩ := pc
  rw [hr] at h
  exact ⟨z6R, h.2, zRw_at _ _ _, h.1⟩
 | ok t =>
  rw [hr] at h
  obtain ⟨hb, v, he, ca, rfl, hct⟩ := h
  exact ⟨ca, he, RwAt.sub (fun k hk => by cases hk) _ _ hct, hb⟩
end Go.Proofs.Ytdacmogedchnaaa
