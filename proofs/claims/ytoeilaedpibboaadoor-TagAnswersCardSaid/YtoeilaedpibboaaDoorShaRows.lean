/- Rows tells how many bytes rows have together, or more than the most. -/
import Derived.Test.YtoeilaedpibboaaDoorShaForks
namespace Go.Proofs.YtoeilaedpibboaaDoor
open Go.RowKit
set_option maxRecDepth 100000

/-- The value v is a slice of slices of just the bytes zss. -/
def PartsIn (w : World) (v : Value) (zss : List (List Int)) : Prop :=
  ∃ (a : Option Addr) (cap : Nat) (ps : List Value), v = .slice a zss.length cap ∧ ps.length = zss.length ∧ zss.length ≤ 140737488351232 ∧ (0 < zss.length → ∃ qb qo, a = some ⟨qb, qo, none⟩ ∧ qb < w.heap.size ∧ w.rangeAt qb qo ps) ∧
    ∀ (k : Nat) (v : Value) (zs : List Int), ps[k]? = some v → zss[k]? = some zs → BytesIn w v zs ∧ NilOk v ∧ zs.length ≤ 140737488351232
theorem PartsIn.at {w : World} {v : Value} {zss : List (List Int)} (h : PartsIn w v zss) {b : Nat} (hb : w.heap.size ≤ b) : PartsAt w b v zss := by
  obtain ⟨a, cap, ps, h1, h2, h3, h4, h5⟩ := h
  refine ⟨a, cap, ps, h1, h2, by omega, fun hp => ?_, fun k v zs hv hz => ((h5 k v zs hv hz).1).at hb⟩
  obtain ⟨qb, qo, h6, h7, h8⟩ := h4 hp
  exact ⟨qb, qo, h6, by omega, h7, h8⟩
theorem PartsAt.upd {w w' : World} {b : Nat} {v : Value} {zss : List (List Int)} (h : PartsAt w b v zss) (hu : Upd b w w') : PartsAt w' b v zss := by
  obtain ⟨a, cap, ps, h1, h2, h3, h4, h5⟩ := h
  refine ⟨a, cap, ps, h1, h2, h3, fun hp => ?_, fun k v zs hv hz => (h5 k v zs hv hz).upd hu⟩
  obtain ⟨qb, qo, h6, h7, h8, h9⟩ := h4 hp
  exact ⟨qb, qo, h6, h7, Nat.lt_of_lt_of_le h8 hu.size, rangeAt_upd hu h9 h8 h7⟩

def RowsPost (zss : List (List Int)) (w : World) (e : Ending) (w' : World) : Prop := ∃ r : Nat, e = .returned (.int .i64 (r : Int)) ∧ (r ≤ 4000 → zss.flatten.length ≤ r ∧ zss.length ≤ 4000) ∧ w = w'
theorem PartsIn.below {B : Nat} {w w' : World} {v : Value} {zss : List (List Int)} (h : PartsIn w v zss) (hb : Below B w w') (hB : w.heap.size ≤ B) : PartsIn w' v zss := by
  obtain ⟨a, cap, ps, h1, h2, h3, h4, h5⟩ := h
  refine ⟨a, cap, ps, h1, h2, h3, fun hp => ?_, fun k v zs hv hz => ⟨(h5 k v zs hv hz).1.below hb hB, (h5 k v zs hv hz).2⟩⟩
  obtain ⟨qb, qo, h6, h7, h8⟩ := h4 hp
  exact ⟨qb, qo, h6, Nat.lt_of_lt_of_le h7 hb.size, fun j v hv => by rw [hb.cell (p := ⟨qb, qo + j, none⟩) (by show qb < B; omega)]; exact h8 j v hv⟩
end Go.Proofs.YtoeilaedpibboaaDoor
