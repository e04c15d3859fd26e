/- Rows tells how many bytes rows have together, or more than the most. -/
import Derived.Test.YtijmaigcdcloiaaDoorShaForks
namespace Go.Proofs.YtijmaigcdcloiaaDoor
open Go.RowKit
set_option maxRecDepth 100000

/-- The value v is a slice of slices of just the bytes zss. -/
def PartsIn (w : World) (v : Value) (zss : List (List Int)) : Prop :=
  ∃ (a : Option Addr) (cap : Nat) (ps : List Value), v = .slice a zss.length cap ∧ ps.length = zss.length ∧ zss.length ≤ 140737488351232 ∧ (0 < zss.length → ∃ qb qo, a = some ⟨qb, qo, none⟩ ∧ qb < w.heap.size ∧ w.rangeAt qb qo ps) ∧
    ∀ (k : Nat) (v : Value) (zs : List Int), ps[k]? = some v → zss[k]? = some zs → BytesIn w v zs ∧ NilOk v ∧ zs.length ≤ 140737488351232
theorem PartsIn.at {w : World} {v : Value} {zss : List (List Int)} (h : PartsIn w v zss) {b : Nat} (hb : w.heap.size ≤ b) : PartsAt w b v zss := by
  obtain ⟨a, cap, ps, h1, h2, h3, h4, h5⟩ := h
  refine ⟨a, cap, ps, h1, h2, by omega, fun hp => ?_, fun k v zs hv hz => ((h5 k v zs hv hz).1).at hb⟩
  obtain ⟨qb, qo, h6, h7, h8⟩ := h4 hp
  exact ⟨qb, qo, h6, by omega, h7, h8⟩
theorem PartsAt.upd {w w' : World} {b : Nat} {v : Value} {zss : List (List Int)} (h : PartsAt w b v zss) (hu : Upd b w w') : PartsAt w' b v zss := by
  obtain ⟨a, cap, ps, h1, h2, h3, h4, h5⟩ := h
  refine ⟨a, cap, ps, h1, h2, h3, fun hp => ?_, fun k v zs hv hz => (h5 k v zs hv hz).upd hu⟩
  obtain ⟨qb, qo, h6, h7, h8, h9⟩ := h4 hp
  exact ⟨qb, qo, h6, h7, Nat.lt_of_lt_of_le h8 hu.size, rangeAt_upd hu h9 h8 h7⟩

def RowsPost (zss : List (List Int)) (w : World) (e : Ending) (w' : World) : Prop := ∃ r : Nat, e = .returned (.int .i64 (r : Int)) ∧ (r ≤ 4000 → zss.flatten.length ≤ r ∧ zss.length ≤ 4000) ∧ w = w'
theorem rows_walk (v : Value) (zss : List (List Int)) (w : World) (hv : PartsIn w v zss) : Calls Tryd.prog 18 #[v, .int .i64 4000] w (RowsPost zss w) := by
  obtain ⟨a, cap, ps, rfl, hps, hm, hq, hall⟩ := hv
  obtain ⟨m, em⟩ : ∃ m, m = zss.length := ⟨_, rfl⟩
  rw [← em] at hm hps hq ⊢
  have EM := Lib.hid em
  have HPS := Lib.hid hps
  have HQ := Lib.hid hq
  have HALL := Lib.hid hall
  clear em hps hq hall
  by_cases hbig : 4000 < m
  · have q0 : (4000 : Int) < (m : Int) := by omega
    go_enter Tryd.func18, Tryd.ntmps18
    go_wp2
    go_ret
    exact ⟨4001, rfl, fun h => absurd h (by omega), rfl⟩
  · have q0 : ¬ ((4000 : Int) < (m : Int)) := by omega
    go_enter Tryd.func18, Tryd.ntmps18
    go_wp2
    go_loop [5, 6] (fun n i => ∃ k r : Nat, k ≤ m ∧ i = .int .i64 k ∧ n = .int .i64 (r : Int) ∧ r ≤ 140737488360000 ∧ Hid ((zss.take k).flatten.length ≤ r)) (fun _ i => m - (intOf i).toNat)
    case atStart => exact ⟨0, 0, by omega, rfl, rfl, by omega, by unfold Hid; simp⟩
    case round =>
      obtain ⟨k, r, hk, rfl, rfl, hr, hfl⟩ := hrel
      by_cases hlt : k < m ∧ r ≤ 4000
      · obtain ⟨hlt, hr4⟩ := hlt
        obtain ⟨qb, qo, rfl, hq2, hq3⟩ := HQ.out (by omega)
        obtain ⟨v, hvk⟩ : ∃ v, ps[k]? = some v := ⟨_, List.getElem?_eq_getElem (by rw [HPS.out]; exact hlt)⟩
        obtain ⟨zs, hzk⟩ : ∃ zs, zss[k]? = some zs := ⟨_, List.getElem?_eq_getElem (by rw [← EM.out]; exact hlt)⟩
        obtain ⟨⟨sa, c, rfl, -⟩, -, hzl⟩ := HALL.out k v zs hvk hzk
        have cq := hq3 k _ hvk
        have q1 : (k : Int) < (m : Int) := by omega
        have q2 : (r : Int) ≤ 4000 := by omega
        have hnext : Hid ((zss.take (k + 1)).flatten.length ≤ r + (1 + zs.length)) := by
          have h1 := hfl.out
          unfold Hid
          rw [List.take_add_one, hzk]
          simp only [Option.toList_some, List.flatten_append, List.length_append, List.flatten_cons, List.flatten_nil, List.append_nil]
          omega
        clear hvk hzk hq3
        go_wp2
        go_round
        case rel => exact ⟨k + 1, r + (1 + zs.length), by omega, by go_num, by go_num, by omega, hnext⟩
        case measure => simp [intOf]; omega
      · by_cases hlt2 : k < m
        · have q1 : (k : Int) < (m : Int) := by omega
          have q2 : ¬ ((r : Int) ≤ 4000) := by omega
          go_wp2
          go_ret
          exact ⟨r, rfl, fun h => absurd h (by omega), rfl⟩
        · have q1 : ¬ ((k : Int) < (m : Int)) := by omega
          have hfin : Hid (zss.flatten.length ≤ r) := by
            have e : k = zss.length := by have := EM.out; omega
            have h1 := hfl.out
            rw [e, List.take_length] at h1
            exact h1
          go_wp2
          go_ret
          exact ⟨r, rfl, fun _ => ⟨hfin.out, by have := EM.out; omega⟩, rfl⟩
theorem PartsIn.below {B : Nat} {w w' : World} {v : Value} {zss : List (List Int)} (h : PartsIn w v zss) (hb : Below B w w') (hB : w.heap.size ≤ B) : PartsIn w' v zss := by
  obtain ⟨a, cap, ps, h1, h2, h3, h4, h5⟩ := h
  refine ⟨a, cap, ps, h1, h2, h3, fun hp => ?_, fun k v zs hv hz => ⟨(h5 k v zs hv hz).1.below hb hB, (h5 k v zs hv hz).2⟩⟩
  obtain ⟨qb, qo, h6, h7, h8⟩ := h4 hp
  exact ⟨qb, qo, h6, Nat.lt_of_lt_of_le h7 hb.size, fun j v hv => by rw [hb.cell (p := ⟨qb, qo + j, none⟩) (by show qb < B; omega)]; exact h8 j v hv⟩
end Go.Proofs.YtijmaigcdcloiaaDoor
