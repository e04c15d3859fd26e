/- Rows tells how many bytes rows have together, or more than the most, of layer 4. -/
import Derived.Test.YtijmaigcdcloiaaDoorShaRows
namespace Go.Proofs.YtijmaigcdcloiaaDoor
open Go.RowKit
set_option maxRecDepth 100000

def RowsPost3 (zss : List (List Int)) (w : World) (e : Ending) (w' : World) : Prop := ∃ r : Nat, e = .returned (.int .i64 (r : Int)) ∧ (r ≤ 3000 → zss.flatten.length ≤ r ∧ zss.length ≤ 3000) ∧ w = w'
theorem rows3_walk (v : Value) (zss : List (List Int)) (w : World) (hv : PartsIn w v zss) : Calls Tryd.prog 18 #[v, .int .i64 3000] w (RowsPost3 zss w) := by
  obtain ⟨a, cap, ps, rfl, hps, hm, hq, hall⟩ := hv
  obtain ⟨m, em⟩ : ∃ m, m = zss.length := ⟨_, rfl⟩
  rw [← em] at hm hps hq ⊢
  have EM := Lib.hid em
  have HPS := Lib.hid hps
  have HQ := Lib.hid hq
  have HALL := Lib.hid hall
  clear em hps hq hall
  by_cases hbig : 3000 < m
  · have q0 : (3000 : Int) < (m : Int) := by omega
    go_enter Tryd.func18, Tryd.ntmps18
    go_wp2
    go_ret
    exact ⟨3001, rfl, fun h => absurd h (by omega), rfl⟩
  · have q0 : ¬ ((3000 : Int) < (m : Int)) := by omega
    go_enter Tryd.func18, Tryd.ntmps18
    go_wp2
    go_loop [5, 6] (fun n i => ∃ k r : Nat, k ≤ m ∧ i = .int .i64 k ∧ n = .int .i64 (r : Int) ∧ r ≤ 140737488360000 ∧ Hid ((zss.take k).flatten.length ≤ r)) (fun _ i => m - (intOf i).toNat)
    case atStart => exact ⟨0, 0, by omega, rfl, rfl, by omega, by unfold Hid; simp⟩
    case round =>
      obtain ⟨k, r, hk, rfl, rfl, hr, hfl⟩ := hrel
      by_cases hlt : k < m ∧ r ≤ 3000
      · obtain ⟨hlt, hr4⟩ := hlt
        obtain ⟨qb, qo, rfl, hq2, hq3⟩ := HQ.out (by omega)
        obtain ⟨v, hvk⟩ : ∃ v, ps[k]? = some v := ⟨_, List.getElem?_eq_getElem (by rw [HPS.out]; exact hlt)⟩
        obtain ⟨zs, hzk⟩ : ∃ zs, zss[k]? = some zs := ⟨_, List.getElem?_eq_getElem (by rw [← EM.out]; exact hlt)⟩
        obtain ⟨⟨sa, c, rfl, -⟩, -, hzl⟩ := HALL.out k v zs hvk hzk
        have cq := hq3 k _ hvk
        have q1 : (k : Int) < (m : Int) := by omega
        have q2 : (r : Int) ≤ 3000 := by omega
        have hnext : Hid ((zss.take (k + 1)).flatten.length ≤ r + (1 + zs.length)) := by
          have h1 := hfl.out
          unfold Hid
          rw [List.take_add_one, hzk]
          simp only [Option.toList_some, List.flatten_append, List.length_append, List.flatten_cons, List.flatten_nil, List.append_nil]
          omega
        clear hvk hzk hq3
        go_wp2
        go_round
        case rel => exact ⟨k + 1, r + (1 + zs.length), by omega, by go_num, by go_num, by omega, hnext⟩
        case measure => simp [intOf]; omega
      · by_cases hlt2 : k < m
        · have q1 : (k : Int) < (m : Int) := by omega
          have q2 : ¬ ((r : Int) ≤ 3000) := by omega
          go_wp2
          go_ret
          exact ⟨r, rfl, fun h => absurd h (by omega), rfl⟩
        · have q1 : ¬ ((k : Int) < (m : Int)) := by omega
          have hfin : Hid (zss.flatten.length ≤ r) := by
            have e : k = zss.length := by have := EM.out; omega
            have h1 := hfl.out
            rw [e, List.take_length] at h1
            exact h1
          go_wp2
          go_ret
          exact ⟨r, rfl, fun _ => ⟨hfin.out, by have := EM.out; omega⟩, rfl⟩
end Go.Proofs.YtijmaigcdcloiaaDoor
