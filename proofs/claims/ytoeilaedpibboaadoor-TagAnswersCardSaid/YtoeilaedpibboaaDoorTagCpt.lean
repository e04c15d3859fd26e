/- The library's Compact over digests of which at most the last two are one. -/
import Derived.Test.YtoeilaedpibboaaDoorTagSort
namespace Go.Proofs.YtoeilaedpibboaaDoor
open Go.RowKit
set_option maxRecDepth 100000

theorem run_cut_tail (D n cap k : Nat) (hk : k < cap) (hkn : k ≤ n) (w : World) : (Instr.slice 22 (.slice (some ⟨D, 0, none⟩) n cap) (some (.int .i64 (k : Int))) none none).run Tryd.prog w = .ok (.slice (some ⟨D, 32 * k, none⟩) (n - k) (cap - k)) w := by
  have hz : (sizeOf (Tryd.prog.elem 22)).run Tryd.prog w = .ok 32 w := by kernel_rfl
  rw [run_slice_l w 22 _ _ _ elemDigests .i64 (k : Int) (by omega) (by omega), hz]
  simp only [Result.andThen_ok, sliced, Int.toNat_natCast]
  rw [if_neg (by omega), Option.map_some, Addr.add_mid, Nat.zero_add, Nat.mul_comm]
theorem run_clear_one (D o c : Nat) (w : World) (ht : w.there D o 32) : (Builtin.clear_ #[22] 0 #[.slice (some ⟨D, o, none⟩) 1 c]).run Tryd.prog w = .ok (.tuple #[]) (w.setCells D o (ints .u8 (List.replicate 32 0))) := by
  have h := run_storeCells_cells (P := Tryd.prog) D o (ints .u8 (List.replicate 32 0)) 0 w (fun j hj => by simpa using (ht j hj).1) (fun j hj => by simpa using (ht j hj).2) (ints_one _ _)
  rw [Nat.add_zero] at h
  have hu : (underlying 22).run Tryd.prog w = .ok (.slice 24) w := by kernel_rfl
  have hz : (zeroValue 24).run Tryd.prog w = .ok (.agg (ints .u8 (List.replicate 32 0)).toArray) w := by kernel_rfl
  have hc : (Builtin.zeroCells (Value.agg (ints .u8 (List.replicate 32 0)).toArray).cells 1).toList = ints .u8 (List.replicate 32 0) := by kernel_rfl
  simp only [Value.cells] at hc
  generalize ints .u8 (List.replicate 32 0) = z at *
  simp [Builtin.clear_, hu, hz, hc, h, Value.cells]

/-- The first j of them, in the same block. -/
def CptPost (D : Nat) (ds : List (List Int)) (w : World) (e : Ending) (w' : World) : Prop := ∃ cap rest, e = .returned (.slice (some ⟨D, 0, none⟩) ds.length cap) ∧ ds.length ≤ cap ∧ Dg w' D 24 ds rest ∧ Upd D w w'
theorem Dg.cut {w : World} {D : Nat} {t : TypeId} {ds : List (List Int)} {rest : List Value} (h : Dg w D t ds rest) (j : Nat) : ∃ rest', Dg w D t (ds.take j) rest' := by
  refine ⟨ints .u8 (ds.drop j).flatten ++ rest, ?_⟩
  unfold Dg at h ⊢
  rw [← List.append_assoc, ← ints_append, ← List.flatten_append, List.take_append_drop]
  exact h
set_option maxHeartbeats 1000000 in
theorem scompact_walk (D n cap j : Nat) (ds : List (List Int)) (rest : List Value) (hn : ds.length = n) (hok : okD ds) (hj1 : 1 ≤ j) (hjn : j ≤ n) (hn' : n ≤ 1000) (hcap : n ≤ cap)
    (hdist : ∀ i, 1 ≤ i → i < j → ds.getD i [] ≠ ds.getD (i - 1) []) (hend : j = n ∨ (j + 1 = n ∧ ds.getD j [] = ds.getD (j - 1) [])) (w : World) (hD : Dg w D 24 ds rest) :
    Calls Tryd.prog 29 #[.slice (some ⟨D, 0, none⟩) n cap] w (CptPost D (ds.take j) w) := by
  have HD := Lib.hid hD
  have HOK := Lib.hid hok
  have HN := Lib.hid hn
  have HDI := Lib.hid hdist
  have HE := Lib.hid hend
  have HTL : Hid ((ds.take j).length = j) := by unfold Hid; rw [List.length_take, hn]; omega
  clear hD hok hn hdist hend
  by_cases h2 : n < 2
  · have q1 : (n : Int) < 2 := by omega
    go_enter Tryd.func29, Tryd.ntmps29
    go_wp2
    go_ret
    obtain ⟨rest', hr⟩ := HD.out.cut j
    have e : j = n := by omega
    exact ⟨cap, rest', by rw [HTL.out, e]; rfl, by rw [HTL.out]; omega, hr, Upd.refl _ _⟩
  · have q1 : ¬ (n : Int) < 2 := by omega
    go_enter Tryd.func29, Tryd.ntmps29
    go_wp2
    go_loopw [3] (fun i wr => ∃ k : Nat, 1 ≤ k ∧ k ≤ j ∧ i = .int .i64 (k : Int) ∧ Sg D ds rest w wr) (fun i _ => n + 1 - (intOf i).toNat)
    case atStart => exact ⟨1, by omega, hj1, rfl, HD.out, Upd.refl _ _⟩
    case round =>
      obtain ⟨k, hk1, hkj, rfl, hS⟩ := hrel
      by_cases hlt : k < n
      · have q2 : (k : Int) < (n : Int) := by omega
        obtain ⟨x, hx⟩ : ∃ x, Hid (ds.getD k [] = x) := ⟨_, rfl⟩
        obtain ⟨y, hy⟩ : ∃ y, Hid (ds.getD (k - 1) [] = y) := ⟨_, rfl⟩
        have gx : Hid (ds[k]? = some x) := by unfold Hid; rw [← hx.out]; exact getD_mem (by rw [HN.out]; omega)
        have gy : Hid (ds[k - 1]? = some y) := by unfold Hid; rw [← hy.out]; exact getD_mem (by rw [HN.out]; omega)
        have okx : Hid (x.length = 32 ∧ isBytes x) := by unfold Hid; rw [← hx.out]; exact HOK.out.get (by rw [HN.out]; omega)
        have oky : Hid (y.length = 32 ∧ isBytes y) := by unfold Hid; rw [← hy.out]; exact HOK.out.get (by rw [HN.out]; omega)
        have hix : Hid ((Tryd.prog.info? 24).map (·.size) = some (ints .u8 x).length) := by unfold Hid; rw [ints_length, okx.out.1]; exact sizeDigest
        have hiy : Hid ((Tryd.prog.info? 24).map (·.size) = some (ints .u8 y).length) := by unfold Hid; rw [ints_length, oky.out.1]; exact sizeDigest
        have a1 := Lib.hid (run_at_digest D 0 n cap k hlt)
        have a0 := Lib.hid (run_at_digest D 0 n cap (k - 1) (by omega))
        rw [Nat.zero_add] at a1 a0
        go_wp2_with fail
        refine region_begin (opsOf Tryd.f29 6) (Sg D ds rest w) (by kernel_rfl) (by kernel_rfl) 10 (by kernel_rfl) ?_
        intro Q' hQ hN
        have hS1 : Sg D ds rest w wr.drew := hS.next (Below.refl _ _).drew
        clear hS
        generalize wr.drew = w1 at hS1 ⊢
        refine reg_now 0 (.slice (some ⟨D, 0, none⟩) n cap) (some 16) hQ hS1 (by kernel_rfl) (by kernel_rfl) (fun w => by kernel_rfl) ?_
        refine reg_now 1 (.int .i64 (k : Int)) (some 17) hQ hS1 (by kernel_rfl) (by kernel_rfl) (fun w => by kernel_rfl) ?_
        refine reg_now 2 (.pointer (some ⟨D, 32 * k, none⟩)) (some 18) hQ hS1 (by kernel_rfl) (by kernel_rfl) (fun w => exec_indexAt 22 (.tmp 16) (.tmp 17) (by kernel_rfl) _ _ _ (by kernel_rfl) (by kernel_rfl) (a1.out w)) ?_
        refine reg_nowIf 3 (.agg (ints .u8 x).toArray) (some 19) hQ hS1 (by kernel_rfl) (by kernel_rfl) (fun w' hw => exec_load_mid 24 (.tmp 18) (by kernel_rfl) D (32 * k) (by kernel_rfl) (ints .u8 x) _ (hw.d.range HOK.out.a gx.out) Tryd.underlying24 rfl hix.out) ?_
        refine reg_now 4 (.slice (some ⟨D, 0, none⟩) n cap) (some 20) hQ hS1 (by kernel_rfl) (by kernel_rfl) (fun w => by kernel_rfl) ?_
        refine reg_now 5 (.int .i64 (k : Int)) (some 21) hQ hS1 (by kernel_rfl) (by kernel_rfl) (fun w => by kernel_rfl) ?_
        refine reg_now 6 (.int .i64 (IntKind.i64.wrap ((k : Int) - 1))) (some 22) hQ hS1 (by kernel_rfl) (by kernel_rfl) (fun w => by kernel_rfl) ?_
        rw [show IntKind.i64.wrap ((k : Int) - 1) = ((k - 1 : Nat) : Int) by rw [IntWalk.i64_in _ (by omega)]; omega]
        refine reg_now 7 (.pointer (some ⟨D, 32 * (k - 1), none⟩)) (some 23) hQ hS1 (by kernel_rfl) (by kernel_rfl) (fun w => exec_indexAt 22 (.tmp 20) (.tmp 22) (by kernel_rfl) _ _ _ (by kernel_rfl) (by kernel_rfl) (a0.out w)) ?_
        refine reg_nowIf 8 (.agg (ints .u8 y).toArray) (some 24) hQ hS1 (by kernel_rfl) (by kernel_rfl) (fun w' hw => exec_load_mid 24 (.tmp 23) (by kernel_rfl) D (32 * (k - 1)) (by kernel_rfl) (ints .u8 y) _ (hw.d.range HOK.out.a gy.out) Tryd.underlying24 rfl hiy.out) ?_
        refine reg_now 9 (.bool (decide (x = y))) (some 25) hQ hS1 (by kernel_rfl) (by kernel_rfl) (fun w' => exec_eql w' (.tmp 19) (.tmp 24) 24 (by kernel_rfl) Tryd.underlying24 Tryd.underlying5 sizeByte guardDigest x y okx.out.1 oky.out.1 (by kernel_rfl) (by kernel_rfl)) ?_
        refine reg_done (by kernel_rfl) (hN _ _ ?_)
        have HS1 := Lib.hid hS1
        clear hS1 hQ hN
        generalize hact : Act.put _ (some 25) (.bool (decide (x = y))) = act
        simp only [Act.put, List.setIfInBounds_toArray, List.set_cons_succ, List.set_cons_zero] at hact
        subst hact
        by_cases hc : x = y
        · have hkj' : Hid (k = j ∧ k + 1 = n) := by
            have h1 := HDI.out k hk1
            have h2 := HE.out
            rw [hx.out, hy.out] at h1
            rcases h2 with h2 | h2
            · exfalso; exact h1 (by omega) hc
            · have : ¬ k < j := fun h => h1 h hc
              exact ⟨by omega, by omega⟩
          have ht1 := fun w => run_cut_tail D n cap k (by omega) (by omega) w
          have e1 : n - k = 1 := by have := hkj'.out; omega
          rw [e1] at ht1
          clear e1
          have hclr := run_clear_one D (32 * k) (cap - k) w1 (HS1.out.d.there HOK.out.a (by rw [HN.out]; exact hlt))
          have HF : Hid (Sg D (ds.set k (List.replicate 32 0)) rest w (w1.setCells D (32 * k) (ints .u8 (List.replicate 32 0)))) := ⟨HS1.out.d.store HOK.out.a (by rw [HN.out]; exact hlt) _ (by simp), HS1.out.u.setCells _ _⟩
          generalize w1.setCells D (32 * k) (ints .u8 (List.replicate 32 0)) = w2 at hclr HF
          rw [decide_eq_true hc]
          clear hc hix hiy gx gy okx oky hx hy a1 a0
          generalize ints .u8 x = vx
          generalize ints .u8 y = vy
          have q3 : (k : Int) ≤ (n : Int) := by omega
          have q4 : (k : Int) ≤ (cap : Int) := by omega
          go_wp2_with fail
          go_loopw [3, 5] (fun a b wr => a = .int .i64 (k : Int) ∧ b = .int .i64 1 ∧ wr = w1) (fun _ _ _ => 0)
          case atStart => exact ⟨rfl, rfl, rfl⟩
          case round =>
            obtain ⟨rfl, rfl, rfl⟩ := hrel
            go_wp2
            go_ret
            obtain ⟨rest', hr⟩ := HF.out.d.cut j
            have e2 : (ds.set k (List.replicate 32 0)).take j = ds.take j := by
              have := hkj'.out.1
              rw [← this, List.take_set_of_le (Nat.le_refl _)]
            rw [e2] at hr
            exact ⟨_, rest', by rw [HTL.out, ← hkj'.out.1]; rfl, by rw [HTL.out]; omega, hr, HF.out.u⟩
        · have hkj' : k < j := by
            have h2 := HE.out
            rcases h2 with h2 | ⟨h2, h3⟩
            · omega
            · by_cases e : k = j
              · exfalso; rw [← e, hx.out, hy.out] at h3; exact hc h3
              · omega
          rw [decide_eq_false hc]
          clear hc hix hiy gx gy okx oky hx hy a1 a0
          generalize ints .u8 x = vx
          generalize ints .u8 y = vy
          go_wp2
          exact ⟨⟨k + 1, by omega, by omega, by go_num, HS1.out⟩, by simp [intOf]; omega⟩
      · have q2 : ¬ (k : Int) < (n : Int) := by omega
        have ej : Hid (j = n) := by unfold Hid; omega
        have HS := Lib.hid hS
        clear hS
        go_wp2
        go_ret
        obtain ⟨rest', hr⟩ := HS.out.d.cut j
        exact ⟨cap, rest', by rw [HTL.out, ej.out]; rfl, by rw [HTL.out]; omega, hr, HS.out.u⟩
end Go.Proofs.YtoeilaedpibboaaDoor
