/- The statements' own helpers of layer 5: Great, Same, beginning. -/
import Derived.Test.YtijmaigcdcloiaaDoorAreaAr
import Derived.Test.YtijmaigcdcloiaaDoorAreaAl
import Derived.Deep.QuietTactic
import Derived.BigQuiet
namespace Go.Proofs.YtijmaigcdcloiaaDoor
open Go Go.RowKit
set_option maxRecDepth 100000

theorem run_at_call5 (B off n cap m : Nat) (hm : m < n) (w : World) : (Instr.indexAt 22 (.slice (some ⟨B, off, none⟩) n cap) (.int .i64 (m : Int))).run Tryd.prog w = .ok (.pointer (some ⟨B, off + 4 * m, none⟩)) w := by
  have he : Tryd.prog.underlying 22 = some (.slice (Tryd.prog.elem 22)) := by kernel_rfl
  rw [run_indexAt_slice w 22 _ _ _ _ _ he]
  have hz : (sizeOf (Tryd.prog.elem 22)).run Tryd.prog w = .ok 4 w := by kernel_rfl
  rw [if_pos (by omega), hz, Result.andThen_ok, Addr.add_mid, Int.toNat_natCast, Nat.mul_comm]
theorem C5At.below {w w' : World} {qb o : Nat} {c : C5} (h : C5At w qb o c) (hq : qb < w.heap.size) (hb : Below w.heap.size w w') : C5At w' qb o c := by
  have k : ∀ o', w'.cell? ⟨qb, o', none⟩ = w.cell? ⟨qb, o', none⟩ := fun o' => hb.cell (p := ⟨qb, o', none⟩) hq
  obtain ⟨pv, h1, h2, h3⟩ := h.picks
  obtain ⟨rv, h4, h5, h6⟩ := h.rec'
  exact ⟨(k _).trans h.what, (k _).trans h.n, h.wfn, ⟨rv, (k _).trans h4, h5.below hb (Nat.le_refl _), h6⟩, h.rbytes, h.rlen, ⟨pv, (k _).trans h1, h2.below hb (Nat.le_refl _), h3⟩, h.pbytes, h.plen⟩
theorem C5sIn.below {w w' : World} {v : Value} {cs : List C5} (h : C5sIn w v cs) (hb : Below w.heap.size w w') : C5sIn w' v cs := by
  obtain ⟨a, cap, h1, h2, h3⟩ := h
  refine ⟨a, cap, h1, h2, fun hp => ?_⟩
  obtain ⟨qb, qo, h4, h5, h6⟩ := h3 hp
  exact ⟨qb, qo, h4, Nat.lt_of_lt_of_le h5 hb.size, fun k c hk => (h6 k c hk).below h5 hb⟩
def Great5Post (cs : List C5) (w : World) (e : Ending) (w' : World) : Prop := ∃ b : Bool, e = .returned (.bool b) ∧ (b = false → cs.length ≤ 40 ∧ ∀ c ∈ cs, c.rec'.length ≤ 3000 ∧ c.picks.length ≤ 3000) ∧ ∃ n, w' = w.drewN n
set_option maxHeartbeats 1000000 in
theorem great5_walk (v : Value) (cs : List C5) (w : World) (h : C5sIn w v cs) : Calls Tryd.prog 6 #[v] w (Great5Post cs w) := by
  obtain ⟨a, cap, rfl, hl, hq⟩ := h
  obtain ⟨m, em⟩ : ∃ m, Hid (cs.length = m) := ⟨_, rfl⟩
  rw [em.out] at hl hq ⊢
  have HQ := Lib.hid hq
  clear hq
  by_cases hbig : 40 < m
  · have q0 : (40 : Int) < (m : Int) := by omega
    go_enter Tryd.func6, Tryd.ntmps6
    go_wp2
    go_ret
    exact ⟨true, rfl, (fun h => by cases h), 0, rfl⟩
  · have q0 : ¬ ((40 : Int) < (m : Int)) := by omega
    go_enter Tryd.func6, Tryd.ntmps6
    go_wp2
    go_loopw [3, 4] (fun n i wr => ∃ k r : Nat, k ≤ m ∧ i = .int .i64 (k : Int) ∧ n = .int .i64 (r : Int) ∧ r ≤ 3000 ∧ Hid (∀ j c, j < k → cs[j]? = some c → c.rec'.length ≤ 3000 ∧ c.picks.length ≤ 3000) ∧ ∃ nd, wr = w.drewN nd) (fun _ i _ => m - (intOf i).toNat)
    case atStart => exact ⟨0, 0, by omega, rfl, rfl, by omega, (fun j c hj => absurd hj (by omega)), 0, rfl⟩
    case round =>
      obtain ⟨k, r, hk, rfl, rfl, hr, hall, nd, rfl⟩ := hrel
      by_cases hlt : k < m
      · obtain ⟨qb, qo, rfl, hqb, hcl⟩ := HQ.out (by omega)
        obtain ⟨c, hck⟩ : ∃ c, cs[k]? = some c := ⟨_, List.getElem?_eq_getElem (by rw [em.out]; exact hlt)⟩
        have hc := hcl k c hck
        obtain ⟨pv, hp1, ⟨pa, pc, rfl, -⟩, -⟩ := hc.picks
        obtain ⟨rv, hr1, ⟨ra, rc, rfl, -⟩, -⟩ := hc.rec'
        have hpl := hc.plen
        have hrl := hc.rlen
        have HCK := Lib.hid hck
        obtain ⟨pn, hpn⟩ : ∃ n, Hid (c.picks.length = n) := ⟨_, rfl⟩
        obtain ⟨rn, hrn⟩ : ∃ n, Hid (c.rec'.length = n) := ⟨_, rfl⟩
        rw [hpn.out] at hp1 hpl
        rw [hrn.out] at hr1 hrl
        have q1 : (k : Int) < (m : Int) := by omega
        have hrun := fun w => run_at_call5 qb qo m cap k hlt w
        clear hc hcl hck
        by_cases hgt : 3000 < r + (rn + pn)
        · have q2 : (3000 : Int) < (r : Int) + ((rn : Int) + (pn : Int)) := by omega
          go_wp2
          go_quiet (fail)
          go_wp2
          go_ret
          exact ⟨true, rfl, (fun h => by cases h), nd + nq, by simp [World.drewN]⟩
        · have q2 : ¬ ((3000 : Int) < (r : Int) + ((rn : Int) + (pn : Int))) := by omega
          go_wp2
          go_quiet (fail)
          go_wp2
          go_roundw
          case rel =>
            refine ⟨k + 1, r + (rn + pn), by omega, by go_num, by go_num, by omega, (fun j c' hj hc' => ?_), nd + nq, by simp [World.drewN]⟩
            by_cases hjk : j = k
            · subst hjk
              have e := HCK.out
              rw [hc'] at e
              obtain rfl := Option.some.inj e
              rw [hpn.out, hrn.out]; omega
            · exact hall.out j c' (by omega) hc'
          case measure => simp [intOf]; omega
      · have q1 : ¬ (k : Int) < (m : Int) := by omega
        go_wp2
        go_ret
        refine ⟨false, rfl, (fun _ => ⟨by rw [em.out]; omega, fun c hc => ?_⟩), nd, rfl⟩
        obtain ⟨j, hj, rfl⟩ := List.mem_iff_getElem.1 hc
        exact hall.out j _ (by have := em.out; omega) (List.getElem?_eq_getElem hj)
theorem asame_short (a1 a2 : Option Addr) (m1 m2 c1 c2 : Nat) (w : World) (hne : m1 ≠ m2) : Calls Tryd.prog 17 #[.slice a1 m1 c1, .slice a2 m2 c2] w fun e w' => e = .returned (.bool false) ∧ ∃ n, w' = w.drewN n := by
  have h1 : ((m1 : Int) != (m2 : Int)) = true := by simp; omega
  clear hne
  go_enter Tryd.func17, Tryd.ntmps17
  go_wp2
  go_ret
  exact ⟨rfl, 0, rfl⟩
theorem quiet_sameb (v1 v2 : Value) (xs ys : List Int) (b : Bool) (hb : decide (xs = ys) = b) (w : World) (h1 : BytesIn w v1 xs) (h2 : BytesIn w v2 ys) (hm : xs.length ≤ 4611686018427387904) :
    Calls Tryd.prog 22 #[v1, v2] w fun e w' => e = .returned (.bool b) ∧ ∃ n, w' = w.drewN n := by
  subst hb; exact sameb_walk v1 v2 xs ys w h1 h2 hm
theorem asame_long (a1 a2 : Option Addr) (c1 c2 : Nat) (xs ys : List (List Int)) (m : Nat) (w : World) (h1 : PartsIn w (.slice a1 m c1) xs) (h2 : PartsIn w (.slice a2 m c2) ys) (hx : xs.length = m) (hy : ys.length = m) (B : Bool) (hB : decide (xs = ys) = B) :
    Calls Tryd.prog 17 #[.slice a1 m c1, .slice a2 m c2] w fun e w' => e = .returned (.bool B) ∧ ∃ n, w' = w.drewN n := by
  obtain ⟨a1', cap1, ps1, e1, hp1, hm1, hq1, hall1⟩ := h1
  obtain ⟨a2', cap2, ps2, e2, hp2, hm2, hq2, hall2⟩ := h2
  obtain ⟨rfl, -, rfl⟩ := Value.slice.inj e1
  obtain ⟨rfl, -, rfl⟩ := Value.slice.inj e2
  have HQ1 := Lib.hid hq1
  have HQ2 := Lib.hid hq2
  have HA1 := Lib.hid hall1
  have HA2 := Lib.hid hall2
  rw [hx] at hp1 hm1
  rw [hy] at hp2
  have HP1 := Lib.hid hp1
  have HP2 := Lib.hid hp2
  have HX := Lib.hid hx
  have HY := Lib.hid hy
  have HB := Lib.hid hB
  have hne : ((m : Int) != (m : Int)) = false := by simp
  clear e1 e2 hq1 hq2 hall1 hall2 hp1 hp2 hx hy hB hm2
  go_enter Tryd.func17, Tryd.ntmps17
  go_wp2
  go_loopw [5] (fun i wr => ∃ k : Nat, k ≤ m ∧ i = .int .i64 k ∧ Hid (xs.take k = ys.take k) ∧ Hid (∃ n, wr = w.drewN n)) (fun i _ => m - (intOf i).toNat)
  case atStart => exact ⟨0, by omega, rfl, rfl, ⟨0, rfl⟩⟩
  case round =>
    obtain ⟨k, hk, rfl, HT, HW⟩ := hrel
    by_cases hlt : k < m
    · obtain ⟨q1, o1, rfl, _, r1⟩ := HQ1.out (by rw [HX.out]; omega)
      obtain ⟨q2, o2, rfl, _, r2⟩ := HQ2.out (by rw [HY.out]; omega)
      obtain ⟨v1, hv1⟩ : ∃ v, ps1[k]? = some v := ⟨_, List.getElem?_eq_getElem (by rw [HP1.out]; exact hlt)⟩
      obtain ⟨v2, hv2⟩ : ∃ v, ps2[k]? = some v := ⟨_, List.getElem?_eq_getElem (by rw [HP2.out]; exact hlt)⟩
      obtain ⟨z1, hz1⟩ : ∃ z, xs[k]? = some z := ⟨_, List.getElem?_eq_getElem (by rw [HX.out]; exact hlt)⟩
      obtain ⟨z2, hz2⟩ : ∃ z, ys[k]? = some z := ⟨_, List.getElem?_eq_getElem (by rw [HY.out]; exact hlt)⟩
      obtain ⟨b1, -, l1⟩ := HA1.out k v1 z1 hv1 hz1
      obtain ⟨b2, -, -⟩ := HA2.out k v2 z2 hv2 hz2
      have d1 : wr.cell? ⟨q1, o1 + k, none⟩ = some v1 := by obtain ⟨n, e⟩ := HW.out; rw [e]; exact r1 k _ hv1
      have d2 : wr.cell? ⟨q2, o2 + k, none⟩ = some v2 := by obtain ⟨n, e⟩ := HW.out; rw [e]; exact r2 k _ hv2
      have o1' : ∃ a n c, v1 = .slice a n c := by obtain ⟨a, c, h, _⟩ := b1; exact ⟨a, _, c, h⟩
      have o2' : ∃ a n c, v2 = .slice a n c := by obtain ⟨a, c, h, _⟩ := b2; exact ⟨a, _, c, h⟩
      have B1 : Hid (∀ m, BytesIn (wr.drewN m) v1 z1) := by obtain ⟨n, e⟩ := HW.out; rw [e]; exact fun _ => b1
      have B2 : Hid (∀ m, BytesIn (wr.drewN m) v2 z2) := by obtain ⟨n, e⟩ := HW.out; rw [e]; exact fun _ => b2
      have Z1 := Lib.hid hz1
      have Z2 := Lib.hid hz2
      have q0 : (k : Int) < (m : Int) := by omega
      clear r1 r2 hv1 hv2 hz1 hz2 b1 b2
      obtain ⟨x1, y1, t1, rfl⟩ := o1'
      obtain ⟨x2, y2, t2, rfl⟩ := o2'
      obtain ⟨b, hb⟩ : ∃ b, Hid (decide (z1 = z2) = b) := ⟨_, rfl⟩
      go_wp2
      go_quiet ((go_at_call 22; exact Calls.quiet_of (quiet_sameb _ _ z1 z2 b hb.out _ (B1.out _) (B2.out _) (by omega))))
      cases b with
      | true =>
        go_wp2
        go_roundw
        case rel =>
          refine ⟨k + 1, by omega, by go_num, ?_, by obtain ⟨n, e⟩ := HW.out; exact ⟨n + nq, by rw [e, World.drewN_drewN]⟩⟩
          unfold Hid
          rw [List.take_add_one, List.take_add_one, HT.out, Z1.out, Z2.out, of_decide_eq_true hb.out]
        case measure => simp [intOf]; omega
      | false =>
        have HF : Hid (B = false) := by
          rw [← HB.out, decide_eq_false_iff_not]
          intro e
          have := Z1.out
          rw [e, Z2.out] at this
          exact of_decide_eq_false hb.out (Option.some.inj this).symm
        go_wp2
        go_ret
        exact ⟨ret_bool HF.out.symm, by obtain ⟨n, e⟩ := HW.out; exact ⟨n + nq, by rw [e, World.drewN_drewN]⟩⟩
    · have q0 : ¬ ((k : Int) < (m : Int)) := by omega
      have HF : Hid (B = true) := by
        rw [← HB.out, decide_eq_true_iff]
        have h1 := HT.out
        rwa [List.take_of_length_le (by rw [HX.out]; omega), List.take_of_length_le (by rw [HY.out]; omega)] at h1
      go_wp2
      go_ret
      exact ⟨ret_bool HF.out.symm, HW.out⟩
theorem asame_walk (v1 v2 : Value) (xs ys : List (List Int)) (w : World) (h1 : PartsIn w v1 xs) (h2 : PartsIn w v2 ys) :
    Calls Tryd.prog 17 #[v1, v2] w fun e w' => e = .returned (.bool (decide (xs = ys))) ∧ ∃ n, w' = w.drewN n := by
  have h1' := h1
  have h2' := h2
  obtain ⟨a1, c1, ps1, rfl, -, -, -, -⟩ := h1'
  obtain ⟨a2, c2, ps2, rfl, -, -, -, -⟩ := h2'
  by_cases h : xs.length = ys.length
  · rw [← h] at h2 ⊢
    exact asame_long a1 a2 c1 c2 xs ys _ w h1 h2 rfl h.symm _ rfl
  · rw [show decide (xs = ys) = false from decide_eq_false fun e => h (by rw [e])]
    exact asame_short a1 a2 _ _ c1 c2 w h

theorem run_parts_head (g o n c h : Nat) (h1 : h ≤ c) (w : World) : (Instr.sliceAt 32 (.slice (some ⟨g, o, none⟩) n c) none (some (.int .i64 (h : Int))) none).run Tryd.prog w = .ok (.slice (some ⟨g, o, none⟩) h c) w := by
  have hz : (sizeOf (Tryd.prog.elem 32)).run Tryd.prog w = .ok 1 w := by kernel_rfl
  rw [run_sliceAt_slice w 32 _ _ _ _ partsElem, run_slice_h w 32 _ n c partsElem .i64 (h : Int) (by omega) (by omega), hz]
  simp only [Result.andThen_ok, sliced, Int.toNat_natCast, Nat.sub_zero, Option.map_some, Nat.zero_mul, Addr.add_mid, Nat.add_zero]
  split <;> rfl
theorem PartsIn.head {w : World} {g n cap k : Nat} {zss : List (List Int)} (h : PartsIn w (.slice (some ⟨g, 0, none⟩) n cap) zss) (hn : zss.length = n) (hk : k ≤ n) : PartsIn w (.slice (some ⟨g, 0, none⟩) k cap) (zss.take k) := by
  obtain ⟨a, c, ps, e, h2, h3, h4, h5⟩ := h
  obtain ⟨rfl, -, rfl⟩ := Value.slice.inj e
  have hl : (zss.take k).length = k := by rw [List.length_take]; omega
  refine ⟨_, cap, ps.take k, by rw [hl], by rw [List.length_take, hl]; omega, by omega, fun hp => ?_, fun j v zs hv hz => ?_⟩
  · obtain ⟨qb, qo, h6, h7, h8⟩ := h4 (by rw [hl] at hp; omega)
    refine ⟨qb, qo, h6, h7, fun j u hu => h8 j u ?_⟩
    rw [List.getElem?_take] at hu
    split at hu
    · exact hu
    · cases hu
  · rw [List.getElem?_take] at hv hz
    split at hv
    · rename_i hjk
      rw [if_pos hjk] at hz
      exact h5 j v zs hv hz
    · cases hv
set_option maxHeartbeats 1000000 in
/-- beginning: where it is one. -/
theorem beginning_walk (a1 : Option Addr) (c1 lg lcap K nr sure : Nat) (zss : List (List Int)) (w : World) (h1 : PartsIn w (.slice a1 K c1) (zss.take K)) (h2 : PartsIn w (.slice (some ⟨lg, 0, none⟩) nr lcap) zss) (hn : zss.length = nr) (hK : K ≤ nr) (hc : nr ≤ lcap) (hs : sure ≤ K) :
    Calls Tryd.prog 16 #[.slice a1 K c1, .slice (some ⟨lg, 0, none⟩) nr lcap, .int .i64 (sure : Int)] w fun e w' => e = .returned (.bool true) ∧ ∃ n, w' = w.drewN n := by
  have HC := Lib.hid (asame_walk _ _ _ _ w h1 (h2.head hn hK))
  rw [decide_eq_true rfl] at HC
  have q1 : (K : Int) ≥ (sure : Int) := by omega
  have q2 : (K : Int) ≤ (nr : Int) := by omega
  have e1 : decide ((sure : Int) ≤ (K : Int)) = true := by rw [decide_eq_true_iff]; omega
  have e2 : decide ((K : Int) ≤ (nr : Int)) = true := by rw [decide_eq_true_iff]; omega
  go_enter Tryd.func16, Tryd.ntmps16
  go_upto_region 1 with (fail)
  refine lin_begin (opsOf Tryd.f16 1) (by kernel_rfl) ?_
  refine lin_now 0 (.slice a1 K c1) (some 7) (by kernel_rfl) (by kernel_rfl) (by kernel_rfl) ?_
  refine lin_now 1 (.int .i64 (K : Int)) (some 8) (by kernel_rfl) (by kernel_rfl) (by kernel_rfl) ?_
  refine lin_now 2 (.int .i64 (sure : Int)) (some 9) (by kernel_rfl) (by kernel_rfl) (by kernel_rfl) ?_
  refine lin_now 3 (.bool (decide ((sure : Int) ≤ (K : Int)))) (some 10) (by kernel_rfl) (by kernel_rfl) (by kernel_rfl) ?_
  rw [e1]
  refine lin_now 4 (.bool true) (some 11) (by kernel_rfl) (by kernel_rfl) (by kernel_rfl) ?_
  refine lin_now 5 (.slice a1 K c1) (some 12) (by kernel_rfl) (by kernel_rfl) (by kernel_rfl) ?_
  refine lin_now 6 (.int .i64 (K : Int)) (some 13) (by kernel_rfl) (by kernel_rfl) (by kernel_rfl) ?_
  refine lin_now 7 (.slice (some ⟨lg, 0, none⟩) nr lcap) (some 14) (by kernel_rfl) (by kernel_rfl) (by kernel_rfl) ?_
  refine lin_now 8 (.int .i64 (nr : Int)) (some 15) (by kernel_rfl) (by kernel_rfl) (by kernel_rfl) ?_
  refine lin_now 9 (.bool (decide ((K : Int) ≤ (nr : Int)))) (some 16) (by kernel_rfl) (by kernel_rfl) (by kernel_rfl) ?_
  rw [e2]
  refine lin_now 10 (.bool true) (some 17) (by kernel_rfl) (by kernel_rfl) (by kernel_rfl) ?_
  refine lin_now 11 (.bool true) (some 18) (by kernel_rfl) (by kernel_rfl) (by kernel_rfl) ?_
  refine lin_now 12 (.slice a1 K c1) (some 19) (by kernel_rfl) (by kernel_rfl) (by kernel_rfl) ?_
  refine lin_now 13 (.slice (some ⟨lg, 0, none⟩) nr lcap) (some 20) (by kernel_rfl) (by kernel_rfl) (by kernel_rfl) ?_
  refine lin_now 14 (.slice a1 K c1) (some 21) (by kernel_rfl) (by kernel_rfl) (by kernel_rfl) ?_
  refine lin_now 15 (.int .i64 (K : Int)) (some 22) (by kernel_rfl) (by kernel_rfl) (by kernel_rfl) ?_
  refine lin_now 16 (.slice (some ⟨lg, 0, none⟩) K lcap) (some 23) (by kernel_rfl) (by kernel_rfl) (exec_of (Instr.sliceAt 32 (.slice (some ⟨lg, 0, none⟩) nr lcap) none (some (.int .i64 (K : Int))) none) _ (by kernel_rfl) (run_parts_head lg 0 nr lcap K (by omega) _)) ?_
  refine lin_call 17 17 #[.slice a1 K c1, .slice (some ⟨lg, 0, none⟩) K lcap] (some 24) _ (by kernel_rfl) (by kernel_rfl) (by kernel_rfl) HC.out ?_
  rintro e w' ⟨rfl, n, rfl⟩
  refine ⟨_, rfl, ?_⟩
  refine lin_now 18 (.bool true) (some 25) (by kernel_rfl) (by kernel_rfl) (by kernel_rfl) ?_
  refine lin_now 19 (.bool true) (some 6) (by kernel_rfl) (by kernel_rfl) (by kernel_rfl) ?_
  refine lin_done 20 (by kernel_rfl) ?_
  generalize hact : Act.put _ (some 6) _ = act
  simp only [Act.put, List.setIfInBounds_toArray, List.set_cons_succ, List.set_cons_zero] at hact
  subst hact
  go_wp2
  go_ret
  exact ⟨rfl, n, rfl⟩
end Go.Proofs.YtijmaigcdcloiaaDoor
