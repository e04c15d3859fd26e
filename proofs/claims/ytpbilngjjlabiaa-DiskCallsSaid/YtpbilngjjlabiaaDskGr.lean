/- The statements' own helper Great; a number's last three bits. -/
import Derived.Test.YtpbilngjjlabiaaDskAr
import Derived.Test.YtpbilngjjlabiaaDskAl
namespace Go.Proofs.Ytpbilngjjlabiaa
open Go Go.RowKit
set_option maxRecDepth 100000

theorem and7 (x : Int) : 0 ≤ bits BinOp.and IntKind.i64 x 7 ∧ bits BinOp.and IntKind.i64 x 7 ≤ 7 := by
  have h1 : (BitVec.ofInt 64 x &&& BitVec.ofInt 64 7).toNat ≤ 7 := by
    rw [BitVec.toNat_and]
    exact Nat.le_trans Nat.and_le_right (by decide)
  have h2 : bits BinOp.and IntKind.i64 x 7 = IntKind.i64.wrap ((BitVec.ofInt 64 x &&& BitVec.ofInt 64 7).toNat : Int) := rfl
  rw [h2, IntWalk.i64_in _ (by omega)]
  omega
/-- Where a call writes. -/
def sec (c : Cl) : Nat := (bits BinOp.and IntKind.i64 c.n 7).toNat
theorem sec_lt (c : Cl) : sec c < 8 := by have := and7 c.n; unfold sec; omega
theorem sec_int (c : Cl) : bits BinOp.and IntKind.i64 c.n 7 = (sec c : Int) := by have := and7 c.n; unfold sec; omega
theorem run_at_call (B off n cap m : Nat) (hm : m < n) (w : World) : (Instr.indexAt 22 (.slice (some ⟨B, off, none⟩) n cap) (.int .i64 (m : Int))).run Try.prog w = .ok (.pointer (some ⟨B, off + 67 * m, none⟩)) w := by
  have he : Try.prog.underlying 22 = some (.slice (Try.prog.elem 22)) := by kernel_rfl
  rw [run_indexAt_slice w 22 _ _ _ _ _ he]
  have hz : (sizeOf (Try.prog.elem 22)).run Try.prog w = .ok 67 w := by kernel_rfl
  rw [if_pos (by omega), hz, Result.andThen_ok, Addr.add_mid, Int.toNat_natCast, Nat.mul_comm]
theorem ClAt.below {w w' : World} {qb o : Nat} {c : Cl} (h : ClAt w qb o c) (hq : qb < w.heap.size) (hb : Below w.heap.size w w') : ClAt w' qb o c := by
  have k : ∀ o', w'.cell? ⟨qb, o', none⟩ = w.cell? ⟨qb, o', none⟩ := fun o' => hb.cell (p := ⟨qb, o', none⟩) hq
  obtain ⟨pv, h1, h2, h3⟩ := h.picks
  exact ⟨(k _).trans h.what, (k _).trans h.n, fun j v hv => (k _).trans (h.block j v hv), h.len, h.bytes, h.wfn, ⟨pv, (k _).trans h1, h2.below hb (Nat.le_refl _), h3⟩, h.pbytes, h.plen⟩
theorem CallsIn.below {w w' : World} {v : Value} {cs : List Cl} (h : CallsIn w v cs) (hb : Below w.heap.size w w') : CallsIn w' v cs := by
  obtain ⟨a, cap, h1, h2, h3⟩ := h
  refine ⟨a, cap, h1, h2, fun hp => ?_⟩
  obtain ⟨qb, qo, h4, h5, h6⟩ := h3 hp
  exact ⟨qb, qo, h4, Nat.lt_of_lt_of_le h5 hb.size, fun k c hk => (h6 k c hk).below h5 hb⟩
def GreatPost (cs : List Cl) (w : World) (e : Ending) (w' : World) : Prop := ∃ b : Bool, e = .returned (.bool b) ∧ (b = false → cs.length ≤ 60 ∧ ∀ c ∈ cs, c.picks.length ≤ 2000) ∧ w = w'
set_option maxHeartbeats 1000000 in
theorem great_walk (v : Value) (cs : List Cl) (w : World) (h : CallsIn w v cs) : Calls Try.prog 5 #[v] w (GreatPost cs w) := by
  obtain ⟨a, cap, rfl, hl, hq⟩ := h
  obtain ⟨m, em⟩ : ∃ m, Hid (cs.length = m) := ⟨_, rfl⟩
  rw [em.out] at hl hq ⊢
  have HQ := Lib.hid hq
  clear hq
  by_cases hbig : 60 < m
  · have q0 : (60 : Int) < (m : Int) := by omega
    go_enter Try.func5, Try.ntmps5
    go_wp2
    go_ret
    exact ⟨true, rfl, (fun h => by cases h), rfl⟩
  · have q0 : ¬ ((60 : Int) < (m : Int)) := by omega
    go_enter Try.func5, Try.ntmps5
    go_wp2
    go_loop [3, 4] (fun n i => ∃ k r : Nat, k ≤ m ∧ i = .int .i64 (k : Int) ∧ n = .int .i64 (r : Int) ∧ r ≤ 2000 ∧ Hid (∀ j c, j < k → cs[j]? = some c → c.picks.length ≤ 2000)) (fun _ i => m - (intOf i).toNat)
    case atStart => exact ⟨0, 0, by omega, rfl, rfl, by omega, fun j c hj => absurd hj (by omega)⟩
    case round =>
      obtain ⟨k, r, hk, rfl, rfl, hr, hall⟩ := hrel
      by_cases hlt : k < m
      · obtain ⟨qb, qo, rfl, hqb, hcl⟩ := HQ.out (by omega)
        obtain ⟨c, hck⟩ : ∃ c, cs[k]? = some c := ⟨_, List.getElem?_eq_getElem (by rw [em.out]; exact hlt)⟩
        have hc := hcl k c hck
        obtain ⟨pv, hp1, ⟨pa, pc, rfl, -⟩, -⟩ := hc.picks
        have hpl := hc.plen
        have HCK := Lib.hid hck
        obtain ⟨pn, hpn⟩ : ∃ n, Hid (c.picks.length = n) := ⟨_, rfl⟩
        rw [hpn.out] at hp1 hpl
        have q1 : (k : Int) < (m : Int) := by omega
        have hrun := run_at_call qb qo m cap k hlt w
        have HP1 := Lib.hid hp1
        clear hc hcl hck
        by_cases hgt : 2000 < r + pn
        · have q2 : (2000 : Int) < (r : Int) + (pn : Int) := by omega
          go_wp2
          go_ret
          exact ⟨true, rfl, (fun h => by cases h), rfl⟩
        · have q2 : ¬ ((2000 : Int) < (r : Int) + (pn : Int)) := by omega
          go_wp2
          go_round
          case rel =>
            refine ⟨k + 1, r + pn, by omega, by go_num, by go_num, by omega, fun j c' hj hc' => ?_⟩
            by_cases hjk : j = k
            · subst hjk
              have e := HCK.out
              rw [hc'] at e
              obtain rfl := Option.some.inj e
              rw [hpn.out]; omega
            · exact hall.out j c' (by omega) hc'
          case measure => simp [intOf]; omega
      · have q1 : ¬ (k : Int) < (m : Int) := by omega
        go_wp2
        go_ret
        refine ⟨false, rfl, fun _ => ⟨by rw [em.out]; omega, fun c hc => ?_⟩, rfl⟩
        obtain ⟨j, hj, rfl⟩ := List.mem_iff_getElem.1 hc
        exact hall.out j _ (by have := em.out; omega) (List.getElem?_eq_getElem hj)
end Go.Proofs.Ytpbilngjjlabiaa
