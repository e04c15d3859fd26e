/- Appending one integer after another; the reference's primes. -/
import Derived.Test.YtaeghgnhpgkcdaaDoorShaRefSq
import Derived.OwnWalk
import Derived.Laws.OwnMore
namespace Go.Proofs.YtaeghgnhpgkcdaaDoor
open Go.RowKit
set_option maxRecDepth 100000

/-- A slice of the call's own, not nil, of just these integers. -/
def Own (w : World) (base : Nat) (e : TypeId) (k : IntKind) (v : Value) (xs : List Int) : Prop := ∃ g cap, v = .slice (some ⟨g, 0, none⟩) xs.length cap ∧ w.ownsRow base e 1 (.slice (some ⟨g, 0, none⟩) xs.length cap) xs.length (ints k xs)
theorem Own.empty (w : World) (base : Nat) (e : TypeId) (k : IntKind) (hb : base ≤ w.heap.size) : Own (w.alloc (.cells #[] e)) base e k (.slice (some ⟨w.heap.size, 0, none⟩) 0 0) [] :=
  ⟨w.heap.size, 0, rfl, World.ownsRow_made w #[] 0 hb (by unfold maxLen; omega) rfl⟩
theorem Own.cell {w : World} {base : Nat} {e : TypeId} {k : IntKind} {g n cap : Nat} {xs : List Int} (h : w.ownsRow base e 1 (.slice (some ⟨g, 0, none⟩) n cap) n (ints k xs)) {j : Nat} (hj : j < xs.length) : w.cell? ⟨g, j, none⟩ = some (.int k (xs.getD j 0)) := by
  have hn : n = xs.length := by have := h.1; rw [ints_length] at this; omega
  rw [h.cellAt j (by omega)]
  exact ints_getD hj
theorem Own.below {w w' : World} {base : Nat} {e : TypeId} {k : IntKind} {v : Value} {xs : List Int} (h : Own w base e k v xs) (hb : Below w.heap.size w w') : Own w' base e k v xs := by
  obtain ⟨g, cap, hv, ho⟩ := h
  exact ⟨g, cap, hv, ho.kept (row := none) ⟨hb.os, hb.tape, hb.output, hb.size, fun k hk _ => hb.block k hk⟩ (.inr (by simp [Value.ownBlock]))⟩

theorem wpList_append_one {P : Program} {w : World} {ops : Array Oper} {rest : List Oper} {o : Oper} {a : Act} {Q : Exit → Act → World → Prop} (hgd : o.guard = none) (s x : Operand) (t e : TypeId)
    (ho : o.op = .call { callee := .builtin .append, args := #[s, x], argTypes := #[t, t] }) (k : IntKind) (bytes : Nat) (ht : P.underlying t = some (.slice e)) (hinfo : (P.info? e).map (fun i => (i.zero, i.size, i.bytes)) = some (some (.int k 0), 1, bytes)) (hb8 : bytes ≤ 8)
    (base : Nat) (v : Value) (xs : List Int) (hs : a.eval s = v) (hown : Own w base e k v xs) (ad : Addr) (c : Nat) (z : Int) (hx : a.eval x = .slice (some ad) 1 c) (hz : w.cell? (ad.add 0) = some (.int k z)) (hb : xs.length ≤ 8000000000000) (hbase : base ≤ w.heap.size)
    (h : ∀ v' w', Own w' base e k v' (xs ++ [z]) → (∀ B u, Below B u w → B ≤ base → Below B u w') → wpList P ops Q rest (a.put o.dst v') w') : wpList P ops Q (o :: rest) a w := by
  obtain ⟨i0, hi, hz0, hz1, hz2⟩ := info_parts hinfo
  obtain ⟨g, cap, rfl, hown⟩ := hown
  have hbb : (xs.length + 1) * bytes ≤ (xs.length + 1) * 8 := Nat.mul_le_mul_left _ hb8
  refine wpList_append_own w hgd s x t ho base e i0 (.int k 0) 1 bytes ht hi hz0 hz1 hz2 rfl (by decide) _ _ _ hs hown ad 1 c [.int k z] hx rfl ?_ ?_ (by unfold maxLen; omega) (by omega) hbase ?_
  · intro j u hj
    match j, hj with
    | 0, hj => simp at hj; subst hj; exact hz
  · intro u hu; simp at hu; subst hu; rfl
  · intro v' w' h1 h2 h3
    have hl := hown.lt g rfl
    refine h v' w' ?_ fun B u hB hBb => hB.grown h2 (by omega) (fun k hk => by simp [Value.ownBlock] at hk; omega)
    have h1' : w'.ownsRow base e 1 v' (xs ++ [z]).length (ints k (xs ++ [z])) := by
      rw [List.length_append]; simpa [ints] using h1
    rcases id h1' with ⟨hle, ⟨rfl, _⟩ | ⟨g', cap', cur, rfl, rest⟩⟩
    · exact absurd (h3.1 rfl).2 (by omega)
    · exact ⟨g', cap', rfl, h1'⟩

def prRun (p : Nat) : Nat → Nat → Bool → Bool
  | 0, _, b => b
  | f + 1, q, b => if q * q ≤ p then prRun p f (q + 1) (if p % q = 0 then false else b) else b
def prAll (n : Nat) : Nat → Nat → List Int → List Int
  | 0, _, out => out
  | f + 1, p, out => if out.length < n then prAll n f (p + 1) (if prRun p 30 2 true then out ++ [(p : Int)] else out) else out
theorem prAll_8 : prAll 8 320 2 [] = [2, 3, 5, 7, 11, 13, 17, 19] := by kernel_rfl
theorem prAll_64 : (prAll 64 320 2 []).length = 64 := by kernel_rfl

set_option maxHeartbeats 1000000 in
theorem primes_walk (n : Nat) (hn : n ≤ 64) (hp : (prAll n 320 2 []).length = n) (w : World) :
    Calls Tryd.prog 49 #[.int .i64 n] w fun e w' => ∃ v, e = .returned v ∧ Own w' w.heap.size 77 .u64 v (prAll n 320 2 []) ∧ Below w.heap.size w w' := by
  have HP := Lib.hid hp
  clear hp
  go_enter Tryd.func49, Tryd.ntmps49
  go_wp2
  go_loopw [3, 4] (fun v i wr => ∃ (f p : Nat) (out : List Int), i = .int .u64 p ∧ p + f = 322 ∧ out.length ≤ n ∧ prAll n f p out = prAll n 320 2 [] ∧ Own wr w.heap.size 77 .u64 v out ∧ Below w.heap.size w wr) (fun _ i _ => 400 - (intOf i).toNat)
  case atStart => exact ⟨320, 2, [], rfl, rfl, by simp, rfl, Own.empty _ _ _ _ (Nat.le_refl _), (Below.refl _ _).alloc (Nat.le_refl _) _⟩
  case round =>
    obtain ⟨f, p, out, rfl, hf, hlen, hall, ⟨g, cap, rfl, hown⟩, hbel⟩ := hrel
    obtain ⟨len, el⟩ : ∃ len, Hid (len = out.length) := ⟨_, rfl⟩
    rw [← el.out] at hlen ⊢
    by_cases hlt : len < n
    · have q1 : (len : Int) < (n : Int) := by omega
      cases f with
      | zero =>
        exfalso
        have := HP.out
        rw [← hall, prAll, ← el.out] at this
        omega
      | succ f =>
        rw [prAll, ← el.out, if_pos hlt] at hall
        have HALL := Lib.hid hall
        have HOWN := Lib.hid hown
        have HBEL := Lib.hid hbel
        clear hall hown hbel
        have hp1 : p ≤ 321 := by omega
        go_wp2
        go_loopw [5, 6] (fun b i w2 => ∃ (f2 q : Nat) (bb : Bool), b = .bool bb ∧ i = .int .u64 q ∧ q + f2 = 32 ∧ 2 ≤ q ∧ prRun p f2 q bb = prRun p 30 2 true ∧ w2 = wr) (fun _ i _ => 40 - (intOf i).toNat)
        case atStart => exact ⟨30, 2, true, rfl, rfl, rfl, by omega, rfl, rfl⟩
        case round =>
          obtain ⟨f2, q, bb, rfl, rfl, hf2, hq2, hrun, rfl⟩ := hrel
          have hsq : q * q ≤ 32 * 32 := Nat.mul_le_mul (by omega) (by omega)
          have hcast : ((q * q : Nat) : Int) = (q : Int) * (q : Int) := Int.natCast_mul _ _
          have e1 : IntKind.u64.wrap ((q : Int) * (q : Int)) = (q : Int) * (q : Int) := IntWalk.u64_in _ (by omega)
          by_cases hq : q * q ≤ p
          · have hq17 : q ≤ 17 := by
              apply Decidable.byContradiction
              intro h
              have := Nat.mul_le_mul (show 18 ≤ q by omega) (show 18 ≤ q by omega)
              omega
            have c1 : (q : Int) * (q : Int) ≤ (p : Int) := by omega
            have c2 : (q : Int) ≠ 0 := by omega
            obtain ⟨f3, rfl⟩ : ∃ f3, f2 = f3 + 1 := ⟨f2 - 1, by omega⟩
            rw [prRun, if_pos hq] at hrun
            have HRUN := Lib.hid hrun
            clear hrun hsq hcast
            by_cases hd : p % q = 0
            · have hdi : ((p : Int) % (q : Int) == 0) = true := by rw [← Int.natCast_emod, hd]; rfl
              rw [if_pos hd] at HRUN
              go_wp2
              exact ⟨⟨f3, q + 1, false, rfl, by simp, by omega, by omega, HRUN.out, trivial⟩, by simp [intOf]; omega⟩
            · have hdi : ((p : Int) % (q : Int) == 0) = false := by rw [← Int.natCast_emod]; simpa using (by omega : ¬ ((p % q : Nat) : Int) = 0)
              rw [if_neg hd] at HRUN
              go_wp2
              exact ⟨⟨f3, q + 1, bb, rfl, by simp, by omega, by omega, HRUN.out, trivial⟩, by simp [intOf]; omega⟩
          · have c1 : ¬ (q : Int) * (q : Int) ≤ (p : Int) := by omega
            have hbb : bb = prRun p 30 2 true := by
              rw [← hrun]
              cases f2 with
              | zero => rfl
              | succ f2 => rw [prRun, if_neg hq]
            clear hrun hsq hcast
            rw [← hbb] at HALL
            clear hbb
            cases bb with
            | false =>
              go_wp2
              refine ⟨⟨f, p + 1, out, by simp, by omega, by rw [← el.out]; omega, by simpa using HALL.out, ⟨g, cap, by rw [el.out], HOWN.out⟩, HBEL.out⟩, by simp [intOf]; omega⟩
            | true =>
              have HOW : Hid (Own (wr.alloc (.cells #[.int .u64 p] 77)) w.heap.size 77 .u64 (.slice (some ⟨g, 0, none⟩) len cap) out) := ⟨g, cap, by rw [el.out], HOWN.out.alloc _⟩
              have HB2 : Hid (Below w.heap.size w (wr.alloc (.cells #[.int .u64 p] 77))) := HBEL.out.alloc HBEL.out.size _
              go_wp2_with (with_reducible refine wpList_append_one (o := ⟨some 29, _, _, _, _, _⟩) ?a1 (.tmp 26) (.tmp 28) 74 77 ?a2 .u64 8 Tryd.underlying74 infoU64 (by decide) w.heap.size (.slice (some ⟨g, 0, none⟩) len cap) out ?a3 HOW.out ⟨wr.heap.size, 0, none⟩ 1 (p : Int) ?a4 ?a5 ?a6 ?a7 ?_)
              case a1 => rfl
              case a2 => rfl
              case a6 => rw [← el.out]; omega
              case a7 => exact Nat.le_succ_of_le HBEL.out.size
              intro v' w3 ho3 hb3
              have HO3 := Lib.hid ho3
              have HB3 := Lib.hid (hb3 _ _ HB2.out (Nat.le_refl _))
              clear ho3 hb3 HOW HB2 HOWN HBEL
              go_wp2
              refine ⟨⟨f, p + 1, out ++ [(p : Int)], by simp, by omega, by simp; rw [← el.out]; omega, by simpa using HALL.out, HO3.out, HB3.out⟩, by simp [intOf]; omega⟩
    · have q1 : ¬ (len : Int) < (n : Int) := by omega
      have hfin : out = prAll n 320 2 [] := by
        rw [← hall]
        cases f with
        | zero => rfl
        | succ f => rw [prAll, ← el.out, if_neg hlt]
      have HO : Hid (Own wr w.heap.size 77 .u64 (.slice (some ⟨g, 0, none⟩) len cap) (prAll n 320 2 [])) := by rw [← hfin]; exact ⟨g, cap, by rw [el.out], hown⟩
      have HB := Lib.hid hbel
      clear hfin hall hown hbel
      go_wp2
      go_ret
      exact ⟨_, rfl, HO.out, HB.out⟩
end Go.Proofs.YtaeghgnhpgkcdaaDoor
