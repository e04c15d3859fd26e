/- The reference of layer 4: four, Need, number. -/
import Derived.Test.YtngpmilojfbpmaaGreatDoorSealJ
import Derived.Test.YtngpmilojfbpmaaGreatDoorShaRefSu
import Derived.Maps.AppendAt
namespace Go.Proofs.YtngpmilojfbpmaaGreatDoor
open Go Go.RowKit
set_option maxRecDepth 100000

theorem rlneed_walk (n : Int) (w : World) : Calls Tryz.prog 11 #[.int .i64 n] w fun e w' => e = .returned (.int .i64 (needI n)) ∧ w = w' := by
  by_cases h : n < 0 ∨ 2000 < n
  · rw [needI_no n h]
    go_enter Tryz.func11, Tryz.ntmps11
    rcases h with h | h
    · go_wp2
      go_ret
      exact ⟨rfl, rfl⟩
    · have h' : ¬ n < 0 := by omega
      go_wp2
      go_ret
      exact ⟨rfl, rfl⟩
  · have e : needI n = (n + 79) / 46 := if_neg h
    rw [e]
    have h1 : ¬ n < 0 := by omega
    have h2 : ¬ 2000 < n := by omega
    have h3 : 0 ≤ n := by omega
    have h4 : n ≤ 2000 := by omega
    clear e h
    go_enter Tryz.func11, Tryz.ntmps11
    go_wp2
    go_ret
    exact ⟨ret_int (by omega), rfl⟩
theorem beB_four (n : Nat) (hn : n < 4294967296) : beB 4 n = [(n : Int) / 16777216, (n : Int) / 65536 % 256, (n : Int) / 256 % 256, (n : Int) % 256] := by
  simp only [beB, List.nil_append, List.cons_append]
  congr 1
  · omega
  · congr 1
    · omega
theorem beB_two (n : Nat) (hn : n < 256) : beB 2 n = [0, (n : Int) % 256] := by
  simp only [beB, List.nil_append, List.cons_append]
  congr 1
  · omega
end Go.Proofs.YtngpmilojfbpmaaGreatDoor
/- The reference of layer 4: sector, Pack. -/
namespace Go.Proofs.YtngpmilojfbpmaaGreatDoor
open Go Go.RowKit
set_option maxRecDepth 100000

theorem own_below {w w' : World} {base n : Nat} {v : Value} {xs : List Value} (h : w.ownsRow base 5 1 v n xs) (hb : Below w.heap.size w w') : w'.ownsRow base 5 1 v n xs :=
  own_step (F := []) (F' := []) h (Step.of_below hb (Nat.le_refl _)) (fun g _ => by simp)
theorem own_base {w : World} {base base' n : Nat} {v : Value} {xs : List Value} (h : w.ownsRow base 5 1 v n xs) (hb : base' ≤ base) : w.ownsRow base' 5 1 v n xs := by
  refine ⟨h.1, ?_⟩
  rcases h.2 with h1 | ⟨g, cap, cur, e, h2, h3⟩
  · exact .inl h1
  · exact .inr ⟨g, cap, cur, e, Nat.le_trans hb h2, h3⟩
theorem grown_in {w w' : World} {u v : Value} {zs : List Int} (h : BytesIn w u zs) (hg : w.grownBy w' v.ownBlock) (hne : ∀ pb po l c, u = .slice (some ⟨pb, po, none⟩) l c → v.ownBlock ≠ some pb) : BytesIn w' u zs := by
  obtain ⟨a, cap, h1, h2, h3⟩ := h
  refine ⟨a, cap, h1, h2, fun hp => ?_⟩
  obtain ⟨pb, po, h4, h5, h6⟩ := h3 hp
  have hn := hne pb po zs.length cap (by rw [h1, h4])
  exact ⟨pb, po, h4, Nat.lt_of_lt_of_le h5 hg.size, fun j u hu => by
    rw [World.cell?_of_block (w := w) (a := ⟨pb, po + j, none⟩) (hg.block pb h5 (fun e => hn e.symm))]; exact h6 j u hu⟩
/-- append(dst, src...), and where the result lies. -/
theorem lin_appendb2 {ops : Array Oper} {Q : Exit → Act → World → Prop} {a : Act} {w : World} (i : Nat) (d : Option Tmp) (hi : (ops[i]?.isSome) = true) (hgd : (opAt ops i).guard = none) (hd : (opAt ops i).dst = d) (s x : Operand)
    (ho : (opAt ops i).op = .call { callee := .builtin .append, args := #[s, x], argTypes := #[36, 36] }) (base : Nat) (v : Value) (xs : List Int) (hs : a.eval s = v) (hown : w.ownsRow base 5 1 v xs.length (ints .u8 xs))
    (u : Value) (zs : List Int) (hx : a.eval x = u) (hu : BytesIn w u zs) (hnil : NilOk u) (hb : xs.length + zs.length ≤ 70368744177664) (hbase : base ≤ w.heap.size)
    (h : ∀ v' w', w'.ownsRow base 5 1 v' (xs ++ zs).length (ints .u8 (xs ++ zs)) → w.grownBy w' v.ownBlock → (v'.ownBlock = v.ownBlock ∨ v'.ownBlock = some w.heap.size) → wpFrom Tryz.prog ops Q (i + 1) (a.put d v') w') : wpFrom Tryz.prog ops Q i a w := by
  subst hd
  refine ⟨?_⟩
  rw [drop_opAt hi]
  obtain ⟨i0, hi0, hz0, hz1, hz2⟩ := info_parts infoByte5
  obtain ⟨sa, c, rfl, hc, hp⟩ := hu
  cases sa with
  | none =>
    obtain ⟨h1, h2⟩ := hnil
    subst h2
    have hz : zs = [] := List.eq_nil_of_length_eq_zero h1
    subst hz
    refine wpList_append_own_none hgd s x 36 ho base 5 i0 1 Tryz.underlying36 hi0 v _ _ hs hown (by rw [hx]; rfl) ?_
    rw [List.append_nil] at h
    exact (h v w hown ⟨rfl, rfl, rfl, Nat.le_refl _, fun _ _ _ => rfl⟩ (.inl rfl)).out
  | some ad =>
    refine wpList_append_own_at w hgd s x 36 ho base 5 i0 (.int .u8 0) 1 1 Tryz.underlying36 hi0 hz0 hz1 hz2 rfl (by decide) v _ _ hs hown ad zs.length c (ints .u8 zs) hx (by rw [ints_length]; omega) ?_ (ints_one _ _) (by unfold maxLen; omega) (by omega) hbase ?_
    · intro j u hj
      have hl : j < zs.length := by have := (List.getElem?_eq_some_iff.1 hj).1; rwa [ints_length] at this
      obtain ⟨pb, po, e, _, hr⟩ := hp (by omega)
      obtain rfl := Option.some.inj e
      rw [Addr.add_mid]
      exact hr j u hj
    · intro v' w' h1 h2 _ h4
      refine (h v' w' ?_ h2 h4).out
      rw [List.length_append]
      simpa [ints] using h1
/-- Bytes m that lie apart from what v owns. -/
structure Sep (w : World) (v m : Value) (mk : List Int) : Prop where
  by' : BytesIn w m mk
  ni : NilOk m
  ne : ∀ pb, m.ownBlock = some pb → v.ownBlock ≠ some pb ∧ pb < w.heap.size
theorem Sep.grown {w w' : World} {v v' m : Value} {mk : List Int} (h : Sep w v m mk) (hg : w.grownBy w' v.ownBlock) (ha : v'.ownBlock = v.ownBlock ∨ v'.ownBlock = some w.heap.size) : Sep w' v' m mk := by
  refine ⟨grown_in h.by' hg (fun pb po l c e => (h.ne pb (by rw [e]; rfl)).1), h.ni, fun pb hpb => ?_⟩
  obtain ⟨h1, h2⟩ := h.ne pb hpb
  refine ⟨fun e => ?_, Nat.lt_of_lt_of_le h2 hg.size⟩
  rcases ha with h3 | h3
  · exact h1 (h3 ▸ e)
  · rw [h3] at e
    have := Option.some.inj e
    omega
theorem Sep.below {w w' : World} {v m : Value} {mk : List Int} (h : Sep w v m mk) (hb : Below w.heap.size w w') : Sep w' v m mk :=
  ⟨h.by'.below hb (Nat.le_refl _), h.ni, fun pb hpb => ⟨(h.ne pb hpb).1, Nat.lt_of_lt_of_le (h.ne pb hpb).2 hb.size⟩⟩
theorem set_take {s z : List Int} {i : Nat} (hs : s.length = 64) (hz : z.length = 64) (hi : i < 64) : (s.take i ++ z.drop i).set i (s.getD i 0) = s.take (i + 1) ++ z.drop (i + 1) := by
  have hx : s[i]? = some (s.getD i 0) := by rw [List.getD_eq_getElem?_getD, List.getElem?_eq_getElem (by omega)]; rfl
  rw [List.set_append_right _ _ (by rw [List.length_take]; omega), List.length_take, show i - min i s.length = 0 by omega, List.take_add_one, hx, List.drop_eq_getElem_cons (show i < z.length by omega), List.set_cons_zero, Option.toList_some, List.append_assoc, List.singleton_append]
def sliceLen : Value → Nat
  | .slice _ n _ => n
  | _ => 0
theorem buildZero (w : World) : (Instr.build 77 #[]).run Tryz.prog w = .ok (.agg (ints .u8 zB).toArray) w := by kernel_rfl
end Go.Proofs.YtngpmilojfbpmaaGreatDoor
/- The reference of layer 4: Pack. -/
namespace Go.Proofs.YtngpmilojfbpmaaGreatDoor
open Go Go.RowKit
set_option maxRecDepth 100000

theorem exec_quo {P : Program} {a : Act} {w : World} {op : Oper} (ty ty2 : TypeId) (x y : Operand) (ho : op.op = .binOp .quo ty x y ty2) (p q : Int) (hx : a.eval x = .int .i64 p) (hy : a.eval y = .int .i64 q) (hq : q ≠ 0) : (execOp a.eval op).run P w = .ok (.value (.int .i64 (IntKind.i64.wrap (p.tdiv q)))) w := by
  unfold execOp
  simp only [ho, hx, hy, eqGuard_quo, binOp_quo, Op.intDiv]
  simp [hq]
theorem beB_two' (n : Nat) : beB 2 n = [((n / 256 : Nat) : Int) % 256, (n : Int) % 256] := by
  simp only [beB, List.nil_append, List.cons_append]
  congr 1
def RPackPost (l : List Int) (n : Nat) (w : World) (e : Ending) (w' : World) : Prop := ∃ v, e = .returned (.tuple #[v, .bool true]) ∧ OwnB w' w.heap.size v n l ∧ Below w.heap.size w w'
theorem OwnB.base {w : World} {b b' n : Nat} {v : Value} {l : List Int} (h : OwnB w b v n l) (hb : b' ≤ b) : OwnB w b' v n l := by
  refine ⟨h.1, ?_⟩
  rcases h.2 with h1 | ⟨g, cap, cur, e, h2, h3⟩
  · exact .inl h1
  · exact .inr ⟨g, cap, cur, e, Nat.le_trans hb h2, h3⟩
end Go.Proofs.YtngpmilojfbpmaaGreatDoor
