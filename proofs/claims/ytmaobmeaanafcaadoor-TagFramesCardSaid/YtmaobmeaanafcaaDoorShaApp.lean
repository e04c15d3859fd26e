/- CopyBytes gives the same bytes in new memory of its own; append of bytes onto bytes that the call itself owns. -/
import Derived.Test.YtmaobmeaanafcaaDoorShaAlive
import Derived.Laws.AppendOwnNone
import Derived.OwnWalk
namespace Go.Proofs.YtmaobmeaanafcaaDoor
open Go.RowKit
set_option maxRecDepth 100000

theorem infoByte5 : (Tryd.prog.info? 5).map (fun i => (i.zero, i.size, i.bytes)) = some (some (.int .u8 0), 1, 1) := infoByte
/-- A nil slice is empty and without capacity. -/
def NilOk : Value → Prop
  | .slice none l c => l = 0 ∧ c = 0
  | _ => True

theorem owns_bytes {w : World} {base n : Nat} {v : Value} {zs : List Int} (h : w.ownsRow base 5 1 v n (ints .u8 zs)) : BytesIn w v zs := by
  obtain ⟨h1, h2⟩ := h
  have hn : zs.length = n := by rw [ints_length] at h1; omega
  rcases h2 with ⟨rfl, hn0⟩ | ⟨g, cap, cur, rfl, _, hg, hc, _, hs, ht⟩
  · refine ⟨none, 0, by rw [hn, hn0], by omega, fun h => by omega⟩
  · subst hn
    refine ⟨some ⟨g, 0, none⟩, cap, rfl, hc, fun _ => ⟨g, 0, rfl, (Array.getElem?_eq_some_iff.1 hg).1, fun j v hv => ?_⟩⟩
    rw [cell_of_row w g (0 + j) cur 5 (0, 0) hg, Nat.zero_add]
    rw [← ht, List.getElem?_take] at hv
    split at hv
    · simpa using hv
    · cases hv
theorem owns_nilok {w : World} {base n : Nat} {v : Value} {xs : List Value} (h : w.ownsRow base 5 1 v n xs) : NilOk v := by
  obtain ⟨_, h2⟩ := h
  rcases h2 with ⟨rfl, _⟩ | ⟨g, cap, cur, rfl, _⟩
  · exact ⟨rfl, rfl⟩
  · trivial

/-- append(dst, src...): dst the call's own, src whatever bytes lie somewhere. -/
theorem wpList_append_bytes {w : World} {ops : Array Oper} {rest : List Oper} {o : Oper} {a : Act} {Q : Exit → Act → World → Prop} (hgd : o.guard = none) (s x : Operand)
    (ho : o.op = .call { callee := .builtin .append, args := #[s, x], argTypes := #[37, 37] }) (base : Nat) (v : Value) (xs : List Int) (hs : a.eval s = v) (hown : w.ownsRow base 5 1 v xs.length (ints .u8 xs))
    (u : Value) (zs : List Int) (hx : a.eval x = u) (hu : BytesIn w u zs) (hnil : NilOk u) (hb : xs.length + zs.length ≤ 70368744177664) (hbase : base ≤ w.heap.size)
    (h : ∀ v' w', w'.ownsRow base 5 1 v' (xs ++ zs).length (ints .u8 (xs ++ zs)) → w.grownBy w' v.ownBlock → wpList Tryd.prog ops Q rest (a.put o.dst v') w') : wpList Tryd.prog ops Q (o :: rest) a w := by
  obtain ⟨i0, hi, hz0, hz1, hz2⟩ := info_parts infoByte5
  obtain ⟨sa, c, rfl, hc, hp⟩ := hu
  cases sa with
  | none =>
    obtain ⟨h1, h2⟩ := hnil
    subst h2
    have hz : zs = [] := List.eq_nil_of_length_eq_zero h1
    subst hz
    refine wpList_append_own_none hgd s x 37 ho base 5 i0 1 Tryd.underlying37 hi v _ _ hs hown (by rw [hx]; rfl) ?_
    rw [List.append_nil] at h
    exact h v w hown ⟨rfl, rfl, rfl, Nat.le_refl _, fun _ _ _ => rfl⟩
  | some ad =>
    refine wpList_append_own w hgd s x 37 ho base 5 i0 (.int .u8 0) 1 1 Tryd.underlying37 hi hz0 hz1 hz2 rfl (by decide) v _ _ hs hown ad zs.length c (ints .u8 zs) hx (by rw [ints_length]; omega) ?_ (ints_one _ _) (by unfold maxLen; omega) (by omega) hbase ?_
    · intro j u hj
      have hl : j < zs.length := by have := (List.getElem?_eq_some_iff.1 hj).1; rwa [ints_length] at this
      obtain ⟨pb, po, e, _, hr⟩ := hp (by omega)
      obtain rfl := Option.some.inj e
      rw [Addr.add_mid]
      exact hr j u hj
    · intro v' w' h1 h2 _
      refine h v' w' ?_ h2
      rw [List.length_append]
      simpa [ints] using h1

def CopyPost (zs : List Int) (w : World) (e : Ending) (w' : World) : Prop := ∃ v, e = .returned v ∧ w'.ownsRow w.heap.size 5 1 v zs.length (ints .u8 zs) ∧ Below w.heap.size w w'
theorem owns_empty (w : World) (base : Nat) (hb : base ≤ w.heap.size) : (w.alloc (.cells #[] 5)).ownsRow base 5 1 (.slice (some ⟨w.heap.size, 0, none⟩) 0 0) 0 [] :=
  ⟨rfl, Or.inr ⟨w.heap.size, 0, #[], rfl, hb, heap_alloc_last w _, Nat.le_refl _, by unfold maxLen; omega, rfl, rfl⟩⟩
theorem copyb_walk (u : Value) (zs : List Int) (w : World) (hu : BytesIn w u zs) (hnil : NilOk u) (hm : zs.length ≤ 70368744177664) : Calls Tryd.prog 31 #[u] w (CopyPost zs w) := by
  obtain ⟨sa, c, rfl, hc⟩ := id hu
  have HU : Hid (BytesIn (w.alloc (.cells #[] 5)) (.slice sa zs.length c) zs) := hu.below ((Below.refl w.heap.size w).alloc (Nat.le_refl _) _) (Nat.le_refl _)
  have HN := Lib.hid hnil
  clear hu hnil hc
  go_enter Tryd.func31, Tryd.ntmps31
  go_wp2_with (with_reducible refine wpList_append_bytes (o := ⟨some 7, _, _, _, _, _⟩) ?a1 (.tmp 5) (.tmp 6) ?a2 w.heap.size (.slice (some ⟨w.heap.size, 0, none⟩) 0 0) [] ?a3 ?a4 (.slice sa zs.length c) zs ?a5 HU.out HN.out ?a6 ?a7 ?_)
  case a1 => rfl
  case a2 => rfl
  case a3 => rfl
  case a4 => exact owns_empty w _ (Nat.le_refl _)
  case a5 => rfl
  case a6 => simp; omega
  case a7 => simp
  intro v' w' h1 h2
  have H1 := Lib.hid h1
  have H2 := Lib.hid (((Below.refl w.heap.size w).alloc (Nat.le_refl _) (.cells #[] 5)).grown h2 (by simp) (fun k hk => by simp [Value.ownBlock] at hk; omega))
  clear h1 h2
  go_wp2
  go_ret
  refine ⟨v', rfl, ?_, H2.out⟩
  simpa using H1.out
end Go.Proofs.YtmaobmeaanafcaaDoor
