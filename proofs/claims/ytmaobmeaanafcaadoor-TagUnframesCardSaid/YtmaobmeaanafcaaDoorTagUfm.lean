/- Bytes that are told as parts are the frame of these parts: plain lemmas on lists; nothing about the program. -/
import Derived.Test.YtmaobmeaanafcaaDoorTagMath
namespace Go.Proofs.YtmaobmeaanafcaaDoor
open Go Go.RowKit

theorem num4_numB (r : List Int) (hb : isBytes r) (hl : 4 ≤ r.length) : num4 (numB r) = r.take 4 := by
  match r, hl with
  | a :: b :: c :: d :: t, _ =>
    have ha := hb a (by simp)
    have hb' := hb b (by simp)
    have hc := hb c (by simp)
    have hd := hb d (by simp)
    have e : (numB (a :: b :: c :: d :: t) : Int) = a + 256 * b + 65536 * c + 16777216 * d := by
      show (((a + 256 * b + 65536 * c + 16777216 * d).toNat : Nat) : Int) = _
      omega
    unfold num4
    rw [e]
    simp only [List.take_succ_cons, List.take_zero, List.cons.injEq, and_true]
    omega
theorem cutP_back (r p q : List Int) (hb : isBytes r) (h : cutP r = some (p, q)) : r = part4 p ++ q ∧ isBytes q := by
  unfold cutP at h
  by_cases h1 : r.length < 4
  · rw [if_pos h1] at h; cases h
  · rw [if_neg h1] at h
    by_cases h2 : r.length - 4 < numB r
    · rw [if_pos h2] at h; cases h
    · rw [if_neg h2] at h
      simp only [Option.some.injEq, Prod.mk.injEq] at h
      obtain ⟨rfl, rfl⟩ := h
      have hl : ((r.drop 4).take (numB r)).length = numB r := by rw [List.length_take, List.length_drop]; omega
      refine ⟨?_, (hb.drop 4).drop _⟩
      rw [part4, hl, num4_numB r hb (by omega), List.append_assoc, List.take_append_drop, List.take_append_drop]
theorem unfTo_back : ∀ (n : Nat) (r : List Int) (ps : List (List Int)) (q : List Int), isBytes r → unfTo n r = some (ps, q) → r = (ps.map part4).flatten ++ q ∧ ps.length = n
  | 0, r, ps, q, _, h => by
    simp only [unfTo, Option.some.injEq, Prod.mk.injEq] at h
    obtain ⟨rfl, rfl⟩ := h
    simp
  | n + 1, r, ps, q, hb, h => by
    cases hc : cutP r with
    | none => rw [unfTo_none n r hc] at h; cases h
    | some x =>
      obtain ⟨p, r'⟩ := x
      obtain ⟨e1, hb'⟩ := cutP_back r p r' hb hc
      rw [unfTo_some n r p r' hc] at h
      cases hu : unfTo n r' with
      | none => rw [hu] at h; cases h
      | some y =>
        obtain ⟨ps', q'⟩ := y
        rw [hu] at h
        simp only [Option.map_some, Option.some.injEq, Prod.mk.injEq] at h
        obtain ⟨rfl, rfl⟩ := h
        obtain ⟨e2, e3⟩ := unfTo_back n r' ps' q' hb' hu
        refine ⟨?_, by simp [e3]⟩
        rw [e1, List.map_cons, List.flatten_cons, List.append_assoc, ← e2]
theorem unframe_back (zs : List Int) (ps : List (List Int)) (hb : isBytes zs) (h : unframeL zs = some ps) : frameL ps = zs := by
  unfold unframeL at h
  by_cases h4 : zs.length < 4
  · rw [if_pos h4] at h; cases h
  · rw [if_neg h4] at h
    cases hu : unfTo (numB zs) (zs.drop 4) with
    | none => rw [hu] at h; cases h
    | some y =>
      obtain ⟨ps', q⟩ := y
      rw [hu] at h
      unfold unfEnd at h
      by_cases hq : q = []
      · simp only [hq, if_true, Option.some.injEq] at h
        subst h
        subst hq
        obtain ⟨e1, e2⟩ := unfTo_back _ _ _ _ (hb.drop 4) hu
        rw [frameL, frameTo, List.take_length, e2, num4_numB zs hb (by omega)]
        rw [List.append_nil] at e1
        rw [← e1, List.take_append_drop]
      · simp only [hq, if_false] at h; cases h
theorem flat_part4_length (ps : List (List Int)) : ((ps.map part4).flatten).length = 4 * ps.length + ps.flatten.length := by
  induction ps with
  | nil => rfl
  | cons p ps ih =>
    simp only [List.map_cons, List.flatten_cons, List.length_append, List.length_cons, ih, part4, num4_length]
    omega
theorem cutP_length (r p q : List Int) (h : cutP r = some (p, q)) : q.length + 4 ≤ r.length := by
  unfold cutP at h
  by_cases h1 : r.length < 4
  · rw [if_pos h1] at h; cases h
  · rw [if_neg h1] at h
    by_cases h2 : r.length - 4 < numB r
    · rw [if_pos h2] at h; cases h
    · rw [if_neg h2] at h
      simp only [Option.some.injEq, Prod.mk.injEq] at h
      obtain ⟨rfl, rfl⟩ := h
      rw [List.length_drop, List.length_drop]
      omega
theorem unfTo_few : ∀ (n : Nat) (r : List Int), r.length < 4 * n → unfTo n r = none
  | 0, r, h => by omega
  | n + 1, r, h => by
    cases hc : cutP r with
    | none => exact unfTo_none n r hc
    | some x =>
      obtain ⟨p, r'⟩ := x
      have := cutP_length r p r' hc
      rw [unfTo_some n r p r' hc, unfTo_few n r' (by omega)]
      rfl
theorem frameL_sizes (ps : List (List Int)) (zs : List Int) (h : frameL ps = zs) : ps.length ≤ zs.length ∧ ps.flatten.length ≤ zs.length := by
  have := frameL_length ps
  rw [h] at this
  omega
end Go.Proofs.YtmaobmeaanafcaaDoor
