/- What the laws say, of the plain parser. -/
import Derived.Test.YtdacmogedchnaaaQPrsT
namespace Go.Proofs.Ytdacmogedchnaaa
open Go Go.RowKit
set_option maxRecDepth 100000
theorem textsOf_shift (xs ys : List Tk) (n : Nat) : textsOf (xs ++ ys.map (shiftT n)) = textsOf xs ++ textsOf ys := by
 unfold textsOf
 rw [List.map_append, List.map_map]
 rfl
theorem textsOf_len (ts : List Tk) : (textsOf ts).length = ts.length := by unfold textsOf; rw [List.length_map]
theorem lookT_le {s : List UInt8} {ts : List Tk} (h : scanR s = (ts, 0, 0)) (p : Nat) : lookK s p ≤ s.length := by
 obtain ⟨-, -, hsc⟩ := scanR_inv h
 have h4 := (scan_toks _ s 0 ts (Nat.le_refl _) hsc).2.2.2
 rw [lookK, h, lookT]
 split
 ·exact Nat.le_refl _
 ·cases hx : ts[ts.length - p]? with
  | none => exact Nat.zero_le _
  | some x =>
   have := h4 x (List.mem_of_getElem? hx)
   show x.p ≤ _
   omega
theorem lookK_app {a b : List UInt8} {xs ys : List Tk} (ha : scanR b = (ys, 0, 0)) (hz : scanR (a ++ 10 :: b) = (xs ++ ys.map (shiftT (a.length + 1)), 0, 0)) {p : Nat} (hp : p ≤ ys.length) : lookK (a ++ 10 :: b) p = lookK b p + (a.length + 1) := by
 rw [lookK, lookK, ha, hz]
 dsimp only
 rw [lookT, lookT]
 by_cases h0 : p = 0
 ·rw [if_pos h0, if_pos h0, List.length_append, List.length_cons]
  omega
 ·rw [if_neg h0, if_neg h0, List.length_append, List.length_map, List.getElem?_append_right (by omega), List.getElem?_map, show xs.length + ys.length - p - xs.length = ys.length - p by omega]
  obtain ⟨y, hy⟩ : ∃ y, ys[ys.length - p]? = some y := ⟨_, List.getElem?_eq_getElem (by omega)⟩
  rw [hy]
  rfl
theorem fit_of {s : List UInt8} {ts : List Tk} (h : scanR s = (ts, 0, 0)) : Fit (textsOf ts) := by
 obtain ⟨-, hl, hsc⟩ := scanR_inv h
 have h3 := (scan_toks _ s 0 ts (Nat.le_refl _) hsc).2.2.1
 unfold Fit
 rw [textsOf_len]
 omega
theorem readA_bad {β : Type} (f : List (List UInt8) → PR β) {s : List UInt8} {ts : List Tk} {p c : Nat} (h : scanR s = (ts, p, c)) (hc : ¬ c = 0) : readA f s = .error (p, c) := by rw [readA, h, if_neg hc]
def ansP {β : Type} (K : Nat → Nat) : PR β → Except (Nat × Nat) β
 | .ok x _ => .ok x
 | .err p c => .error (K p, c)
theorem readA_ok {β : Type} (f : List (List UInt8) → PR β) {s : List UInt8} {ts : List Tk} (h : scanR s = (ts, 0, 0)) : readA f s = ansP (lookK s) (f (textsOf ts)) := by
 rw [readA, h, if_pos rfl]
 dsimp only
 cases f (textsOf ts) <;> rfl
/-- Sources one behind the other. -/
theorem rows_plain (a b : List UInt8) (ha : a.length ≤ 2000) (hb : b.length ≤ 2000) : match readA sourceP a with
 | .error (_, c) => c ≠ 0
 | .ok ds => match readA sourceP b with
  | .error (p, c) => c ≠ 0 ∧ p ≤ 2000 ∧ ∃ p' c', readA sourceP (a ++ 10 :: b) = .error (p', c') ∧ (c' = 14 ∨ (c' = c ∧ p' = p + (a.length + 1)))
  | .ok es => ds.length ≤ 64 ∧ es.length ≤ 64 ∧ (64 < ds.length + es.length → ∃ p', readA sourceP (a ++ 10 :: b) = .error (p', 14)) ∧ (ds.length + es.length ≤ 64 → ∃ fs, readA sourceP (a ++ 10 :: b) = .ok fs ∧ fs.map (·.name) = ds.map (·.name) ++ es.map (·.name)) := by
 have hrow := scanR_rows ha hb
 cases hsa : scanS a 0 with
 | error pa =>
  have h1 := scanR_bad (l := a) (by omega) hsa
  rw [readA_bad sourceP h1 (by decide)]
  exact (by decide : (10 : Nat) ≠ 0)
 | ok xs =>
  have h1 := scanR_ok (l := a) (by omega) hsa
  have hA : readA sourceP a = ansP (lookK a) (sourceP (textsOf xs)) := readA_ok sourceP h1
  rw [hA]
  have hfa := fit_of h1
  have hga := sourceP_eg hfa
  cases hpa : sourceP (textsOf xs) with
  | err p c =>
   rw [hpa] at hga
   exact hga.1
  | ok ds r =>
   dsimp only [ansP]
   cases hsb : scanS b 0 with
   | error pb =>
    have h2 := scanR_bad (l := b) (by omega) hsb
    have hB : readA sourceP b = .error (pb, 10) := readA_bad sourceP h2 (by decide)
    rw [hB]
    have h3 : scanR (a ++ 10 :: b) = ([], pb + (a.length + 1), 10) := hrow.trans (rows_bad2 hsa hsb)
    have hpb := bad_place _ b 0 pb (Nat.le_refl _) hsb
    exact ⟨by decide, by omega, _, 10, readA_bad sourceP h3 (by decide), .inr ⟨rfl, rfl⟩⟩
   | ok ys =>
    have h2 := scanR_ok (l := b) (by omega) hsb
    have h3 : scanR (a ++ 10 :: b) = (xs ++ ys.map (shiftT (a.length + 1)), 0, 0) := hrow.trans (rows_ok hsa hsb)
    have hB : readA sourceP b = ansP (lookK b) (sourceP (textsOf ys)) := readA_ok sourceP h2
    have hZ : readA sourceP (a ++ 10 :: b) = ansP (lookK (a ++ 10 :: b)) (sourceP (textsOf xs ++ textsOf ys)) := by rw [readA_ok sourceP h3, textsOf_shift]
    have hfb := fit_of h2
    have hfz := fit_of h3
    rw [textsOf_shift] at hfz
    have hFU : (textsOf xs ++ textsOf ys).length + 1 ≤ FU := by unfold Fit at hfz; unfold FU; omega
    have hFb : (textsOf ys).length + 1 ≤ FU := by unfold Fit at hfb; unfold FU; omega
    obtain ⟨new, e1, e2⟩ := src_app (textsOf ys) FU [] (textsOf xs) ds r hpa FU [] rfl hFU
    rw [List.nil_append] at e1 e2
    subst e1
    obtain ⟨-, new2, e3, hl64, -⟩ := src_ok FU [] (textsOf xs) ds r hpa
    have hds : ds.length ≤ 64 := hl64 (by simp)
    have hsz : sourceP (textsOf xs ++ textsOf ys) = srcLoop FU (ds.map (shD (textsOf ys).length)) (textsOf ys) := e2
    rw [hB, hZ, hsz]
    cases hpb : sourceP (textsOf ys) with
    | err p c =>
     dsimp only [ansP]
     have hgb := sourceP_eg hfb
     rw [hpb] at hgb
     have hpl := lookT_le h2 p
     refine ⟨hgb.1, by omega, ?_⟩
     have hp : p ≤ ys.length := by have := hgb.2; rw [textsOf_len] at this; exact this
     rcases src_err FU [] (textsOf ys) p c hpb (ds.map (shD (textsOf ys).length)) (by simp) (by rw [List.length_map]; exact hds) with h4 | ⟨p', h4⟩
     ·rw [h4]
      exact ⟨_, _, rfl, .inr ⟨rfl, lookK_app h2 h3 hp⟩⟩
     ·rw [h4]
      exact ⟨_, _, rfl, .inl rfl⟩
    | ok es r2 =>
     dsimp only [ansP]
     obtain ⟨-, new3, e4, hl65, hk⟩ := src_ok FU [] (textsOf ys) es r2 hpb
     rw [List.nil_append] at e4
     subst e4
     have hes : es.length ≤ 64 := hl65 (by simp)
     have hk2 := hk (ds.map (shD (textsOf ys).length))
     rw [List.length_map] at hk2
     refine ⟨hds, hes, fun hgt => ?_, fun hle => ?_⟩
     ·obtain ⟨p', h4⟩ := hk2.2 hds hgt
      rw [h4]
      exact ⟨_, rfl⟩
     ·rw [hk2.1 hle]
      exact ⟨_, rfl, by rw [List.map_append, List.map_map]; rfl⟩
-- more fuel
section
variable {T T' A A' : List (List UInt8) → PR Rw} {l : List (List UInt8)}
end
end Go.Proofs.Ytdacmogedchnaaa
