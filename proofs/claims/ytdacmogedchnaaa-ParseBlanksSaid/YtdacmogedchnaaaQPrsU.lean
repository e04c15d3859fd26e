/- What the laws say, of the plain parser. -/
import Derived.Test.YtdacmogedchnaaaQPrsT
namespace Go.Proofs.Ytdacmogedchnaaa
open Go Go.RowKit
set_option maxRecDepth 100000
theorem textsOf_len (ts : List Tk) : (textsOf ts).length = ts.length := by unfold textsOf; rw [List.length_map]
theorem fit_of {s : List UInt8} {ts : List Tk} (h : scanR s = (ts, 0, 0)) : Fit (textsOf ts) := by
 obtain ⟨-, hl, hsc⟩ := scanR_inv h
 have h3 := (scan_toks _ s 0 ts (Nat.le_refl _) hsc).2.2.1
 unfold Fit
 rw [textsOf_len]
 omega
theorem readA_bad {β : Type} (f : List (List UInt8) → PR β) {s : List UInt8} {ts : List Tk} {p c : Nat} (h : scanR s = (ts, p, c)) (hc : ¬ c = 0) : readA f s = .error (p, c) := by rw [readA, h, if_neg hc]
def ansP {β : Type} (K : Nat → Nat) : PR β → Except (Nat × Nat) β
 | .ok x _ => .ok x
 | .err p c => .error (K p, c)
theorem readA_ok {β : Type} (f : List (List UInt8) → PR β) {s : List UInt8} {ts : List Tk} (h : scanR s = (ts, 0, 0)) : readA f s = ansP (lookK s) (f (textsOf ts)) := by
 rw [readA, h, if_pos rfl]
 dsimp only
 cases f (textsOf ts) <;> rfl
-- more fuel
theorem PR.bind_congr {α β : Type} {o o' : PR α} {k k' : α → List (List UInt8) → PR β} (ho : o = o') (hk : ∀ x r, o = .ok x r → k x r = k' x r) : PR.bind o k = PR.bind o' k' := by
 subst ho
 cases o with
 | ok x r => exact hk x r rfl
 | err p c => rfl
section
variable {T T' A A' : List (List UInt8) → PR Rw} {l : List (List UInt8)}
theorem atomG_congr (hT : ∀ r, r.length + 1 ≤ l.length → T r = T' r) (hA : ∀ r, r.length + 1 ≤ l.length → A r = A' r) : atomG T A l = atomG T' A' l := by
 unfold atomG
 split
 ·rfl
 split
 ·rfl
 split
 ·next h1 =>
  have ht := tail_lt (l := l) (by rw [h1]; simp)
  refine PR.bind_congr rfl fun n r e1 => PR.bind_congr rfl fun _ r2 e2 => PR.bind_congr rfl fun s r3 e3 => ?_
  have h1 := numTo_lt e1
  have h2 := exP_lt e2 (by simp)
  have h3 := namP_lt e3
  exact PR.bind_congr (hA r3 (by omega)) fun a r4 e4 => rfl
 split
 ·next h1 =>
  have ht := tail_lt (l := l) (by rw [h1]; simp)
  exact PR.bind_congr (hT l.tail (by omega)) fun a r4 e4 => rfl
 ·rfl
theorem appLoop_congr (hA2 : Lt2 A) (p : Nat) : ∀ (f : Nat) (t : Rw) (l : List (List UInt8)), (∀ r, r.length ≤ l.length → A r = A' r) → appLoop A p f t l = appLoop A' p f t l
 | 0, _, _, _ => rfl
 | f + 1, t, l, hA => by
  rw [appLoop, appLoop]
  split
  ·refine PR.bind_congr (hA l (Nat.le_refl _)) fun a r e => ?_
   have := hA2 e
   exact appLoop_congr hA2 p f _ r (fun r2 h2 => hA r2 (by omega))
  ·rfl
theorem bindG_congr (hT2 : Lt2 T) (k p : Nat) (l : List (List UInt8)) (hT : ∀ r, r.length ≤ l.length → T r = T' r) : bindG T k p l = bindG T' k p l := by
 unfold bindG
 refine PR.bind_congr rfl fun _ r e1 => PR.bind_congr rfl fun s r2 e2 => PR.bind_congr rfl fun _ r3 e3 => ?_
 have h1 := exP_lt e1 (by simp)
 have h2 := namP_lt e2
 have h3 := exP_lt e3 (by simp)
 refine PR.bind_congr (hT r3 (by omega)) fun a r4 e4 => PR.bind_congr rfl fun _ r5 e5 => PR.bind_congr rfl fun _ r6 e6 => ?_
 have h4 := hT2 e4
 have h5 := exP_lt e5 (by simp)
 have h6 := exP_lt e6 (by simp)
 exact PR.bind_congr (hT r6 (by omega)) fun b r7 e7 => rfl
theorem letG_congr (hT2 : Lt2 T) (p : Nat) (l : List (List UInt8)) (hT : ∀ r, r.length ≤ l.length → T r = T' r) : letG T p l = letG T' p l := by
 unfold letG
 refine PR.bind_congr rfl fun s r2 e2 => PR.bind_congr rfl fun _ r3 e3 => ?_
 have h2 := namP_lt e2
 have h3 := exP_lt e3 (by simp)
 refine PR.bind_congr (hT r3 (by omega)) fun a r4 e4 => PR.bind_congr rfl fun _ r5 e5 => ?_
 have h4 := hT2 e4
 have h5 := exP_lt e5 (by simp)
 refine PR.bind_congr (hT r5 (by omega)) fun b r6 e6 => PR.bind_congr rfl fun _ r7 e7 => ?_
 have h6 := hT2 e6
 have h7 := exP_lt e7 (by simp)
 exact PR.bind_congr (hT r7 (by omega)) fun c r8 e8 => rfl
theorem termG_congr (hT2 : Lt2 T) (hA2 : Lt2 A) (hT : ∀ r, r.length + 1 ≤ l.length → T r = T' r) (hA : ∀ r, r.length ≤ l.length → A r = A' r) : termG T A l = termG T' A' l := by
 unfold termG
 split
 ·next h1 =>
  have ht := tail_lt (l := l) (by rw [h1]; simp)
  exact bindG_congr hT2 6 l.length l.tail fun r hr => hT r (by omega)
 split
 ·next h1 =>
  have ht := tail_lt (l := l) (by rw [h1]; simp)
  exact bindG_congr hT2 7 l.length l.tail fun r hr => hT r (by omega)
 split
 ·next h1 =>
  have ht := tail_lt (l := l) (by rw [h1]; simp)
  exact letG_congr hT2 l.length l.tail fun r hr => hT r (by omega)
 ·unfold appG
  refine PR.bind_congr (hA l (Nat.le_refl _)) fun a r e => ?_
  have := hA2 e
  exact appLoop_congr hA2 l.length FU a r (fun r2 h2 => hA r2 (by omega))
end
theorem tf_fuel : ∀ (n m : Nat), (∀ l : List (List UInt8), 2 * l.length + 2 ≤ n → 2 * l.length + 2 ≤ m → tf n true l = tf m true l) ∧ (∀ l : List (List UInt8), 2 * l.length + 1 ≤ n → 2 * l.length + 1 ≤ m → tf n false l = tf m false l)
 | 0, _ => ⟨fun _ h => by omega, fun _ h => by omega⟩
 | _ + 1, 0 => ⟨fun _ _ h => by omega, fun _ _ h => by omega⟩
 | n + 1, m + 1 => by
  obtain ⟨h1, h2⟩ := tf_fuel n m
  exact ⟨fun l hl hm => termG_congr (tf_lt n true) (tf_lt n false) (fun r hr => h1 r (by omega) (by omega)) (fun r hr => h2 r (by omega) (by omega)), fun l hl hm => atomG_congr (fun r hr => h1 r (by omega) (by omega)) (fun r hr => h2 r (by omega) (by omega))⟩
theorem stp41 : Stp [[41]] := ⟨by decide, by decide, by decide, by decide, by decide⟩
/-- A term in brackets is the term. -/
theorem topP_par {l : List (List UInt8)} {t : Rw} {r : List (List UInt8)} (h : topP l = .ok t r) (hl : l.length ≤ 60000) : topP ([40] :: (l ++ [[41]])) = .ok (shR 1 t) [] := by
 unfold topP at h
 obtain ⟨t1, r1, h1, h2⟩ := PR.bind_get h
 by_cases hr : r1 = []
 ·rw [if_pos hr] at h2
  injection h2 with h3 h4
  subst h3
  subst hr
  obtain ⟨h5, h6⟩ := wholeP_ok h1
  obtain ⟨n, hn⟩ : ∃ n, FU = n + 1 + 1 := ⟨139998, rfl⟩
  have hl2 : (l ++ [[41]]).length = l.length + 1 := by simp
  have h7 := tf_loc FU true h5 [[41]] (fun _ => stp41)
  rw [(tf_fuel FU n).1 (l ++ [[41]]) (by rw [hl2]; unfold FU; omega) (by unfold FU at hn; rw [hl2]; omega)] at h7
  have h8 : tf (n + 1) false ([40] :: (l ++ [[41]])) = .ok (shR 1 t1) [] := by
   show atomG (tf n true) (tf n false) ([40] :: (l ++ [[41]])) = _
   rw [atomG_cons, if_neg (by decide), if_neg (by decide), if_neg (by decide), if_pos rfl, h7, PR.bind_ok]
   rfl
  have h9 : tf FU true ([40] :: (l ++ [[41]])) = .ok (shR 1 t1) [] := by
   rw [hn]
   show termG (tf (n + 1) true) (tf (n + 1) false) ([40] :: (l ++ [[41]])) = _
   rw [termG_cons, if_neg (by decide), if_neg (by decide), if_neg (by decide)]
   unfold appG
   rw [h8, PR.bind_ok]
   have : appLoop (tf (n + 1) false) ([40] :: (l ++ [[41]])).length FU (shR 1 t1) [] = .ok (shR 1 t1) [] := by
    rw [hn, appLoop, if_neg (by decide)]
   exact this
  unfold topP wholeP
  rw [h9, PR.bind_ok, nodes_sh, if_pos h6, PR.bind_ok, if_pos rfl]
 ·rw [if_neg hr] at h2
  cases h2
theorem stopP41 : Stop [41] := fun z r' e => by
 obtain ⟨rfl, -⟩ := List.cons.inj e
 exact ⟨by decide, by decide⟩
/-- Tokens joined, and a bracket behind them. -/
theorem scan_joinP : ∀ (ts : List Tk) (b : Nat), (∀ x ∈ ts, tokAt x.t = some (x.k, x.t.length)) → ∃ us p, scanS (joinB (ts.map (·.t)) ++ [41]) b = .ok (us ++ [⟨3, [41], p⟩]) ∧ us.map (·.t) = ts.map (·.t)
 | [], b, _ => ⟨[], b, rfl, rfl⟩
 | [x], b, h => by
  have ht := h x (by simp)
  have hne : x.t ≠ [] := fun e => by have := (tokAt_pos ht).1; rw [e] at this; simp at this
  refine ⟨[⟨x.k, x.t, b⟩], b + x.t.length, ?_, rfl⟩
  show scanS (x.t ++ [41]) b = _
  rw [scanS_tok ((tokAt_stop stopP41 hne).trans ht), List.take_left' rfl, List.drop_left' rfl]
  rfl
 | x :: y :: r, b, h => by
  have ht := h x (by simp)
  have hne : x.t ≠ [] := fun e => by have := (tokAt_pos ht).1; rw [e] at this; simp at this
  obtain ⟨us, p, e1, e2⟩ := scan_joinP (y :: r) (b + x.t.length + 1) (fun z hz => h z (by simp at hz ⊢; exact .inr hz))
  refine ⟨⟨x.k, x.t, b⟩ :: us, p, ?_, by rw [List.map_cons, e2]; rfl⟩
  show scanS ((x.t ++ 32 :: joinB ((y :: r).map (·.t))) ++ [41]) b = _
  rw [List.append_assoc, List.cons_append, scanS_tok ((tokAt_stop (stop32 _) hne).trans ht), List.take_left' rfl, List.drop_left' rfl, scanS_gap (tok32 _) (by rw [gap32]; decide), gap32, List.drop_succ_cons, List.drop_zero, e1]
  rfl
theorem tok40 (r : List UInt8) : tokAt (40 :: r) = some (3, 1) := by
 unfold tokAt
 rw [wordL_zero r (by decide), numLx_zero r (by decide), if_neg (by decide), if_neg (by decide), signL, pre2]
 rfl
/-- A text whose tokens are joined. -/
theorem blanks_plain (s : List UInt8) (hs : s.length ≤ 4000) {ts : List Tk} (h : scanR s = (ts, 0, 0)) : (joinB (textsOf ts)).length ≤ 8000 ∧
    (match readA sourceP s with
    | .ok ds => readA sourceP (joinB (textsOf ts)) = .ok ds
    | .error (_, c) => ∃ p', readA sourceP (joinB (textsOf ts)) = .error (p', c)) ∧
    ∀ t, readA topP s = .ok t → readA topP (40 :: (joinB (textsOf ts) ++ [41])) = .ok (shR 1 t) := by
  obtain ⟨-, hl, hsc⟩ := scanR_inv h
  obtain ⟨h1, h2, h3, -⟩ := scan_toks _ s 0 ts (Nat.le_refl _) hsc
  have hj := (joinT_len ts)
  have h4 := (scan_len3 hsc).2
  obtain ⟨us, e1, e2⟩ := join_scan hsc hs
  have e3 : textsOf us = textsOf ts := by
    have := congrArg (List.map (·.2)) e2
    rw [List.map_map, List.map_map] at this
    exact this
  refine ⟨by omega, ?_, fun t ht => ?_⟩
  · have hA : readA sourceP s = ansP (lookK s) (sourceP (textsOf ts)) := readA_ok _ h
    have hB : readA sourceP (joinB (textsOf ts)) = ansP (lookK (joinB (textsOf ts))) (sourceP (textsOf ts)) := by rw [readA_ok sourceP e1, e3]
    rw [hA, hB]
    cases sourceP (textsOf ts) with
    | ok x r => rfl
    | err p c => exact ⟨_, rfl⟩
  · have hA : readA topP s = ansP (lookK s) (topP (textsOf ts)) := readA_ok _ h
    rw [hA] at ht
    cases hp : topP (textsOf ts) with
    | err p c =>
      rw [hp] at ht
      have ht2 : (Except.error (lookK s p, c) : Except (Nat × Nat) Rw) = .ok t := ht
      cases ht2
    | ok t' r =>
      rw [hp] at ht
      obtain rfl : t' = t := by
        have ht2 : (Except.ok t' : Except (Nat × Nat) Rw) = .ok t := ht
        injection ht2
      obtain ⟨us2, p2, e4, e5⟩ := scan_joinP ts (0 + 1) h1
      have e6 : scanS (40 :: (joinB (textsOf ts) ++ [41])) 0 = .ok (⟨3, [40], 0⟩ :: (us2 ++ [⟨3, [41], p2⟩])) := by
        rw [scanS_tok (tok40 _)]
        show consR ⟨3, [40], 0⟩ (scanS (joinB (textsOf ts) ++ [41]) (0 + 1)) = _
        unfold textsOf
        rw [e4]
        rfl
      have e7 := scanR_ok (by simp; omega) e6
      have e8 : textsOf (⟨3, [40], 0⟩ :: (us2 ++ [⟨3, [41], p2⟩])) = [40] :: (textsOf ts ++ [[41]]) := by
        unfold textsOf
        rw [List.map_cons, List.map_append, e5]
        rfl
      rw [readA_ok topP e7, e8, topP_par hp (by rw [textsOf_len]; omega)]
      rfl
end Go.Proofs.Ytdacmogedchnaaa
