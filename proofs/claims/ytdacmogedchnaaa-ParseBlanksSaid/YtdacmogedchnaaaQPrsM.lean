/- What is read of a list is read of it with more behind, if no more of it is asked. -/
import Derived.Test.YtdacmogedchnaaaQPrsL
namespace Go.Proofs.Ytdacmogedchnaaa
open Go Go.RowKit
set_option maxRecDepth 100000
/-- What stands next goes on with nothing that may go on. -/
structure Stp (z : List (List UInt8)) : Prop where
 bar : ¬ nx z = [124]
 plus : ¬ nx z = [43]
 comma : ¬ nx z = [44]
 brace : ¬ nx z = [123]
 beg : ¬ begA (nx z) = true
theorem app_no {l z : List (List UInt8)} {s : List UInt8} (h : ¬ nx l = s) (hz : l = [] → ¬ nx z = s) : ¬ nx (l ++ z) = s := by
 cases l with
 | nil => exact hz rfl
 | cons x l => exact h
theorem exP_loc {s : List UInt8} {l r : List (List UInt8)} {x : Unit} (h : exP s l = .ok x r) (h0 : s ≠ []) (z : List (List UInt8)) : exP s (l ++ z) = .ok x (r ++ z) := by
 obtain ⟨h1, rfl⟩ := exP_ok h
 cases l with
 | nil => exact absurd h1.symm h0
 | cons y l => rw [List.cons_append, exP, nx_cons, if_pos (by simpa [nx_cons] using h1)]; rfl
theorem namP_loc {l r : List (List UInt8)} {x : List UInt8} (h : namP l = .ok x r) (z : List (List UInt8)) : namP (l ++ z) = .ok x (r ++ z) := by
 obtain ⟨h1, rfl, rfl⟩ := namP_ok h
 cases l with
 | nil => exact absurd h1 (by decide)
 | cons y l => rw [List.cons_append, namP, nx_cons, if_pos (by simpa [nx_cons] using h1)]; rfl
theorem numQ_loc {l r : List (List UInt8)} {n : Nat} (h : numQ l = .ok n r) (z : List (List UInt8)) : numQ (l ++ z) = .ok n (r ++ z) := by
 obtain ⟨h1, rfl⟩ := numQ_ok h
 cases l with
 | nil => cases h1
 | cons y l =>
  rw [nx_cons] at h1
  rw [List.cons_append, numQ, nx_cons, h1]
  rfl
theorem numTo_loc {m : Nat} {l r : List (List UInt8)} {n : Nat} (h : numTo m l = .ok n r) (z : List (List UInt8)) : numTo m (l ++ z) = .ok n (r ++ z) := by
 obtain ⟨h1, h2, rfl⟩ := numTo_ok h
 cases l with
 | nil => cases h1
 | cons y l =>
  rw [nx_cons] at h1
  rw [List.cons_append, numTo, nx_cons, h1]
  dsimp only
  rw [if_pos h2]
  rfl
theorem rightP1_loc {n p : Nat} {l r : List (List UInt8)} {x : Unit} (h : rightP1 n p l = .ok x r) (q : Nat) (z : List (List UInt8)) : rightP1 n q (l ++ z) = .ok x (r ++ z) := by
 obtain ⟨h1, rfl⟩ := rightP1_ok h
 rw [rightP1, if_pos h1]
theorem partP_cons (b : Bool) (s : List UInt8) (l : List (List UInt8)) : partP b (s :: l) = if s ∈ us4 then
    (if b = true ∧ nx l = [43] then numQ l.tail else .ok 0 l).bind fun n r => rightP1 n (s :: l).length r
  else (numQ (s :: l)).bind fun n r => rightP1 n (s :: l).length r := rfl
theorem partP_loc {b : Bool} {l r : List (List UInt8)} {x : Unit} (h : partP b l = .ok x r) (z : List (List UInt8)) (hz : r = [] → Stp z) : partP b (l ++ z) = .ok x (r ++ z) := by
 cases l with
 | nil => have := partP_lt h; simp at this
 | cons s l =>
  rw [List.cons_append]
  rw [partP_cons] at h ⊢
  by_cases h1 : s ∈ us4
  ·rw [if_pos h1] at h ⊢
   by_cases h2 : b = true ∧ nx l = [43]
   ·rw [if_pos h2] at h
    obtain ⟨n, r1, h3, h4⟩ := PR.bind_get h
    cases l with
    | nil => exact absurd h2.2 (by simp [nx])
    | cons y l =>
     rw [List.cons_append, if_pos (by exact h2), List.tail_cons]
     rw [List.tail_cons] at h3
     rw [numQ_loc h3 z, PR.bind_ok]
     exact rightP1_loc h4 _ z
   ·rw [if_neg h2] at h
    have h4 := h
    rw [PR.bind_ok] at h4
    have h5 := (rightP1_ok h4).2
    rw [if_neg (fun hc => by
     cases l with
     | nil => exact (hz h5).plus hc.2
     | cons y l => exact h2 hc), PR.bind_ok]
    exact rightP1_loc h4 _ z
  ·rw [if_neg h1] at h ⊢
   obtain ⟨n, r1, h3, h4⟩ := PR.bind_get h
   have h5 := numQ_loc h3 z
   rw [List.cons_append] at h5
   rw [h5, PR.bind_ok]
   exact rightP1_loc h4 _ z
theorem tlevelP_cons (s : List UInt8) (l : List (List UInt8)) : tlevelP (s :: l) = if s = [40] then (levelQ l).bind fun _ r => (exP [41] r).bind fun _ r => .ok () r else partP false (s :: l) := rfl
theorem atomG_cons (T A : List (List UInt8) → PR Rw) (s : List UInt8) (l : List (List UInt8)) : atomG T A (s :: l) = if s = [80, 114, 111, 112] then .ok (.mk 2 0 (some (s :: l).length) [] 0 []) l
 else if s = [84, 121, 112, 101] then (tlevelP l).bind fun _ r => .ok (.mk 3 0 (some (s :: l).length) [] 1 []) r
 else if s = [91] then (numTo 31 l).bind fun n r => (exP [111, 102] r).bind fun _ r => (namP r).bind fun nm r => (A r).bind fun a r => (exP [93] r).bind fun _ r => .ok (.mk 9 n (some (s :: l).length) nm 0 [a]) r
 else if s = [40] then (T l).bind fun t r => (exP [41] r).bind fun _ r => .ok t r
 else (namP (s :: l)).bind fun nm r => if nx r = [123] then (levelsQ r.tail).bind fun c r => .ok (.mk 4 0 (some (s :: l).length) nm c []) r else .ok (.mk 4 0 (some (s :: l).length) nm 0 []) r := rfl
theorem termG_cons (T A : List (List UInt8) → PR Rw) (s : List UInt8) (l : List (List UInt8)) : termG T A (s :: l) = if s = [102, 117, 110] then bindG T 6 (s :: l).length l
 else if s = [97, 108, 108] then bindG T 7 (s :: l).length l
 else if s = [108, 101, 116] then letG T (s :: l).length l
 else appG A (s :: l) := rfl
theorem nil_of_le {r r1 : List (List UInt8)} (h : r.length ≤ r1.length) (e : r1 = []) : r = [] := by
 subst e
 exact List.eq_nil_of_length_eq_zero (by simpa using h)
theorem lvLoop_loc : ∀ (f : Nat) {l r : List (List UInt8)} {x : Unit}, lvLoop f l = .ok x r → ∀ z : List (List UInt8), (r = [] → Stp z) → lvLoop f (l ++ z) = .ok x (r ++ z)
 | 0, _, _, _, h, _, _ => by cases h
 | f + 1, l, r, x, h, z, hz => by
  rw [lvLoop] at h ⊢
  by_cases h1 : nx l = [124]
  ·rw [if_pos h1] at h
   cases l with
   | nil => exact absurd h1 (by simp [nx])
   | cons y l =>
    obtain ⟨_, r1, h3, h4⟩ := PR.bind_get h
    rw [List.cons_append, if_pos (by exact h1), List.tail_cons]
    rw [List.tail_cons] at h3
    rw [partP_loc h3 z (fun e => hz (nil_of_le (lvLoop_le f h4) e)), PR.bind_ok]
    exact lvLoop_loc f h4 z hz
  ·rw [if_neg h1] at h
   injection h with h5 h6
   subst h5
   subst h6
   rw [if_neg (app_no h1 (fun e => (hz e).bar))]
theorem levelQ_loc {l r : List (List UInt8)} {x : Unit} (h : levelQ l = .ok x r) (z : List (List UInt8)) (hz : r = [] → Stp z) : levelQ (l ++ z) = .ok x (r ++ z) := by
 unfold levelQ at h ⊢
 obtain ⟨_, r1, h3, h4⟩ := PR.bind_get h
 rw [partP_loc h3 z (fun e => hz (nil_of_le (lvLoop_le _ h4) e)), PR.bind_ok]
 exact lvLoop_loc _ h4 z hz
theorem lvsLoop_ge : ∀ (k c : Nat) {l r : List (List UInt8)} {x : Nat}, lvsLoop k c l = .ok x r → c ≤ x
 | 0, c, l, r, x, h => by
  rw [lvsLoop] at h
  injection h with h5 h6
  omega
 | k + 1, c, l, r, x, h => by
  rw [lvsLoop] at h
  split at h
  ·obtain ⟨_, r1, h3, h4⟩ := PR.bind_get h
   have := lvsLoop_ge k _ h4
   omega
  ·injection h with h5 h6
   omega
theorem lvsLoop_nil (k c : Nat) {l r : List (List UInt8)} {x : Nat} (h : lvsLoop k c l = .ok x r) (e : l = []) : r = [] := by
 have h1 := lvsLoop_le k c h
 have h2 := lvsLoop_ge k c h
 subst e
 exact List.eq_nil_of_length_eq_zero (by simp at h1; omega)
theorem lvsLoop_loc : ∀ (k c : Nat) {l r : List (List UInt8)} {x : Nat}, lvsLoop k c l = .ok x r → ∀ z : List (List UInt8), (r = [] → Stp z) → lvsLoop k c (l ++ z) = .ok x (r ++ z)
 | 0, c, l, r, x, h, z, _ => by
  rw [lvsLoop] at h ⊢
  injection h with h5 h6
  rw [h5, h6]
 | k + 1, c, l, r, x, h, z, hz => by
  rw [lvsLoop] at h ⊢
  by_cases h1 : nx l = [44]
  ·rw [if_pos h1] at h
   cases l with
   | nil => exact absurd h1 (by simp [nx])
   | cons y l =>
    obtain ⟨_, r1, h3, h4⟩ := PR.bind_get h
    rw [List.cons_append, if_pos (by exact h1), List.tail_cons]
    rw [List.tail_cons] at h3
    rw [levelQ_loc h3 z (fun e => hz (lvsLoop_nil k _ h4 e)), PR.bind_ok]
    exact lvsLoop_loc k (c + 1) h4 z hz
  ·rw [if_neg h1] at h
   injection h with h5 h6
   subst h5
   subst h6
   rw [if_neg (app_no h1 (fun e => (hz e).comma))]
theorem ex_ne {s : List UInt8} {l r : List (List UInt8)} {x : Unit} (h : exP s l = .ok x r) (h0 : s ≠ []) {P : Prop} : l = [] → P := fun e => by
 subst e
 have := exP_lt h h0
 simp at this
theorem levelsQ_loc {l r : List (List UInt8)} {c : Nat} (h : levelsQ l = .ok c r) (z : List (List UInt8)) : levelsQ (l ++ z) = .ok c (r ++ z) := by
 unfold levelsQ at h ⊢
 obtain ⟨_, r1, h3, h⟩ := PR.bind_get h
 obtain ⟨c1, r2, h4, h⟩ := PR.bind_get h
 obtain ⟨_, r3, h5, h⟩ := PR.bind_get h
 injection h with h6 h7
 subst h6
 subst h7
 have h8 : r2 = [] → Stp z := ex_ne h5 (by simp)
 rw [levelQ_loc h3 z (fun e => h8 (lvsLoop_nil 3 _ h4 e)), PR.bind_ok, lvsLoop_loc 3 1 h4 z h8, PR.bind_ok, exP_loc h5 (by simp) z, PR.bind_ok]
theorem tlevelP_loc {l r : List (List UInt8)} {x : Unit} (h : tlevelP l = .ok x r) (z : List (List UInt8)) (hz : r = [] → Stp z) : tlevelP (l ++ z) = .ok x (r ++ z) := by
 cases l with
 | nil => have := tlevelP_lt h; simp at this
 | cons s l =>
  rw [List.cons_append]
  rw [tlevelP_cons] at h ⊢
  by_cases h1 : s = [40]
  ·rw [if_pos h1] at h ⊢
   obtain ⟨_, r1, h3, h⟩ := PR.bind_get h
   obtain ⟨_, r2, h4, h⟩ := PR.bind_get h
   injection h with h6 h7
   subst h7
   rw [levelQ_loc h3 z (ex_ne h4 (by simp)), PR.bind_ok, exP_loc h4 (by simp) z, PR.bind_ok]
  ·rw [if_neg h1] at h ⊢
   have := partP_loc h z hz
   rw [List.cons_append] at this
   exact this
/-- Read as with more behind. -/
def Loc (T : List (List UInt8) → PR Rw) : Prop := ∀ {l r : List (List UInt8)} {t : Rw}, T l = .ok t r → ∀ z : List (List UInt8), (r = [] → Stp z) → T (l ++ z) = .ok (shR z.length t) (r ++ z)
theorem sh_leaf (k d n p : Nat) (s : List UInt8) (l : Nat) : shR k (.mk d n (some p) s l []) = .mk d n (some (p + k)) s l [] := by simp [shR, shRs]
theorem sh_1 (k d n p : Nat) (s : List UInt8) (l : Nat) (a : Rw) : shR k (.mk d n (some p) s l [a]) = .mk d n (some (p + k)) s l [shR k a] := by simp [shR, shRs]
theorem sh_2 (k d n p : Nat) (s : List UInt8) (l : Nat) (a b : Rw) : shR k (.mk d n (some p) s l [a, b]) = .mk d n (some (p + k)) s l [shR k a, shR k b] := by simp [shR, shRs]
theorem sh_3 (k d n p : Nat) (s : List UInt8) (l : Nat) (a b c : Rw) : shR k (.mk d n (some p) s l [a, b, c]) = .mk d n (some (p + k)) s l [shR k a, shR k b, shR k c] := by simp [shR, shRs]
theorem atomG_loc {T A : List (List UInt8) → PR Rw} (hT : Loc T) (hA : Loc A) (hT2 : Lt2 T) (hA2 : Lt2 A) : Loc (atomG T A) := by
 intro l r t h z hz
 cases l with
 | nil => have := atomG_lt hT2 hA2 h; simp at this
 | cons s l =>
  have hlen : (s :: (l ++ z)).length = (s :: l).length + z.length := by simp; omega
  rw [List.cons_append]
  rw [atomG_cons] at h ⊢
  rw [hlen]
  by_cases c1 : s = [80, 114, 111, 112]
  ·rw [if_pos c1] at h ⊢
   injection h with h6 h7
   subst h6
   subst h7
   rw [sh_leaf]
  rw [if_neg c1] at h ⊢
  by_cases c2 : s = [84, 121, 112, 101]
  ·rw [if_pos c2] at h ⊢
   obtain ⟨_, r1, h3, h⟩ := PR.bind_get h
   injection h with h6 h7
   subst h6
   subst h7
   rw [tlevelP_loc h3 z hz, PR.bind_ok, sh_leaf]
  rw [if_neg c2] at h ⊢
  by_cases c3 : s = [91]
  ·rw [if_pos c3] at h ⊢
   obtain ⟨n, r1, h3, h⟩ := PR.bind_get h
   obtain ⟨_, r2, h4, h⟩ := PR.bind_get h
   obtain ⟨nm, r3, h5, h⟩ := PR.bind_get h
   obtain ⟨a, r4, h6, h⟩ := PR.bind_get h
   obtain ⟨_, r5, h7, h⟩ := PR.bind_get h
   injection h with h8 h9
   subst h8
   subst h9
   rw [numTo_loc h3 z, PR.bind_ok, exP_loc h4 (by simp) z, PR.bind_ok, namP_loc h5 z, PR.bind_ok, hA h6 z (ex_ne h7 (by simp)), PR.bind_ok, exP_loc h7 (by simp) z, PR.bind_ok, sh_1]
  rw [if_neg c3] at h ⊢
  by_cases c4 : s = [40]
  ·rw [if_pos c4] at h ⊢
   obtain ⟨a, r1, h3, h⟩ := PR.bind_get h
   obtain ⟨_, r2, h4, h⟩ := PR.bind_get h
   injection h with h8 h9
   subst h8
   subst h9
   rw [hT h3 z (ex_ne h4 (by simp)), PR.bind_ok, exP_loc h4 (by simp) z, PR.bind_ok]
  rw [if_neg c4] at h ⊢
  obtain ⟨nm, r1, h3, h⟩ := PR.bind_get h
  have h4 := namP_loc h3 z
  rw [List.cons_append] at h4
  rw [h4, PR.bind_ok]
  by_cases c5 : nx r1 = [123]
  ·rw [if_pos c5] at h
   cases r1 with
   | nil => exact absurd c5 (by simp [nx])
   | cons y r1 =>
    obtain ⟨c, r2, h5, h⟩ := PR.bind_get h
    injection h with h8 h9
    subst h8
    subst h9
    rw [List.cons_append, if_pos (by exact c5), List.tail_cons]
    rw [List.tail_cons] at h5
    rw [levelsQ_loc h5 z, PR.bind_ok, sh_leaf]
  ·rw [if_neg c5] at h
   injection h with h8 h9
   subst h8
   subst h9
   rw [if_neg (app_no c5 (fun e => (hz e).brace)), sh_leaf]
theorem appLoop_len {A : List (List UInt8) → PR Rw} (hA2 : Lt2 A) (p : Nat) : ∀ (f : Nat) (t0 : Rw) {l r : List (List UInt8)} {t : Rw}, appLoop A p f t0 l = .ok t r → r.length ≤ l.length
 | 0, _, _, _, _, h => by cases h
 | f + 1, t0, l, r, t, h => by
  rw [appLoop] at h
  split at h
  ·obtain ⟨a, r1, h3, h⟩ := PR.bind_get h
   have h4 := appLoop_len hA2 p f _ h
   have := hA2 h3
   omega
  ·injection h with h8 h9
   rw [h9]
   exact Nat.le_refl _
theorem appLoop_loc {A : List (List UInt8) → PR Rw} (hA : Loc A) (hA2 : Lt2 A) (p : Nat) : ∀ (f : Nat) (t0 : Rw) {l r : List (List UInt8)} {t : Rw}, appLoop A p f t0 l = .ok t r → ∀ z : List (List UInt8), (r = [] → Stp z) → appLoop A (p + z.length) f (shR z.length t0) (l ++ z) = .ok (shR z.length t) (r ++ z)
 | 0, _, _, _, _, h, _, _ => by cases h
 | f + 1, t0, l, r, t, h, z, hz => by
  rw [appLoop] at h ⊢
  by_cases c1 : begA (nx l) = true
  ·rw [if_pos c1] at h
   obtain ⟨a, r1, h3, h⟩ := PR.bind_get h
   have e : nx (l ++ z) = nx l := by
    cases l with
    | nil => exact absurd c1 (by decide)
    | cons y l => rfl
   have h5 := appLoop_loc hA hA2 p f _ h z hz
   rw [sh_2] at h5
   rw [e, if_pos c1, hA h3 z (fun e => hz (nil_of_le (appLoop_len hA2 p f _ h) e)), PR.bind_ok, h5]
  ·rw [if_neg c1] at h
   injection h with h8 h9
   subst h8
   subst h9
   rw [if_neg (fun hc => by
    cases l with
    | nil => exact (hz rfl).beg hc
    | cons y l => exact c1 hc)]
theorem appG_loc {A : List (List UInt8) → PR Rw} (hA : Loc A) (hA2 : Lt2 A) : Loc (appG A) := by
 intro l r t h z hz
 unfold appG at h ⊢
 obtain ⟨a, r1, h3, h⟩ := PR.bind_get h
 rw [hA h3 z (fun e => hz (nil_of_le (appLoop_len hA2 _ _ _ h) e)), PR.bind_ok, List.length_append]
 exact appLoop_loc hA hA2 _ _ _ h z hz
theorem bindG_loc {T : List (List UInt8) → PR Rw} (hT : Loc T) {k p : Nat} {l r : List (List UInt8)} {t : Rw} (h : bindG T k p l = .ok t r) (z : List (List UInt8)) (hz : r = [] → Stp z) : bindG T k (p + z.length) (l ++ z) = .ok (shR z.length t) (r ++ z) := by
 unfold bindG at h ⊢
 obtain ⟨_, r1, h1, h⟩ := PR.bind_get h
 obtain ⟨s, r2, h2, h⟩ := PR.bind_get h
 obtain ⟨_, r3, h3, h⟩ := PR.bind_get h
 obtain ⟨a, r4, h4, h⟩ := PR.bind_get h
 obtain ⟨_, r5, h5, h⟩ := PR.bind_get h
 obtain ⟨_, r6, h6, h⟩ := PR.bind_get h
 obtain ⟨b, r7, h7, h⟩ := PR.bind_get h
 injection h with h8 h9
 subst h8
 subst h9
 rw [exP_loc h1 (by simp) z, PR.bind_ok, namP_loc h2 z, PR.bind_ok, exP_loc h3 (by simp) z, PR.bind_ok, hT h4 z (ex_ne h5 (by simp)), PR.bind_ok, exP_loc h5 (by simp) z, PR.bind_ok, exP_loc h6 (by simp) z, PR.bind_ok, hT h7 z hz, PR.bind_ok, sh_2]
theorem letG_loc {T : List (List UInt8) → PR Rw} (hT : Loc T) {p : Nat} {l r : List (List UInt8)} {t : Rw} (h : letG T p l = .ok t r) (z : List (List UInt8)) (hz : r = [] → Stp z) : letG T (p + z.length) (l ++ z) = .ok (shR z.length t) (r ++ z) := by
 unfold letG at h ⊢
 obtain ⟨s, r2, h2, h⟩ := PR.bind_get h
 obtain ⟨_, r3, h3, h⟩ := PR.bind_get h
 obtain ⟨a, r4, h4, h⟩ := PR.bind_get h
 obtain ⟨_, r5, h5, h⟩ := PR.bind_get h
 obtain ⟨b, r6, h6, h⟩ := PR.bind_get h
 obtain ⟨_, r7, h7, h⟩ := PR.bind_get h
 obtain ⟨c, r8, h10, h⟩ := PR.bind_get h
 injection h with h8 h9
 subst h8
 subst h9
 rw [namP_loc h2 z, PR.bind_ok, exP_loc h3 (by simp) z, PR.bind_ok, hT h4 z (ex_ne h5 (by simp)), PR.bind_ok, exP_loc h5 (by simp) z, PR.bind_ok, hT h6 z (ex_ne h7 (by simp)), PR.bind_ok, exP_loc h7 (by simp) z, PR.bind_ok, hT h10 z hz, PR.bind_ok, sh_3]
theorem termG_loc {T A : List (List UInt8) → PR Rw} (hT : Loc T) (hA : Loc A) (hT2 : Lt2 T) (hA2 : Lt2 A) : Loc (termG T A) := by
 intro l r t h z hz
 cases l with
 | nil => have := termG_lt hT2 hA2 h; simp at this
 | cons s l =>
  have hlen : (s :: (l ++ z)).length = (s :: l).length + z.length := by simp; omega
  rw [List.cons_append]
  rw [termG_cons] at h ⊢
  rw [hlen]
  by_cases c1 : s = [102, 117, 110]
  ·rw [if_pos c1] at h ⊢
   exact bindG_loc hT h z hz
  rw [if_neg c1] at h ⊢
  by_cases c2 : s = [97, 108, 108]
  ·rw [if_pos c2] at h ⊢
   exact bindG_loc hT h z hz
  rw [if_neg c2] at h ⊢
  by_cases c3 : s = [108, 101, 116]
  ·rw [if_pos c3] at h ⊢
   exact letG_loc hT h z hz
  rw [if_neg c3] at h ⊢
  have h5 := appG_loc hA hA2 h z hz
  rw [List.cons_append] at h5
  exact h5
theorem tf_loc : ∀ (n : Nat) (b : Bool), Loc (tf n b)
 | 0, _ => fun h => by cases h
 | n + 1, true => termG_loc (tf_loc n true) (tf_loc n false) (tf_lt n true) (tf_lt n false)
 | n + 1, false => atomG_loc (tf_loc n true) (tf_loc n false) (tf_lt n true) (tf_lt n false)
end Go.Proofs.Ytdacmogedchnaaa
