/- What the plain parser's functions take, and how great what they tell is. -/
import Derived.Test.YtdacmogedchnaaaQPrsA
namespace Go.Proofs.Ytdacmogedchnaaa
open Go Go.RowKit
set_option maxRecDepth 100000
theorem tail_lt {l : List (List UInt8)} (h : nx l ≠ []) : l.tail.length + 1 = l.length := by
 cases l with
 | nil => exact absurd rfl h
 | cons s l => simp
theorem exP_ok {s : List UInt8} {l r : List (List UInt8)} {x : Unit} (h : exP s l = .ok x r) : nx l = s ∧ r = l.tail := by
 unfold exP at h
 split at h
 ·next h1 => injection h with _ h2; exact ⟨h1, h2.symm⟩
 ·cases h
theorem exP_lt {s : List UInt8} {l r : List (List UInt8)} {x : Unit} (h : exP s l = .ok x r) (h0 : s ≠ []) : r.length + 1 = l.length := by
 obtain ⟨h1, rfl⟩ := exP_ok h
 exact tail_lt (by rw [h1]; exact h0)
theorem namP_ok {l r : List (List UInt8)} {x : List UInt8} (h : namP l = .ok x r) : wordB (nx l) = true ∧ x = nx l ∧ r = l.tail := by
 unfold namP at h
 split at h
 ·next h1 => injection h with h2 h3; exact ⟨h1, h2.symm, h3.symm⟩
 ·cases h
theorem word_ne {s : List UInt8} (h : wordB s = true) : s ≠ [] := fun e => by subst e; exact absurd h (by decide)
theorem namP_lt {l r : List (List UInt8)} {x : List UInt8} (h : namP l = .ok x r) : r.length + 1 = l.length := by
 obtain ⟨h1, -, rfl⟩ := namP_ok h
 exact tail_lt (word_ne h1)
theorem num_ne {s : List UInt8} {n : Nat} (h : numO s = some n) : s ≠ [] := fun e => by subst e; exact absurd h (by simp [show numO [] = none from rfl])
theorem numQ_ok {l r : List (List UInt8)} {n : Nat} (h : numQ l = .ok n r) : numO (nx l) = some n ∧ r = l.tail := by
 unfold numQ at h
 split at h
 ·next m h1 => injection h with h2 h3; exact ⟨h2 ▸ h1, h3.symm⟩
 ·cases h
theorem numQ_lt {l r : List (List UInt8)} {n : Nat} (h : numQ l = .ok n r) : r.length + 1 = l.length := by
 obtain ⟨h1, rfl⟩ := numQ_ok h
 exact tail_lt (num_ne h1)
theorem numTo_ok {m : Nat} {l r : List (List UInt8)} {n : Nat} (h : numTo m l = .ok n r) : numO (nx l) = some n ∧ n ≤ m ∧ r = l.tail := by
 unfold numTo at h
 split at h
 ·next k h1 =>
  split at h
  ·next h4 => injection h with h2 h3; subst h2; exact ⟨h1, h4, h3.symm⟩
  ·cases h
 ·cases h
theorem numTo_lt {m : Nat} {l r : List (List UInt8)} {n : Nat} (h : numTo m l = .ok n r) : r.length + 1 = l.length := by
 obtain ⟨h1, -, rfl⟩ := numTo_ok h
 exact tail_lt (num_ne h1)
theorem rightP1_ok {n p : Nat} {l r : List (List UInt8)} {x : Unit} (h : rightP1 n p l = .ok x r) : n ≤ 100 ∧ r = l := by
 unfold rightP1 at h
 split at h
 ·next h1 => injection h with _ h2; exact ⟨h1, h2.symm⟩
 ·cases h
theorem us4_ne {s : List UInt8} (h : s ∈ us4) : s ≠ [] := fun e => by subst e; exact absurd h (by decide)
theorem partP_lt {b : Bool} {l r : List (List UInt8)} {x : Unit} (h : partP b l = .ok x r) : r.length + 1 ≤ l.length := by
 unfold partP at h
 split at h
 ·next h1 =>
  have ht := tail_lt (us4_ne h1)
  obtain ⟨n, r1, h2, h3⟩ := PR.bind_get h
  obtain ⟨-, rfl⟩ := rightP1_ok h3
  split at h2
  ·next h4 =>
   have h5 := numQ_lt h2
   have h6 := tail_lt (l := l.tail) (by rw [h4.2]; simp)
   omega
  ·injection h2 with _ h5
   rw [← h5]
   omega
 ·obtain ⟨n, r1, h2, h3⟩ := PR.bind_get h
  obtain ⟨-, rfl⟩ := rightP1_ok h3
  have := numQ_lt h2
  omega
theorem lvLoop_le : ∀ (f : Nat) {l r : List (List UInt8)} {x : Unit}, lvLoop f l = .ok x r → r.length ≤ l.length
 | 0, _, _, _, h => by cases h
 | f + 1, l, r, x, h => by
  rw [lvLoop] at h
  split at h
  ·next h1 =>
   have ht := tail_lt (l := l) (by rw [h1]; simp)
   obtain ⟨_, r1, h2, h3⟩ := PR.bind_get h
   have := partP_lt h2
   have := lvLoop_le f h3
   omega
  ·injection h with _ h2
   rw [h2]
   exact Nat.le_refl _
theorem levelQ_lt {l r : List (List UInt8)} {x : Unit} (h : levelQ l = .ok x r) : r.length + 1 ≤ l.length := by
 unfold levelQ at h
 obtain ⟨_, r1, h2, h3⟩ := PR.bind_get h
 have := partP_lt h2
 have := lvLoop_le FU h3
 omega
theorem lvsLoop_le : ∀ (k c : Nat) {l r : List (List UInt8)} {x : Nat}, lvsLoop k c l = .ok x r → r.length + 2 * x ≤ l.length + 2 * c ∧ x ≤ c + k
 | 0, _, _, _, _, h => by
  rw [lvsLoop] at h
  injection h with h1 h2
  subst h1
  subst h2
  omega
 | k + 1, c, l, r, x, h => by
  rw [lvsLoop] at h
  split at h
  ·next h1 =>
   have ht := tail_lt (l := l) (by rw [h1]; simp)
   obtain ⟨_, r1, h2, h3⟩ := PR.bind_get h
   have := levelQ_lt h2
   have := lvsLoop_le k (c + 1) h3
   omega
  ·injection h with h1 h2
   subst h1
   subst h2
   omega
theorem levelsQ_lt {l r : List (List UInt8)} {c : Nat} (h : levelsQ l = .ok c r) : r.length + 2 * c ≤ l.length ∧ c ≤ 4 := by
 unfold levelsQ at h
 obtain ⟨_, r1, h2, h⟩ := PR.bind_get h
 obtain ⟨c1, r2, h3, h⟩ := PR.bind_get h
 obtain ⟨_, r3, h4, h⟩ := PR.bind_get h
 injection h with h5 h6
 subst h5
 subst h6
 have := levelQ_lt h2
 have := lvsLoop_le 3 1 h3
 have := exP_lt h4 (by simp)
 omega
theorem tlevelP_lt {l r : List (List UInt8)} {x : Unit} (h : tlevelP l = .ok x r) : r.length + 1 ≤ l.length := by
 unfold tlevelP at h
 split at h
 ·next h1 =>
  have ht := tail_lt (l := l) (by rw [h1]; simp)
  obtain ⟨_, r1, h2, h⟩ := PR.bind_get h
  obtain ⟨_, r2, h3, h⟩ := PR.bind_get h
  injection h with h5 h6
  subst h6
  have := levelQ_lt h2
  have := exP_lt h3 (by simp)
  omega
 ·exact partP_lt h
/-- What is told takes more tokens than half its nodes. -/
def Lt2 (T : List (List UInt8) → PR Rw) : Prop := ∀ {l r : List (List UInt8)} {t : Rw}, T l = .ok t r → nodesR t + 2 * r.length + 1 ≤ 2 * l.length
theorem atomG_lt {T A : List (List UInt8) → PR Rw} (hT : Lt2 T) (hA : Lt2 A) : Lt2 (atomG T A) := by
 intro l r t h
 unfold atomG at h
 split at h
 ·next h1 =>
  have ht := tail_lt (l := l) (by rw [h1]; simp)
  injection h with h5 h6
  subst h5
  subst h6
  rw [nodesR, nodesRs]
  omega
 split at h
 ·next h1 =>
  have ht := tail_lt (l := l) (by rw [h1]; simp)
  obtain ⟨_, r1, h2, h⟩ := PR.bind_get h
  injection h with h5 h6
  subst h5
  subst h6
  have := tlevelP_lt h2
  rw [nodesR, nodesRs]
  omega
 split at h
 ·next h1 =>
  have ht := tail_lt (l := l) (by rw [h1]; simp)
  obtain ⟨_, r1, h2, h⟩ := PR.bind_get h
  obtain ⟨_, r2, h3, h⟩ := PR.bind_get h
  obtain ⟨_, r3, h4, h⟩ := PR.bind_get h
  obtain ⟨a, r4, h5, h⟩ := PR.bind_get h
  obtain ⟨_, r5, h6, h⟩ := PR.bind_get h
  injection h with h7 h8
  subst h7
  subst h8
  have := numTo_lt h2
  have := exP_lt h3 (by simp)
  have := namP_lt h4
  have := hA h5
  have := exP_lt h6 (by simp)
  rw [nodesR, nodesRs, nodesRs]
  omega
 split at h
 ·next h1 =>
  have ht := tail_lt (l := l) (by rw [h1]; simp)
  obtain ⟨a, r1, h2, h⟩ := PR.bind_get h
  obtain ⟨_, r2, h3, h⟩ := PR.bind_get h
  injection h with h7 h8
  subst h7
  subst h8
  have := hT h2
  have := exP_lt h3 (by simp)
  omega
 ·obtain ⟨s, r1, h2, h⟩ := PR.bind_get h
  have := namP_lt h2
  split at h
  ·next h1 =>
   have ht := tail_lt (l := r1) (by rw [h1]; simp)
   obtain ⟨c, r2, h3, h⟩ := PR.bind_get h
   injection h with h7 h8
   subst h7
   subst h8
   have := (levelsQ_lt h3).1
   rw [nodesR, nodesRs]
   omega
  ·injection h with h7 h8
   subst h7
   subst h8
   rw [nodesR, nodesRs]
   omega
theorem appLoop_lt {A : List (List UInt8) → PR Rw} (hA : Lt2 A) (p : Nat) : ∀ (f : Nat) (t0 : Rw) {l r : List (List UInt8)} {t : Rw}, appLoop A p f t0 l = .ok t r → nodesR t + 2 * r.length ≤ nodesR t0 + 2 * l.length
 | 0, _, _, _, _, h => by cases h
 | f + 1, t0, l, r, t, h => by
  rw [appLoop] at h
  split at h
  ·obtain ⟨a, r1, h2, h⟩ := PR.bind_get h
   have h3 := hA h2
   have h4 := appLoop_lt hA p f _ h
   rw [nodesR, nodesRs, nodesRs, nodesRs] at h4
   omega
  ·injection h with h7 h8
   subst h7
   subst h8
   exact Nat.le_refl _
theorem appG_lt {A : List (List UInt8) → PR Rw} (hA : Lt2 A) : Lt2 (appG A) := by
 intro l r t h
 unfold appG at h
 obtain ⟨a, r1, h2, h⟩ := PR.bind_get h
 have := hA h2
 have := appLoop_lt hA _ _ _ h
 omega
theorem bindG_lt {T : List (List UInt8) → PR Rw} (hT : Lt2 T) {k p : Nat} {l r : List (List UInt8)} {t : Rw} (h : bindG T k p l = .ok t r) : nodesR t + 2 * r.length + 1 ≤ 2 * l.length := by
 unfold bindG at h
 obtain ⟨_, r1, h1, h⟩ := PR.bind_get h
 obtain ⟨s, r2, h2, h⟩ := PR.bind_get h
 obtain ⟨_, r3, h3, h⟩ := PR.bind_get h
 obtain ⟨a, r4, h4, h⟩ := PR.bind_get h
 obtain ⟨_, r5, h5, h⟩ := PR.bind_get h
 obtain ⟨_, r6, h6, h⟩ := PR.bind_get h
 obtain ⟨b, r7, h7, h⟩ := PR.bind_get h
 injection h with h8 h9
 subst h8
 subst h9
 have := exP_lt h1 (by simp)
 have := namP_lt h2
 have := exP_lt h3 (by simp)
 have := hT h4
 have := exP_lt h5 (by simp)
 have := exP_lt h6 (by simp)
 have := hT h7
 rw [nodesR, nodesRs, nodesRs, nodesRs]
 omega
theorem letG_lt {T : List (List UInt8) → PR Rw} (hT : Lt2 T) {p : Nat} {l r : List (List UInt8)} {t : Rw} (h : letG T p l = .ok t r) : nodesR t + 2 * r.length + 1 ≤ 2 * l.length := by
 unfold letG at h
 obtain ⟨s, r2, h2, h⟩ := PR.bind_get h
 obtain ⟨_, r3, h3, h⟩ := PR.bind_get h
 obtain ⟨a, r4, h4, h⟩ := PR.bind_get h
 obtain ⟨_, r5, h5, h⟩ := PR.bind_get h
 obtain ⟨b, r6, h6, h⟩ := PR.bind_get h
 obtain ⟨_, r7, h7, h⟩ := PR.bind_get h
 obtain ⟨c, r8, h10, h⟩ := PR.bind_get h
 injection h with h8 h9
 subst h8
 subst h9
 have := namP_lt h2
 have := exP_lt h3 (by simp)
 have := hT h4
 have := exP_lt h5 (by simp)
 have := hT h6
 have := exP_lt h7 (by simp)
 have := hT h10
 rw [nodesR, nodesRs, nodesRs, nodesRs, nodesRs]
 omega
theorem termG_lt {T A : List (List UInt8) → PR Rw} (hT : Lt2 T) (hA : Lt2 A) : Lt2 (termG T A) := by
 intro l r t h
 unfold termG at h
 split at h
 ·next h1 =>
  have ht := tail_lt (l := l) (by rw [h1]; simp)
  have := bindG_lt hT h
  omega
 split at h
 ·next h1 =>
  have ht := tail_lt (l := l) (by rw [h1]; simp)
  have := bindG_lt hT h
  omega
 split at h
 ·next h1 =>
  have ht := tail_lt (l := l) (by rw [h1]; simp)
  have := letG_lt hT h
  omega
 ·exact appG_lt hA h
theorem tf_lt : ∀ (n : Nat) (b : Bool), Lt2 (tf n b)
 | 0, _ => fun h => by cases h
 | n + 1, true => termG_lt (tf_lt n true) (tf_lt n false)
 | n + 1, false => atomG_lt (tf_lt n true) (tf_lt n false)
theorem wholeP_ok {l r : List (List UInt8)} {t : Rw} (h : wholeP l = .ok t r) : tf FU true l = .ok t r ∧ nodesR t ≤ 3000 := by
 unfold wholeP at h
 obtain ⟨a, r1, h2, h⟩ := PR.bind_get h
 split at h
 ·next h1 =>
  injection h with h7 h8
  subst h7
  subst h8
  exact ⟨h2, h1⟩
 ·cases h
theorem wholeP_lt {l r : List (List UInt8)} {t : Rw} (h : wholeP l = .ok t r) : r.length + 1 ≤ l.length := by
 have := tf_lt FU true (wholeP_ok h).1
 omega
theorem kind_ne {s : List UInt8} (h : ¬ kindOf s = 0) : s ≠ [] := fun e => by subst e; exact h (by decide)
theorem ctorP_lt {l r : List (List UInt8)} {c : Ct} (h : ctorP l = .ok c r) : r.length + 1 ≤ l.length := by
 unfold ctorP at h
 obtain ⟨s, r1, h1, h⟩ := PR.bind_get h
 obtain ⟨_, r2, h2, h⟩ := PR.bind_get h
 obtain ⟨t, r3, h3, h⟩ := PR.bind_get h
 injection h with h7 h8
 subst h8
 have := namP_lt h1
 have := exP_lt h2 (by simp)
 have := wholeP_lt h3
 omega
theorem ctLoop_le : ∀ (f : Nat) (cs : List Ct) {l r : List (List UInt8)} {ds : List Ct}, ctLoop f cs l = .ok ds r → r.length ≤ l.length
 | 0, _, _, _, _, h => by cases h
 | f + 1, cs, l, r, ds, h => by
  rw [ctLoop] at h
  split at h
  ·next h1 =>
   have ht := tail_lt (l := l) (by rw [h1]; simp)
   split at h
   ·obtain ⟨c, r1, h2, h⟩ := PR.bind_get h
    have := ctorP_lt h2
    have := ctLoop_le f _ h
    omega
   ·cases h
  ·injection h with h7 h8
   subst h8
   exact Nat.le_refl _
theorem ctorsP_le {l r : List (List UInt8)} {ds : List Ct} (h : ctorsP l = .ok ds r) : r.length ≤ l.length := by
 unfold ctorsP at h
 obtain ⟨c, r1, h1, h⟩ := PR.bind_get h
 have := ctorP_lt h1
 have := ctLoop_le _ _ h
 omega
theorem parsP_le {l r : List (List UInt8)} {n : Nat} (h : parsP l = .ok n r) : r.length ≤ l.length := by
 unfold parsP at h
 split at h
 ·have := numTo_lt h
  have := List.length_tail (l := l)
  omega
 ·injection h with h7 h8
  subst h8
  exact Nat.le_refl _
theorem fixP_le {k : Nat} {l r : List (List UInt8)} {n : Nat} (h : fixP k l = .ok n r) : r.length ≤ l.length := by
 unfold fixP at h
 split at h
 ·obtain ⟨_, r1, h1, h⟩ := PR.bind_get h
  have := exP_lt h1 (by simp)
  have := numTo_lt h
  omega
 ·injection h with h7 h8
  subst h8
  exact Nat.le_refl _
theorem valP_le {k : Nat} {l r : List (List UInt8)} {n : Rw × List Ct} (h : valP k l = .ok n r) : r.length ≤ l.length := by
 unfold valP at h
 split at h
 ·obtain ⟨_, r1, h1, h⟩ := PR.bind_get h
  obtain ⟨t, r2, h2, h⟩ := PR.bind_get h
  injection h with h7 h8
  subst h8
  have := exP_lt h1 (by simp)
  have := wholeP_lt h2
  omega
 split at h
 ·split at h
  ·obtain ⟨_, r1, h1, h⟩ := PR.bind_get h
   injection h with h7 h8
   subst h8
   have := ctorsP_le h1
   have := List.length_tail (l := l)
   omega
  ·injection h with h7 h8
   subst h8
   exact Nat.le_refl _
 ·injection h with h7 h8
  subst h8
  exact Nat.le_refl _
theorem declQ_lt {l r : List (List UInt8)} {d : Dl} (h : declQ l = .ok d r) : r.length + 1 ≤ l.length := by
 unfold declQ at h
 split at h
 ·cases h
 ·next h0 =>
  have ht := tail_lt (kind_ne h0)
  obtain ⟨s, r1, h1, h⟩ := PR.bind_get h
  obtain ⟨ps, r2, h2, h⟩ := PR.bind_get h
  obtain ⟨fx, r3, h3, h⟩ := PR.bind_get h
  obtain ⟨_, r4, h4, h⟩ := PR.bind_get h
  obtain ⟨ty, r5, h5, h⟩ := PR.bind_get h
  obtain ⟨vc, r6, h6, h⟩ := PR.bind_get h
  obtain ⟨_, r7, h7, h⟩ := PR.bind_get h
  injection h with h8 h9
  subst h9
  have := namP_lt h1
  have := parsP_le h2
  have := fixP_le h3
  have := exP_lt h4 (by simp)
  have := wholeP_lt h5
  have := valP_le h6
  have := exP_lt h7 (by simp)
  omega
end Go.Proofs.Ytdacmogedchnaaa
