/- Terms as bytes, plain: the document's encoding; nothing else has such bytes, and no bytes of one begin those of another. -/
import Derived.Test.YteohjbggicchgaaKTrmW
import Derived.Test.YteohjbggicchgaaKTrmR
namespace Go.Proofs.Yteohjbggicchgaa
open Go Go.RowKit
set_option maxRecDepth 100000
/-- The digits of a number to the base 256, the greatest first; f: fuel. -/
def digs : Nat → Nat → List Int
 | 0, _ => []
 | f + 1, n => if n = 0 then [] else digs f (n / 256) ++ [((n % 256 : Nat) : Int)]
def numB (n : Nat) : List Int := ((digs 8 n).length : Int) :: digs 8 n
def strB (s : List UInt8) : List Int := s.map fun c => (c.toNat : Int)
def textB (s : List UInt8) : List Int := numB s.length ++ strB s
def levelB (l : Lv) : List Int := (l.b % 256) :: l.p.map fun x => (x + 1) % 256
mutual
def termB : Tm → List Int
 | .mk k n s l a => (k % 256) :: ((if k = 1 ∨ k = 9 then numB n.toNat else []) ++ ((if k = 4 ∨ k = 9 then textB s else []) ++ ((if k = 4 then [((l.length % 256 : Nat) : Int)] else []) ++ ((l.map levelB).flatten ++ termsB a))))
def termsB : List Tm → List Int
 | [] => []
 | t :: ts => termB t ++ termsB ts
end
mutual
/-- No variable's number is above 2^40. -/
def nearT : Tm → Prop
 | .mk k n _ _ a => (k = 1 → n ≤ 1099511627776) ∧ nearTs a
def nearTs : List Tm → Prop
 | [] => True
 | t :: ts => nearT t ∧ nearTs ts
end
theorem digs_zero : ∀ f, digs f 0 = []
 | 0 => rfl
 | f + 1 => by rw [digs, if_pos rfl]
/-- The value of digits. -/
def undig (ds : List Int) : Int := ds.foldl (fun a d => a * 256 + d) 0
theorem undig_snoc (ds : List Int) (d : Int) : undig (ds ++ [d]) = undig ds * 256 + d := by simp [undig]
theorem undig_digs : ∀ (f n : Nat), n < 256 ^ f → undig (digs f n) = (n : Int)
 | 0, n, h => by
  obtain rfl : n = 0 := by simpa using h
  rfl
 | f + 1, n, h => by
  rw [digs]
  by_cases h0 : n = 0
  ·rw [if_pos h0, h0]
   rfl
  ·rw [if_neg h0, undig_snoc, undig_digs f (n / 256) (by rw [Nat.pow_succ] at h; omega)]
   omega
theorem strB_len (s : List UInt8) : (strB s).length = s.length := by simp [strB]
theorem levelB_len {l : Lv} (hl : l.p.length = 4) : (levelB l).length = 5 := by simp [levelB, hl]
mutual
/-- Every level of a term has four numbers. -/
def LvT : Tm → Prop
 | .mk _ _ _ l a => (∀ x ∈ l, x.p.length = 4) ∧ LvTs a
def LvTs : List Tm → Prop
 | [] => True
 | t :: ts => LvT t ∧ LvTs ts
end
/-- What a right node's head says of its bytes. -/
theorem head_parts {p deep k n : Int} {s : List UInt8} {l : List Lv} {a : Nat} (h : headT wordB p deep k n s l a = true) : (1 ≤ k ∧ k ≤ 9) ∧ a = argsOf k ∧ (if k = 3 then l.length = 1 else if k = 4 then l.length ≤ 4 else l.length = 0) ∧ (∀ x ∈ l, rightL x = true) ∧ (if k = 4 ∨ k = 9 then wordB s = true else s = []) ∧ 0 ≤ n ∧ (k ≠ 1 → k ≠ 9 → n = 0) ∧ (k = 9 → n ≤ 31) := by
 unfold headT at h
 simp only [Bool.and_eq_true, decide_eq_true_eq] at h
 obtain ⟨⟨⟨⟨⟨⟨⟨⟨h1, h2⟩, -⟩, h3⟩, h4⟩, h5⟩, h6⟩, h7⟩, h8⟩ := h
 refine ⟨⟨h1, h2⟩, h3, ?_, fun x hx => ?_, ?_, h7, fun a1 a9 => ?_, fun a9 => ?_⟩
 ·by_cases c3 : k = 3
  ·rw [if_pos c3] at h4 ⊢; simpa using h4
  ·rw [if_neg c3] at h4 ⊢
   by_cases c4 : k = 4
   ·rw [if_pos c4] at h4 ⊢; simpa using h4
   ·rw [if_neg c4] at h4 ⊢; simpa using h4
 ·have := List.all_eq_true.1 h5 x hx
  simp only [Bool.and_eq_true] at this
  exact this.1
 ·by_cases c : k = 4 ∨ k = 9
  ·rw [if_pos c] at h6 ⊢; exact h6
  ·rw [if_neg c] at h6 ⊢; simpa using h6
 ·rw [if_neg a9, if_neg a1] at h8
  simpa using h8
 ·rw [if_pos a9] at h8
  simpa using h8
theorem word_len {s : List UInt8} (h : wordB s = true) : s.length ≤ 32 := by
 unfold wordB at h
 simp only [Bool.and_eq_true, decide_eq_true_eq] at h
 exact h.1.1
theorem right_argsC {wo : List UInt8 → Bool} {p v deep k n : Int} {s : List UInt8} {l : List Lv} {a : List Tm} (h : rightT wo p v deep (.mk k n s l a) = true) : headT wo p deep k n s l a.length = true ∧ (k = 1 → n < v) ∧ rightTs wo p v deep k 0 a = true := by
 simp only [rightT, Bool.and_eq_true] at h
 obtain ⟨⟨h1, h2⟩, h3⟩ := h
 exact ⟨h1, fun hk => by simpa [hk] using h2, h3⟩
end Go.Proofs.Yteohjbggicchgaa
