/- Levels as plain pairs of a base and four numbers: what layer 7's functions compute, and what the statements say of it. -/
import Derived.Test.YteohjbggicchgaaKGenF
namespace Go.Proofs.Yteohjbggicchgaa
open Go Go.RowKit
set_option maxRecDepth 100000
/-- A level: its base, what is added to each parameter (-1: it does not occur). -/
structure Lv where
 b : Int
 p : List Int
deriving DecidableEq
def Lv.zs (l : Lv) : List Int := l.b :: l.p
def rightL (l : Lv) : Bool := (decide (0 ≤ l.b) && decide (l.b ≤ 100)) && l.p.all fun x => decide (-1 ≤ x) && decide (x ≤ l.b)
theorem right_b {l : Lv} (h : rightL l = true) : 0 ≤ l.b ∧ l.b ≤ 100 := by
 simp only [rightL, Bool.and_eq_true, decide_eq_true_eq] at h
 exact h.1
theorem right_p {l : Lv} (h : rightL l = true) {x : Int} (hx : x ∈ l.p) : -1 ≤ x ∧ x ≤ l.b := by
 simp only [rightL, Bool.and_eq_true, List.all_eq_true, decide_eq_true_eq] at h
 exact h.2 x hx
theorem right_at {l : Lv} (h : rightL l = true) {i : Nat} (hi : i < l.p.length) : -1 ≤ l.p.getD i 0 ∧ l.p.getD i 0 ≤ l.b := by
 rw [List.getD_eq_getElem?_getD, List.getElem?_eq_getElem hi]
 exact right_p h (List.getElem_mem hi)
theorem right_mk {l : Lv} (h0 : 0 ≤ l.b) (h1 : l.b ≤ 100) (h : ∀ x ∈ l.p, -1 ≤ x ∧ x ≤ l.b) : rightL l = true := by
 simp only [rightL, Bool.and_eq_true, List.all_eq_true, decide_eq_true_eq]
 exact ⟨⟨h0, h1⟩, h⟩
/-- A parameter's value, as it counts. -/
def clampL (v : Int) : Int := min (max v 0) 1048576
def valUp (l : Lv) (vals : List Int) : Nat → Int
 | 0 => l.b
 | k + 1 => if l.p.getD k 0 = -1 then valUp l vals k else max (valUp l vals k) (clampL (vals.getD k 0) + l.p.getD k 0)
theorem mem_at {us : List Int} {x : Int} (h : x ∈ us) : ∃ i, i < us.length ∧ us.getD i 0 = x := by
 obtain ⟨i, hi, e⟩ := List.getElem_of_mem h
 exact ⟨i, hi, by simp [List.getD_eq_getElem?_getD, hi, e]⟩
theorem right_all {l : Lv} (hl : l.p.length = 4) (h0 : 0 ≤ l.b) (h1 : l.b ≤ 100) (h : ∀ i, i < 4 → -1 ≤ l.p.getD i 0 ∧ l.p.getD i 0 ≤ l.b) : rightL l = true := by
 refine right_mk h0 h1 fun x hx => ?_
 obtain ⟨i, hi, rfl⟩ := mem_at hx
 exact h i (by omega)
/-- One more than the greatest place. -/
def widthUp (l : Lv) : Nat → Nat
 | 0 => 0
 | k + 1 => if l.p.getD k 0 = -1 then widthUp l k else k + 1
def widthL (l : Lv) : Nat := widthUp l 4
end Go.Proofs.Yteohjbggicchgaa
