import Derived.Test.YtdacmogedchnaaaRows
import Derived.Test.YtdacmogedchnaaaQGenT
import Derived.ProofKit
import Derived.OpenShut
import Derived.ChangeOld
import Derived.SizedLaws
import Derived.Deep.Matrix
import Derived.Deep.Slices
import Derived.Deep.DeepHandedRow
namespace Go.Proofs.Ytdacmogedchnaaa
open Go.ChangeShapes Go.WideShapes Go.ChangeAt Go.RowKit Go.Deep
set_option maxRecDepth 100000
theorem own : ownKnob Try.prog.godebug = none := by kernel_rfl
end Go.Proofs.Ytdacmogedchnaaa
namespace Go.Proofs.Ytdacmogedchnaaa
open Go Go.RowKit
set_option maxRecDepth 100000
structure Lv where
 b : Int
 p : List Int
deriving DecidableEq
def Lv.zs (l : Lv) : List Int := l.b :: l.p
def rightL (l : Lv) : Bool := (decide (0 ≤ l.b) && decide (l.b ≤ 100)) && l.p.all fun x => decide (-1 ≤ x) && decide (x ≤ l.b)
theorem right_p {l : Lv} (h : rightL l = true) {x : Int} (hx : x ∈ l.p) : -1 ≤ x ∧ x ≤ l.b := by
 simp only [rightL, Bool.and_eq_true, List.all_eq_true, decide_eq_true_eq] at h
 exact h.2 x hx
theorem right_at {l : Lv} (h : rightL l = true) {i : Nat} (hi : i < l.p.length) : -1 ≤ l.p.getD i 0 ∧ l.p.getD i 0 ≤ l.b := by
 rw [List.getD_eq_getElem?_getD, List.getElem?_eq_getElem hi]
 exact right_p h (List.getElem_mem hi)
theorem right_mk {l : Lv} (h0 : 0 ≤ l.b) (h1 : l.b ≤ 100) (h : ∀ x ∈ l.p, -1 ≤ x ∧ x ≤ l.b) : rightL l = true := by
 simp only [rightL, Bool.and_eq_true, List.all_eq_true, decide_eq_true_eq]
 exact ⟨⟨h0, h1⟩, h⟩
def numL (n : Int) : Lv := ⟨n, [-1, -1, -1, -1]⟩
theorem right_num {n : Int} (h0 : 0 ≤ n) (h1 : n ≤ 100) : rightL (numL n) = true := by
 refine right_mk h0 h1 fun x hx => ?_
 simp [numL] at hx ⊢
 omega
def max2 (a b : Lv) : Lv := ⟨max a.b b.b, List.zipWith max a.p b.p⟩
def maxRow : List Lv → Lv → Lv
 | [], g => g
 | l :: ls, g => maxRow ls (max2 g l)
def maxL (ls : List Lv) : Lv := if ls.all rightL then maxRow ls (numL 0) else numL (-1)
theorem mem_at {us : List Int} {x : Int} (h : x ∈ us) : ∃ i, i < us.length ∧ us.getD i 0 = x := by
 obtain ⟨i, hi, e⟩ := List.getElem_of_mem h
 exact ⟨i, hi, by simp [List.getD_eq_getElem?_getD, hi, e]⟩
theorem max2_len {a b : Lv} (ha : a.p.length = 4) (hb : b.p.length = 4) : (max2 a b).p.length = 4 := by simp [max2, ha, hb]
theorem right_all {l : Lv} (hl : l.p.length = 4) (h0 : 0 ≤ l.b) (h1 : l.b ≤ 100) (h : ∀ i, i < 4 → -1 ≤ l.p.getD i 0 ∧ l.p.getD i 0 ≤ l.b) : rightL l = true := by
 refine right_mk h0 h1 fun x hx => ?_
 obtain ⟨i, hi, rfl⟩ := mem_at hx
 exact h i (by omega)
theorem maxL_wrong {ls : List Lv} (h : ls.all rightL = false) : maxL ls = numL (-1) := by
 rw [maxL, if_neg (by rw [h]; decide)]
end Go.Proofs.Ytdacmogedchnaaa
namespace Go.Proofs.Ytdacmogedchnaaa
open Go Go.RowKit
set_option maxRecDepth 100000
def strT (l : List UInt8) : Value := .string ⟨l.toArray⟩
def LvsOff (F : List Nat) (w : World) (v : Value) (ls : List Lv) : Prop :=
 ∃ a cap, v = .slice a ls.length cap ∧ ls.length ≤ cap ∧ ls.length ≤ 9223372036854775807 ∧ (∀ l ∈ ls, l.p.length = 4) ∧ (0 < ls.length → ∃ pb po, a = some ⟨pb, po, none⟩ ∧ pb ∉ F ∧ pb < w.heap.size ∧ ∀ (i : Nat) (l : Lv), ls[i]? = some l → w.rangeAt pb (po + 5 * i) (ints .i64 l.zs))
theorem Step.range {F F' : List Nat} {w w' : World} (hs : Step F w F' w') {pb o : Nat} {cs : List Value} (hb : pb < w.heap.size) (hF : pb ∉ F) (h : w.rangeAt pb o cs) : w'.rangeAt pb o cs := fun j u hu => by
 rw [World.cell?_of_block (w := w) (a := ⟨pb, o + j, none⟩) (hs.block pb hb hF)]
 exact h j u hu
theorem LvsOff.step {F F' : List Nat} {w w' : World} {v : Value} {ls : List Lv} (h : LvsOff F w v ls) (hs : Step F w F' w') : LvsOff F' w' v ls := by
 obtain ⟨a, cap, h1, h2, h3, h4, h5⟩ := h
 refine ⟨a, cap, h1, h2, h3, h4, fun hp => ?_⟩
 obtain ⟨pb, po, e, hF, hb, hr⟩ := h5 hp
 exact ⟨pb, po, e, hs.off hb hF, Nat.lt_of_lt_of_le hb hs.size, fun i l hi => hs.range hb hF (hr i l hi)⟩
theorem LvsOff.sub {F G : List Nat} {w : World} {v : Value} {ls : List Lv} (h : LvsOff F w v ls) (hG : ∀ k ∈ G, k ∈ F ∨ w.heap.size ≤ k) : LvsOff G w v ls := by
 obtain ⟨a, cap, h1, h2, h3, h4, h5⟩ := h
 refine ⟨a, cap, h1, h2, h3, h4, fun hp => ?_⟩
 obtain ⟨pb, po, e, hF, hb, hr⟩ := h5 hp
 exact ⟨pb, po, e, fun hc => by rcases hG pb hc with h | h; exact hF h; omega, hb, hr⟩
theorem LvsOff.nil (F : List Nat) (w : World) (a : Option Addr) (c : Nat) : LvsOff F w (.slice a 0 c) [] := ⟨a, c, rfl, Nat.zero_le _, by simp, fun l h => by simp at h, fun h => by simp at h⟩
theorem LvsOff.slice {F : List Nat} {w : World} {ls : List Lv} {v : Value} (h : LvsOff F w v ls) : ∃ a cap, v = .slice a ls.length cap := by
 obtain ⟨a, cap, h1, -⟩ := h
 exact ⟨a, cap, h1⟩
end Go.Proofs.Ytdacmogedchnaaa
namespace Go.Proofs.Ytdacmogedchnaaa
open Go Go.RowKit
set_option maxRecDepth 100000
def letterB (c : UInt8) : Bool := (decide (97 ≤ c.toNat) && decide (c.toNat ≤ 122)) || (decide (65 ≤ c.toNat) && decide (c.toNat ≤ 90))
def digitB (c : UInt8) : Bool := decide (48 ≤ c.toNat) && decide (c.toNat ≤ 57)
def partsB : Bool → List UInt8 → Bool
 | b, [] => !b
 | true, c :: cs => letterB c && partsB false cs
 | false, c :: cs => if c = 46 then partsB true cs else (letterB c || digitB c || decide (c = 95)) && partsB false cs
end Go.Proofs.Ytdacmogedchnaaa
