/- Sectors, marks and records as lists of bytes: plain definitions and lemmas; nothing about the program. -/
import Derived.Test.YtngpmilojfbpmaaDoorDskFl
import Derived.Test.YtngpmilojfbpmaaDoorShaSpec
namespace Go.Proofs.YtngpmilojfbpmaaDoor
open Go Go.RowKit

/-- A number as so many bytes, the most significant one first. -/
def beB : Nat → Nat → List Int
  | 0, _ => []
  | k + 1, n => beB k (n / 256) ++ [((n % 256 : Nat) : Int)]
theorem beB_length : ∀ k n, (beB k n).length = k
  | 0, _ => rfl
  | k + 1, n => by rw [beB, List.length_append, beB_length k]; rfl
theorem beB_head : ∀ m n, beB (m + 1) n = ((n / 256 ^ m % 256 : Nat) : Int) :: beB m n
  | 0, n => by simp [beB]
  | m + 1, n => by
    have e : beB (m + 1) n = beB m (n / 256) ++ [((n % 256 : Nat) : Int)] := rfl
    rw [beB, beB_head m (n / 256), List.cons_append, ← e, Nat.div_div_eq_div_mul, show 256 * 256 ^ m = 256 ^ (m + 1) by rw [Nat.pow_succ, Nat.mul_comm]]
theorem beB_bytes : ∀ k n, isBytes (beB k n)
  | 0, _ => fun x hx => by simp [beB] at hx
  | k + 1, n => fun x hx => by
    rcases List.mem_append.1 (by rw [beB] at hx; exact hx) with h | h
    · exact beB_bytes k _ x h
    · obtain rfl := List.mem_singleton.1 h
      have := Nat.mod_lt n (show 256 > 0 by decide)
      omega
theorem snoc_ind {P : List Int → Prop} (h0 : P []) (h1 : ∀ l x, P l → P (l ++ [x])) (l : List Int) : P l := by
  have h : ∀ k : List Int, P k.reverse := fun k => by
    induction k with
    | nil => exact h0
    | cons x k ih => rw [List.reverse_cons]; exact h1 _ x ih
  have := h l.reverse
  rwa [List.reverse_reverse] at this
/-- The number of bytes. -/
def numB (l : List Int) : Int := l.foldl (fun n b => n * 256 + b) 0
theorem numB_snoc (l : List Int) (x : Int) : numB (l ++ [x]) = numB l * 256 + x := by simp [numB]
theorem numB_range {l : List Int} (h : isBytes l) : 0 ≤ numB l ∧ numB l < 256 ^ l.length := by
  revert h
  refine snoc_ind (P := fun l => isBytes l → 0 ≤ numB l ∧ numB l < 256 ^ l.length) (fun _ => by simp [numB]) (fun l x ih h => ?_) l
  · have h1 := ih (fun y hy => h y (by simp [hy]))
    have h2 := h x (by simp)
    rw [numB_snoc, List.length_append, List.length_singleton, Int.pow_succ]
    omega
theorem numB_beB : ∀ k n, n < 256 ^ k → numB (beB k n) = (n : Int)
  | 0, n, h => by simp at h; subst h; rfl
  | k + 1, n, h => by
    rw [beB, numB_snoc, numB_beB k (n / 256) (by rw [Nat.pow_succ] at h; omega)]
    omega
theorem beB_numB {l : List Int} (h : isBytes l) : beB l.length (numB l).toNat = l := by
  revert h
  refine snoc_ind (P := fun l => isBytes l → beB l.length (numB l).toNat = l) (fun _ => rfl) (fun l x ih h => ?_) l
  · have h0 : isBytes l := fun y hy => h y (by simp [hy])
    have h1 := numB_range h0
    have h2 := h x (by simp)
    rw [numB_snoc, List.length_append, List.length_singleton, beB]
    have e1 : (numB l * 256 + x).toNat / 256 = (numB l).toNat := by omega
    have e2 : (((numB l * 256 + x).toNat % 256 : Nat) : Int) = x := by omega
    rw [e1, e2, ih h0]
theorem beB_inj {k a b : Nat} (ha : a < 256 ^ k) (hb : b < 256 ^ k) (h : beB k a = beB k b) : a = b := by
  have h1 := numB_beB k a ha
  rw [h, numB_beB k b hb] at h1
  omega
theorem set_splice (cur vs : List Value) (o : Nat) (v : Value) (ho : 0 < o) (h : o + vs.length ≤ cur.length) : (splice cur o vs).set (o - 1) v = splice cur (o - 1) (v :: vs) := by
  obtain ⟨o, rfl⟩ : ∃ k, o = k + 1 := ⟨o - 1, by omega⟩
  rw [Nat.add_sub_cancel]
  unfold splice
  rw [List.append_assoc, List.set_append_left _ _ (by rw [List.length_take]; omega), List.length_cons, show o + (vs.length + 1) = o + 1 + vs.length by omega]
  have e : (cur.take (o + 1)).set o v = cur.take o ++ [v] := by
    rw [List.take_succ_eq_append_getElem (by omega), List.set_append_right _ _ (by rw [List.length_take]; omega), List.length_take, show o - min o cur.length = 0 by omega]
    rfl
  rw [e]
  simp
/-- A mark. -/
def markP (gen num : Nat) : List Int := beB 4 gen ++ beB 4 num
theorem markP_length (gen num : Nat) : (markP gen num).length = 8 := by rw [markP, List.length_append, beB_length, beB_length]
theorem markP_bytes (gen num : Nat) : isBytes (markP gen num) := fun x hx => by
  rcases List.mem_append.1 hx with h | h
  · exact beB_bytes _ _ x h
  · exact beB_bytes _ _ x h
/-- The sector of a mark and of record bytes. -/
def sectorP (m data : List Int) : List Int := m ++ (beB 2 data.length ++ (data ++ (zeros (46 - data.length) ++ m)))
theorem sectorP_length {m data : List Int} (hm : m.length = 8) (hd : data.length ≤ 46) : (sectorP m data).length = 64 := by
  unfold sectorP
  simp only [List.length_append, beB_length, zeros_length, hm]
  omega
theorem zeros_bytes (n : Nat) : isBytes (zeros n) := fun x hx => by
  rw [zeros, List.mem_replicate] at hx
  omega
theorem sectorP_bytes {m data : List Int} (hm : isBytes m) (hd : isBytes data) : isBytes (sectorP m data) := fun x hx => by
  simp only [sectorP, List.mem_append] at hx
  rcases hx with h | h | h | h | h
  · exact hm x h
  · exact beB_bytes _ _ x h
  · exact hd x h
  · exact zeros_bytes _ x h
  · exact hm x h
/-- How many sectors. -/
def needN (n : Nat) : Nat := (n + 79) / 46
def needI (n : Int) : Int := if n < 0 ∨ 2000 < n then 0 else (n + 79) / 46
theorem needI_nat (n : Nat) (h : n ≤ 2000) : needI (n : Int) = (needN n : Int) := by
  unfold needI needN
  rw [if_neg (by omega)]
  omega
theorem needI_no (n : Int) (h : n < 0 ∨ 2000 < n) : needI n = 0 := if_pos h
theorem needN_pos (n : Nat) : 1 ≤ needN n := by unfold needN; omega
theorem needN_le (n : Nat) (h : n ≤ 2000) : needN n ≤ 45 := by unfold needN; omega
/-- A record with its length and its digest. -/
def recB (rec : List Int) : List Int := (beB 2 rec.length ++ rec) ++ Sha.sum (beB 2 rec.length ++ rec)
theorem recB_length (rec : List Int) : (recB rec).length = rec.length + 34 := by
  unfold recB
  rw [List.length_append, List.length_append, beB_length, Sha.sum_length]
  omega
theorem sum_bytes (l : List Int) : isBytes (Sha.sum l) := fun x hx => by
  obtain ⟨i, hi, rfl⟩ := List.mem_iff_getElem.1 hx
  have h1 := Sha.digest_get (Sha.stateOf (l ++ Sha.pad l.length)) i (by rw [Sha.sum_length] at hi; exact hi)
  have h2 : (Sha.sum l)[i]? = some ((Sha.sum l)[i]) := List.getElem?_eq_getElem hi
  unfold Sha.sum at h2
  rw [h1] at h2
  have h3 := Option.some.inj h2
  unfold Sha.sum
  rw [← h3]
  omega
theorem recB_bytes {rec : List Int} (h : isBytes rec) : isBytes (recB rec) := fun x hx => by
  simp only [recB, List.mem_append] at hx
  rcases hx with (h1 | h1) | h1
  · exact beB_bytes _ _ x h1
  · exact h x h1
  · exact sum_bytes _ x h1
/-- The record bytes of sector i. -/
def cutP (all : List Int) (i : Nat) : List Int := (all.drop (46 * i)).take 46
theorem cutP_le (all : List Int) (i : Nat) : (cutP all i).length ≤ 46 := by unfold cutP; rw [List.length_take]; omega
theorem cutP_bytes {all : List Int} (h : isBytes all) (i : Nat) : isBytes (cutP all i) := fun x hx => h x (List.mem_of_mem_drop (List.mem_of_mem_take hx))
/-- The first k sectors of a record's bytes. -/
def packK (gen num : Nat) (all : List Int) : Nat → List Int
  | 0 => []
  | k + 1 => packK gen num all k ++ sectorP (markP gen (num + k)) (cutP all k)
theorem packK_length (gen num : Nat) (all : List Int) : ∀ k, (packK gen num all k).length = 64 * k
  | 0 => rfl
  | k + 1 => by
    rw [packK, List.length_append, packK_length gen num all k, sectorP_length (markP_length _ _) (cutP_le _ _)]
    omega
theorem packK_bytes (gen num : Nat) {all : List Int} (h : isBytes all) : ∀ k, isBytes (packK gen num all k)
  | 0 => fun x hx => by simp [packK] at hx
  | k + 1 => fun x hx => by
    rcases List.mem_append.1 (by rw [packK] at hx; exact hx) with h1 | h1
    · exact packK_bytes gen num h k x h1
    · exact sectorP_bytes (markP_bytes _ _) (cutP_bytes h _) x h1
theorem packK_get (gen num : Nat) (all : List Int) {i : Nat} : ∀ k, i < k → getB (packK gen num all k) i = sectorP (markP gen (num + i)) (cutP all i)
  | 0, h => by omega
  | k + 1, h => by
    have hl := packK_length gen num all k
    have hs := sectorP_length (markP_length gen (num + k)) (cutP_le all k)
    rw [packK]
    by_cases hi : i = k
    · subst hi
      unfold getB
      rw [List.drop_append_of_le_length (by omega), List.drop_eq_nil_of_le (by omega), List.nil_append, List.take_of_length_le (by omega)]
    · rw [← packK_get gen num all (i := i) k (by omega)]
      unfold getB
      rw [List.drop_append_of_le_length (by omega), List.take_append_of_le_length (by rw [List.length_drop]; omega)]
def packF (gen num : Nat) (rec : List Int) : List Int := packK gen num (recB rec) (needN rec.length)
def okPack (gen num : Int) (n : Nat) : Prop := n ≤ 2000 ∧ 1 ≤ gen ∧ gen ≤ 4294967295 ∧ 0 ≤ num ∧ num + (needN n : Int) ≤ 4294967296
instance (gen num : Int) (n : Nat) : Decidable (okPack gen num n) := by unfold okPack; exact inferInstance
/-- Is a sector whole? -/
def cntP (b : List Int) : Int := numB ((b.drop 8).take 2)
def wholeP (b : List Int) : Prop := cntP b ≤ 46 ∧ b = sectorP (b.take 8) ((b.drop 10).take (cntP b).toNat)
instance (b : List Int) : Decidable (wholeP b) := by unfold wholeP; exact inferInstance
theorem bytes_take {l : List Int} (h : isBytes l) (n : Nat) : isBytes (l.take n) := fun x hx => h x (List.mem_of_mem_take hx)
theorem bytes_drop {l : List Int} (h : isBytes l) (n : Nat) : isBytes (l.drop n) := fun x hx => h x (List.mem_of_mem_drop hx)
theorem cntP_range {b : List Int} (h : isBytes b) (hl : b.length = 64) : 0 ≤ cntP b ∧ cntP b < 65536 := by
  have h1 := numB_range (bytes_take (bytes_drop h 8) 2)
  have h2 : ((b.drop 8).take 2).length = 2 := by rw [List.length_take, List.length_drop]; omega
  rw [h2] at h1
  unfold cntP
  exact ⟨h1.1, by have := h1.2; omega⟩
theorem sectorP_cnt {m data : List Int} (hm : m.length = 8) (hd : data.length ≤ 46) : cntP (sectorP m data) = (data.length : Int) := by
  unfold cntP sectorP
  rw [List.drop_append_of_le_length (by omega), List.drop_eq_nil_of_le (by omega), List.nil_append, List.take_append_of_le_length (by rw [beB_length]; omega), List.take_of_length_le (by rw [beB_length]; omega)]
  exact numB_beB 2 _ (by omega)
theorem sectorP_data {m data : List Int} (hm : m.length = 8) (n : Nat) (hd : data.length = n) : ((sectorP m data).drop 10).take n = data := by
  unfold sectorP
  rw [show (10 : Nat) = m.length + 2 by omega, ← List.drop_drop, List.drop_left, List.drop_append_of_le_length (by rw [beB_length]; omega), List.drop_eq_nil_of_le (by rw [beB_length]; omega), List.nil_append, List.take_append_of_le_length (by omega), List.take_of_length_le (by omega)]
theorem sectorP_mark {m data : List Int} (hm : m.length = 8) : (sectorP m data).take 8 = m := by
  unfold sectorP
  rw [List.take_append_of_le_length (by omega), List.take_of_length_le (by omega)]
theorem sectorP_last {m data : List Int} (hm : m.length = 8) (hd : data.length ≤ 46) : (sectorP m data).drop 56 = m := by
  unfold sectorP
  rw [← List.append_assoc, ← List.append_assoc, ← List.append_assoc, List.drop_append_of_le_length (by simp only [List.length_append, beB_length, zeros_length]; omega), List.drop_eq_nil_of_le (by simp only [List.length_append, beB_length, zeros_length]; omega), List.nil_append]
theorem sectorP_whole {m data : List Int} (hm : m.length = 8) (hd : data.length ≤ 46) : wholeP (sectorP m data) := by
  unfold wholeP
  rw [sectorP_cnt hm hd]
  refine ⟨by omega, ?_⟩
  rw [Int.toNat_natCast, sectorP_data hm _ rfl, sectorP_mark hm]
end Go.Proofs.YtngpmilojfbpmaaDoor
