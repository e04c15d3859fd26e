/- Areas as lists of bytes: sectors behind writes, flushes and crashes; generations stay small. Plain lemmas. -/
import Derived.Test.YtngpmilojfbpmaaDoorAreaH
namespace Go.Proofs.YtngpmilojfbpmaaDoor
open Go Go.RowKit
set_option maxRecDepth 100000

theorem getB_put {l b : List Int} {n m sz : Nat} (hl : l.length = 64 * sz) (hn : n < sz) (hb : b.length = 64) : getB (putB l n b) m = if m = n then b else getB l m := by
  have h1 : (l.take (64 * n)).length = 64 * n := by rw [List.length_take]; omega
  by_cases e : m = n
  · subst e
    rw [if_pos rfl]
    unfold getB putB
    rw [show List.drop (64 * m) (l.take (64 * m) ++ (b ++ l.drop (64 * m + 64))) = b ++ l.drop (64 * m + 64) from by rw [List.drop_append_of_le_length (by omega), List.drop_eq_nil_of_le (by omega), List.nil_append], List.take_append_of_le_length (by omega), List.take_of_length_le (by omega)]
  · rw [if_neg e]
    unfold getB putB
    apply List.ext_getElem?
    intro j
    simp only [List.getElem?_take, List.getElem?_drop, List.getElem?_append, h1]
    by_cases hj : j < 64
    · rw [if_pos hj, if_pos hj]
      by_cases h2 : 64 * m + j < 64 * n
      · rw [if_pos h2, if_pos h2]
      · rw [if_neg h2, if_neg (by omega)]
        congr 1
        omega
    · rw [if_neg hj, if_neg hj]
theorem apply_none {dur : List Int} {p : List Wr} {sz m : Nat} (hl : dur.length = 64 * sz) (hp : okW sz p) : ∀ k, k ≤ p.length → (∀ i, i < k → (wrAt p i).1 ≠ m) → getB (applyK dur p k) m = getB dur m
  | 0, _, _ => rfl
  | k + 1, hk, h => by
    have ⟨h1, h2⟩ := wrAt_ok hp (show k < p.length by omega)
    rw [applyK, getB_put (applyK_length hl hp k (by omega)) h1 h2, if_neg (fun e => h k (by omega) e.symm)]
    exact apply_none hl hp k (by omega) (fun i hi => h i (by omega))
theorem crash_none {dur : List Int} {p : List Wr} {picks : List Int} {sz m : Nat} (hl : dur.length = 64 * sz) (hp : okW sz p) (hb : isBytes picks) : ∀ k, k ≤ p.length → (∀ i, i < k → (wrAt p i).1 ≠ m) → getB (crashK dur p picks k) m = getB dur m
  | 0, _, _ => rfl
  | k + 1, hk, h => by
    have ⟨h1, h2⟩ := wrAt_ok hp (show k < p.length by omega)
    have hc := crashK_length hl hp hb k (by omega)
    rw [crashK, getB_put hc h1 (crash1_length (getB_length hc h1) h2 _ (pickL_range hb k).1), if_neg (fun e => h k (by omega) e.symm)]
    exact crash_none hl hp hb k (by omega) (fun i hi => h i (by omega))
theorem crash_one {dur : List Int} {p : List Wr} {picks : List Int} {sz m i : Nat} (hl : dur.length = 64 * sz) (hp : okW sz p) (hb : isBytes picks) (hi : (wrAt p i).1 = m) : ∀ k, i < k → k ≤ p.length → (∀ j, j < k → j ≠ i → (wrAt p j).1 ≠ m) → getB (crashK dur p picks k) m = crash1 (getB dur m) (wrAt p i).2 (pickL picks i)
  | 0, h, _, _ => absurd h (by omega)
  | k + 1, hik, hk, h => by
    have ⟨h1, h2⟩ := wrAt_ok hp (show k < p.length by omega)
    have hc := crashK_length hl hp hb k (by omega)
    rw [crashK, getB_put hc h1 (crash1_length (getB_length hc h1) h2 _ (pickL_range hb k).1)]
    by_cases e : i = k
    · subst e
      rw [if_pos hi.symm, hi, crash_none hl hp hb i (by omega) (fun j hj => h j (by omega) (by omega))]
    · rw [if_neg (fun e2 => h k (by omega) (fun e3 => e e3.symm) e2.symm)]
      exact crash_one hl hp hb hi k (by omega) (by omega) (fun j hj => h j (by omega))
/-- What all writes keep, a crash keeps. -/
theorem crash_pred {dur : List Int} {p : List Wr} {picks : List Int} {sz : Nat} (Q : List Int → Prop) (hl : dur.length = 64 * sz) (hp : okW sz p) (hb : isBytes picks) (h0 : ∀ m, m < sz → Q (getB dur m)) (hq : ∀ i, i < p.length → ∀ old z, old.length = 64 → 0 ≤ z → Q old → Q (crash1 old (wrAt p i).2 z)) : ∀ k, k ≤ p.length → ∀ m, m < sz → Q (getB (crashK dur p picks k) m)
  | 0, _, m, hm => h0 m hm
  | k + 1, hk, m, hm => by
    have ⟨h1, h2⟩ := wrAt_ok hp (show k < p.length by omega)
    have hc := crashK_length hl hp hb k (by omega)
    rw [crashK, getB_put hc h1 (crash1_length (getB_length hc h1) h2 _ (pickL_range hb k).1)]
    split
    · exact hq k (by omega) _ _ (getB_length hc h1) (pickL_range hb k).1 (crash_pred Q hl hp hb h0 hq k (by omega) _ h1)
    · exact crash_pred Q hl hp hb h0 hq k (by omega) m hm
theorem apply_pred {dur : List Int} {p : List Wr} {sz : Nat} (Q : List Int → Prop) (hl : dur.length = 64 * sz) (hp : okW sz p) (h0 : ∀ m, m < sz → Q (getB dur m)) (hq : ∀ i, i < p.length → Q (wrAt p i).2) : ∀ k, k ≤ p.length → ∀ m, m < sz → Q (getB (applyK dur p k) m)
  | 0, _, m, hm => h0 m hm
  | k + 1, hk, m, hm => by
    have ⟨h1, h2⟩ := wrAt_ok hp (show k < p.length by omega)
    rw [applyK, getB_put (applyK_length hl hp k (by omega)) h1 h2]
    split
    · exact hq k (by omega)
    · exact apply_pred Q hl hp h0 hq k (by omega) m hm
theorem seen_set {seen D : List Int} {p : List Wr} {sz m : Nat} (hl : seen.length = 64 * sz) (hD : D.length = 64 * sz) (hp : okW sz p) : ∀ k, k ≤ p.length → (getB (seenK seen D p k) m = getB D m) ∨ ((∀ i, i < k → (wrAt p i).1 ≠ m) ∧ getB (seenK seen D p k) m = getB seen m)
  | 0, _ => .inr ⟨fun i hi => absurd hi (by omega), rfl⟩
  | k + 1, hk => by
    have ⟨h1, h2⟩ := wrAt_ok hp (show k < p.length by omega)
    rw [seenK, getB_put (seenK_length hl hD hp k (by omega)) h1 (getB_length hD h1)]
    by_cases e : m = (wrAt p k).1
    · rw [if_pos e, e]; exact .inl rfl
    · rw [if_neg e]
      rcases seen_set hl hD hp k (by omega) with h | ⟨h3, h4⟩
      · exact .inl h
      · refine .inr ⟨fun i hi => ?_, h4⟩
        by_cases e2 : i = k
        · subst e2; exact fun e3 => e e3.symm
        · exact h3 i (by omega)
/-- Behind a crash all that is seen lasts. -/
theorem seen_crash {dur : List Int} {p : List Wr} {picks : List Int} {sz : Nat} (hl : dur.length = 64 * sz) (hp : okW sz p) (hb : isBytes picks) : seenK (applyK dur p p.length) (crashK dur p picks p.length) p p.length = crashK dur p picks p.length := by
  have hc := crashK_length hl hp hb p.length (Nat.le_refl _)
  have ha := applyK_length hl hp p.length (Nat.le_refl _)
  refine take_getB (seenK_length ha hc hp _ (Nat.le_refl _)) hc (fun m _ => ?_)
  rcases seen_set (m := m) ha hc hp p.length (Nat.le_refl _) with h | ⟨h1, h2⟩
  · exact h
  · rw [h2, apply_none hl hp _ (Nat.le_refl _) h1, crash_none hl hp hb _ (Nat.le_refl _) h1]
theorem crash1_byte {bf af : List Int} (hb : bf.length = 64) (ha : af.length = 64) (z : Int) (k : Nat) : (crash1 bf af z).getD k 0 = bf.getD k 0 ∨ (crash1 bf af z).getD k 0 = af.getD k 0 := by
  have cat : ∀ (x y : List Int) (n : Nat), x.length = 64 → y.length = 64 → n ≤ 64 → (x.take n ++ y.drop n).getD k 0 = x.getD k 0 ∨ (x.take n ++ y.drop n).getD k 0 = y.getD k 0 := fun x y n hx hy hn => by
    simp only [List.getD_eq_getElem?_getD]
    by_cases h : k < n
    · rw [List.getElem?_append_left (by rw [List.length_take]; omega), List.getElem?_take, if_pos h]; exact .inl rfl
    · rw [List.getElem?_append_right (by rw [List.length_take]; omega), List.length_take, List.getElem?_drop, show n + (k - min n x.length) = k by omega]; exact .inr rfl
  unfold crash1
  split
  · exact .inr rfl
  · split
    · exact (cat af bf _ ha hb (by omega)).symm
    · split
      · exact cat bf af _ hb ha (by omega)
      · exact .inl rfl
/-- A sector whose generations, at both ends, are at most c; just the last bytes of them count. -/
structure Small (c : Nat) (b : List Int) : Prop where
  a0 : b.getD 0 0 = 0
  a1 : b.getD 1 0 = 0
  a2 : b.getD 2 0 = 0
  a3 : b.getD 3 0 ≤ (c : Int)
  b0 : b.getD 56 0 = 0
  b1 : b.getD 57 0 = 0
  b2 : b.getD 58 0 = 0
  b3 : b.getD 59 0 ≤ (c : Int)
theorem Small.mono {c c' : Nat} {b : List Int} (h : Small c b) (hc : c ≤ c') : Small c' b := ⟨h.a0, h.a1, h.a2, by have := h.a3; omega, h.b0, h.b1, h.b2, by have := h.b3; omega⟩
theorem Small.crash {c : Nat} {bf af : List Int} (h : Small c bf) (k : Small c af) (hb : bf.length = 64) (ha : af.length = 64) (z : Int) : Small c (crash1 bf af z) := by
  have f := crash1_byte hb ha z
  refine ⟨?_, ?_, ?_, ?_, ?_, ?_, ?_, ?_⟩
  · rcases f 0 with e | e <;> rw [e]; exact h.a0; exact k.a0
  · rcases f 1 with e | e <;> rw [e]; exact h.a1; exact k.a1
  · rcases f 2 with e | e <;> rw [e]; exact h.a2; exact k.a2
  · rcases f 3 with e | e <;> rw [e]; exact h.a3; exact k.a3
  · rcases f 56 with e | e <;> rw [e]; exact h.b0; exact k.b0
  · rcases f 57 with e | e <;> rw [e]; exact h.b1; exact k.b1
  · rcases f 58 with e | e <;> rw [e]; exact h.b2; exact k.b2
  · rcases f 59 with e | e <;> rw [e]; exact h.b3; exact k.b3
theorem take4 {l : List Int} (h : 4 ≤ l.length) : l.take 4 = [l.getD 0 0, l.getD 1 0, l.getD 2 0, l.getD 3 0] := by
  match l, h with
  | a :: b :: c :: d :: t, _ => rfl
theorem num4 (a b c d : Int) : numB [a, b, c, d] = ((a * 256 + b) * 256 + c) * 256 + d := by simp [numB]
theorem Small.gen {c : Nat} {b : List Int} (h : Small c b) (hl : b.length = 64) : genP b ≤ (c : Int) := by
  unfold genP
  rw [List.take_take, show min 4 8 = 4 from rfl, take4 (by omega), num4, h.a0, h.a1, h.a2]
  have := h.a3
  omega
theorem Small.fin {c : Nat} {b : List Int} (h : Small c b) (hl : b.length = 64) : endP b ≤ (c : Int) := by
  unfold endP
  have e : ∀ j, (b.drop 56).getD j 0 = b.getD (56 + j) 0 := fun j => by simp only [List.getD_eq_getElem?_getD, List.getElem?_drop]
  have e0 : (b.drop 56).getD 0 0 = 0 := (e 0).trans h.b0
  have e1 : (b.drop 56).getD 1 0 = 0 := (e 1).trans h.b1
  have e2 : (b.drop 56).getD 2 0 = 0 := (e 2).trans h.b2
  have e3 : (b.drop 56).getD 3 0 ≤ (c : Int) := by rw [e]; exact h.b3
  rw [take4 (by rw [List.length_drop]; omega), num4, e0, e1, e2]
  omega
theorem beB4_small {g : Nat} (h : g ≤ 255) : beB 4 g = [0, 0, 0, (g : Int)] := by
  rw [beB4]
  have h1 : g / 16777216 % 256 = 0 := by omega
  have h2 : g / 65536 % 256 = 0 := by omega
  have h3 : g / 256 % 256 = 0 := by omega
  have h4 : g % 256 = g := by omega
  rw [h1, h2, h3, h4]
  rfl
theorem sector_small {g n c : Nat} {data : List Int} (hd : data.length ≤ 46) (hg : g ≤ c) (hc : c ≤ 255) : Small c (sectorP (markP g n) data) := by
  have h1 := sectorP_mark (m := markP g n) (data := data) (markP_length g n)
  have h2 := sectorP_last (m := markP g n) (data := data) (markP_length g n) hd
  have e1 : ∀ j, j < 8 → (sectorP (markP g n) data).getD j 0 = (markP g n).getD j 0 := fun j hj => by
    conv => rhs; rw [← h1]
    simp only [List.getD_eq_getElem?_getD, List.getElem?_take, if_pos hj]
  have e2 : ∀ j, (sectorP (markP g n) data).getD (56 + j) 0 = (markP g n).getD j 0 := fun j => by
    conv => rhs; rw [← h2]
    simp only [List.getD_eq_getElem?_getD, List.getElem?_drop]
  have m : ∀ j, j < 4 → (markP g n).getD j 0 = [0, 0, 0, (g : Int)].getD j 0 := fun j hj => by
    unfold markP
    rw [beB4_small (by omega)]
    simp only [List.getD_eq_getElem?_getD]
    rw [List.getElem?_append_left (by simpa using hj)]
  refine ⟨?_, ?_, ?_, ?_, ?_, ?_, ?_, ?_⟩
  · rw [e1 0 (by omega), m 0 (by omega)]; rfl
  · rw [e1 1 (by omega), m 1 (by omega)]; rfl
  · rw [e1 2 (by omega), m 2 (by omega)]; rfl
  · rw [e1 3 (by omega), m 3 (by omega)]; show (g : Int) ≤ c; omega
  · rw [show 56 = 56 + 0 from rfl, e2 0, m 0 (by omega)]; rfl
  · rw [show 57 = 56 + 1 from rfl, e2 1, m 1 (by omega)]; rfl
  · rw [show 58 = 56 + 2 from rfl, e2 2, m 2 (by omega)]; rfl
  · rw [show 59 = 56 + 3 from rfl, e2 3, m 3 (by omega)]; show (g : Int) ≤ c; omega
theorem zeros_small {n : Nat} : Small 0 (zeros n) := by
  have e : ∀ j, (zeros n).getD j 0 = 0 := fun j => by
    simp only [zeros, List.getD_eq_getElem?_getD, List.getElem?_replicate]
    split <;> rfl
  exact ⟨e 0, e 1, e 2, by rw [e 3]; decide, e 56, e 57, e 58, by rw [e 59]; decide⟩
theorem highK_small {l : List Int} {c sz : Nat} (hl : l.length = 64 * sz) (h : ∀ m, m < sz → Small c (getB l m)) : ∀ k, k ≤ sz → highK l k ≤ (c : Int)
  | 0, _ => by show (0 : Int) ≤ c; omega
  | k + 1, hk => by
    have h1 := highK_small hl h k (by omega)
    have h2 := (h k (by omega)).gen (getB_length hl (by omega))
    have h3 := (h k (by omega)).fin (getB_length hl (by omega))
    rw [highK]
    unfold mx
    split <;> (try split) <;> omega
theorem highK_ge {l : List Int} {m : Nat} : ∀ k, m < k → genP (getB l m) ≤ highK l k ∧ endP (getB l m) ≤ highK l k
  | 0, h => absurd h (by omega)
  | k + 1, h => by
    rw [highK]
    unfold mx
    by_cases e : m = k
    · subst e
      constructor <;> (split <;> (try split) <;> omega)
    · have ⟨h1, h2⟩ := highK_ge (l := l) (m := m) k (by omega)
      constructor <;> (split <;> (try split) <;> omega)
/-- Both ends bear another generation. -/
def Clear (g : Nat) (b : List Int) : Prop := genP b ≠ (g : Int) ∧ endP b ≠ (g : Int)
/-- Not a sector of this generation and number. -/
def Off (g p : Nat) (b : List Int) : Prop := ¬ (b.take 8 = markP g p ∧ b.drop 56 = markP g p)
theorem mark_gen {g p : Nat} (hg : g < 4294967296) : numB ((markP g p).take 4) = (g : Int) := by
  unfold markP
  rw [List.take_append_of_le_length (by rw [beB_length]; omega), List.take_of_length_le (by rw [beB_length]; omega), numB_beB 4 g (by omega)]
theorem Clear.off {g p : Nat} {b : List Int} (h : Clear g b) (hg : g < 4294967296) : Off g p b := fun ⟨h1, _⟩ => h.1 (by
  unfold genP
  rw [h1, mark_gen hg])
/-- A torn sector is the sector, or none. -/
theorem torn_off {g p : Nat} {old data : List Int} (hg : g < 4294967296) (ho : old.length = 64) (hc : Clear g old) (hd : data.length ≤ 46) (z : Int) : crash1 old (sectorP (markP g p) data) z = sectorP (markP g p) data ∨ Off g p (crash1 old (sectorP (markP g p) data) z) := by
  have hl := sectorP_length (markP_length g p) hd
  have h1 := sectorP_mark (m := markP g p) (data := data) (markP_length g p)
  have h2 := sectorP_last (m := markP g p) (data := data) (markP_length g p) hd
  obtain ⟨b, hb⟩ : ∃ b, sectorP (markP g p) data = b := ⟨_, rfl⟩
  rw [hb] at hl h1 h2 ⊢
  unfold crash1
  split
  · exact .inl rfl
  · split
    · generalize hk : (z % 64).toNat = k
      have hk64 : k ≤ 63 := by omega
      have hlk : (b.take k).length = k := by rw [List.length_take]; omega
      by_cases h56 : k ≤ 56
      · right
        intro ⟨_, h4⟩
        refine hc.2 ?_
        have e1 : (b.take k ++ old.drop k).drop 56 = old.drop 56 := by
          rw [List.drop_append, List.drop_eq_nil_of_le (by rw [hlk]; omega), List.nil_append, hlk, List.drop_drop, show k + (56 - k) = 56 by omega]
        rw [e1] at h4
        unfold endP
        rw [h4, mark_gen hg]
      · by_cases hx : (b.take k ++ old.drop k).drop 56 = markP g p
        · left
          have ea : (b.take k ++ old.drop k).take 56 = b.take 56 := by rw [List.take_append_of_le_length (by rw [hlk]; omega), List.take_take, show min 56 k = 56 by omega]
          rw [← List.take_append_drop 56 (b.take k ++ old.drop k), ea, hx, ← h2, List.take_append_drop]
        · exact .inr fun ⟨_, h4⟩ => hx h4
    · split
      · generalize hk : (z % 64).toNat = k
        have hk64 : k ≤ 63 := by omega
        have hlk : (old.take (64 - k)).length = 64 - k := by rw [List.length_take]; omega
        by_cases h8 : 8 ≤ 64 - k
        · right
          intro ⟨h3, _⟩
          refine hc.1 ?_
          have e1 : (old.take (64 - k) ++ b.drop (64 - k)).take 8 = old.take 8 := by rw [List.take_append_of_le_length (by rw [hlk]; omega), List.take_take, show min 8 (64 - k) = 8 by omega]
          rw [e1] at h3
          unfold genP
          rw [h3, mark_gen hg]
        · by_cases hx : (old.take (64 - k) ++ b.drop (64 - k)).take 8 = markP g p
          · left
            have ed : (old.take (64 - k) ++ b.drop (64 - k)).drop 8 = b.drop 8 := by
              rw [List.drop_append, List.drop_eq_nil_of_le (by rw [hlk]; omega), List.nil_append, hlk, List.drop_drop, show 64 - k + (8 - (64 - k)) = 8 by omega]
            rw [← List.take_append_drop 8 (old.take (64 - k) ++ b.drop (64 - k)), ed, hx, ← h1, List.take_append_drop]
          · exact .inr fun ⟨h3, _⟩ => hx h3
      · exact .inr (hc.off hg)
end Go.Proofs.YtngpmilojfbpmaaDoor
/- What is read of an area: the records that stand there whole, and no more. Plain lemmas. -/
namespace Go.Proofs.YtngpmilojfbpmaaDoor
open Go Go.RowKit
set_option maxRecDepth 100000

theorem rowAt_app {all r : List (List Int)} {i : Nat} (h : i < all.length) : rowAt (all ++ r) i = rowAt all i := by
  unfold rowAt
  simp only [List.getD_eq_getElem?_getD]
  rw [List.getElem?_append_left h]
theorem cntK_app (all r : List (List Int)) : ∀ i, i ≤ all.length → cntK (all ++ r) i = cntK all i
  | 0, _ => rfl
  | i + 1, h => by rw [cntK, cntK, cntK_app all r i (by omega), rowAt_app (by omega)]
theorem rowsK_app (g m : Nat) (all r : List (List Int)) : ∀ i, i ≤ all.length → rowsK g m (all ++ r) i = rowsK g m all i
  | 0, _ => rfl
  | i + 1, h => by rw [rowsK, rowsK, rowsK_app g m all r i (by omega), rowAt_app (by omega), cntK_app all r i (by omega)]
theorem cntK_take (all : List (List Int)) {K : Nat} : ∀ i, i ≤ K → cntK (all.take K) i = cntK all i
  | 0, _ => rfl
  | i + 1, h => by
    rw [cntK, cntK, cntK_take all i (by omega)]
    congr 3
    unfold rowAt
    simp only [List.getD_eq_getElem?_getD, List.getElem?_take, if_pos (show i < K by omega)]
/-- The sector that is to stand there. -/
def tgt (g : Nat) (all : List (List Int)) (q : Nat) : List Int := getB (rowsK g 1 all all.length) q
theorem tgt_at {g : Nat} {all : List (List Int)} {i j : Nat} (hi : i < all.length) (hj : j < needN (rowAt all i).length) : tgt g all (cntK all i + j) = getB (packF g (1 + cntK all i) (rowAt all i)) j := by
  obtain ⟨rest, hr⟩ := rowsK_more g 1 all (i + 1) all.length (by omega)
  unfold tgt
  rw [hr, getB_append (rowsK_length g 1 all (i + 1)) (by rw [cntK]; omega), rowsK, getB_behind (rowsK_length g 1 all i)]
theorem find_row (all : List (List Int)) (q : Nat) : ∀ n, q < cntK all n → ∃ i j, i < n ∧ j < needN (rowAt all i).length ∧ q = cntK all i + j
  | 0, h => absurd h (by simp [cntK])
  | n + 1, h => by
    by_cases h1 : q < cntK all n
    · obtain ⟨i, j, h2, h3, h4⟩ := find_row all q n h1
      exact ⟨i, j, by omega, h3, h4⟩
    · rw [cntK] at h
      exact ⟨n, q - cntK all n, by omega, by omega, by omega⟩
theorem tgt_sector {g : Nat} {all : List (List Int)} {q : Nat} (h : q < cntK all all.length) : ∃ data : List Int, data.length ≤ 46 ∧ tgt g all q = sectorP (markP g (1 + q)) data := by
  obtain ⟨i, j, h1, h2, rfl⟩ := find_row all q _ h
  refine ⟨cutP (recB (rowAt all i)) j, cutP_le _ _, ?_⟩
  rw [tgt_at h1 h2, packF_get _ _ _ h2, Nat.add_assoc]
theorem tgt_app {g : Nat} {all r : List (List Int)} {q : Nat} (h : q < cntK all all.length) : tgt g (all ++ r) q = tgt g all q := by
  obtain ⟨rest, hr⟩ := rowsK_more g 1 (all ++ r) all.length (all ++ r).length (by rw [List.length_append]; omega)
  unfold tgt
  rw [hr, rowsK_app g 1 all r _ (Nat.le_refl _), getB_append (rowsK_length g 1 all all.length) h]
theorem pack_here {L rec : List Int} {g c half : Nat} (hL : L.length = 64 * half) (hh : 1 + c + needN rec.length ≤ half) (h : ∀ j, j < needN rec.length → getB L (1 + c + j) = getB (packF g (1 + c) rec) j) : L.drop (64 * (1 + c)) = packF g (1 + c) rec ++ L.drop (64 * (1 + c + needN rec.length)) := by
  have e : (L.drop (64 * (1 + c))).take (64 * needN rec.length) = packF g (1 + c) rec := by
    refine take_getB (n := needN rec.length) (by rw [List.length_take, List.length_drop]; omega) (packF_length _ _ _) (fun j hj => ?_)
    rw [← h j hj]
    exact secsP_get (l := L) (1 + c) hj
  rw [← e]
  conv => lhs; rw [← List.take_append_drop (64 * needN rec.length) (L.drop (64 * (1 + c)))]
  rw [List.drop_drop, show 64 * (1 + c) + 64 * needN rec.length = 64 * (1 + c + needN rec.length) by omega]
section
variable {L : List Int} {g half : Nat} {all : List (List Int)}
theorem scan_ok (hL : L.length = 64 * half) (hg1 : 1 ≤ g) (hg : g ≤ 4294967295) (hh : half ≤ 4096) (sh : ∀ zs ∈ all, zs.length ≤ 2000) {m : Nat} (hm : m ≤ all.length) (hmh : 1 + cntK all m ≤ half) (hM : ∀ q, q < cntK all m → getB L (1 + q) = tgt g all q) :
    ∀ k, k ≤ m → scanN L k = 1 + cntK all k ∧ scanR L k = all.take k ∧ ∀ j, j < k → scanGo L g half j
  | 0, _ => ⟨rfl, by simp [scanR], fun j hj => absurd hj (by omega)⟩
  | k + 1, hk => by
    obtain ⟨h1, h2, h3⟩ := scan_ok hL hg1 hg hh sh hm hmh hM k (by omega)
    have hr := sh _ (List.mem_of_getElem? (rowAt_get (show k < all.length by omega)))
    have hc : cntK all (k + 1) ≤ cntK all m := cntK_mono all (by omega)
    rw [cntK] at hc
    have hp := pack_here (rec := rowAt all k) (g := g) (c := cntK all k) hL (by omega) (fun j hj => by
      rw [Nat.add_assoc, hM _ (by omega), tgt_at (by omega) hj])
    have hu := unp_pack (gen := g) (num := 1 + cntK all k) (rec := rowAt all k) (tail := L.drop (64 * (1 + cntK all k + needN (rowAt all k).length))) (n := half - (1 + cntK all k)) ⟨hr, by omega, by omega, by omega, by have := needN_le _ hr; omega⟩ (by omega)
    rw [← hp] at hu
    refine ⟨?_, ?_, fun j hj => ?_⟩
    · rw [scanN, h1, hu.1, cntK]; omega
    · rw [scanR, h1, h2, hu.2.1, take_snoc (by omega)]
    · by_cases e : j = k
      · subst e
        unfold scanGo
        rw [h1]
        exact hu.2.2
      · exact h3 j (by omega)
/-- Where a record is read, the record stands that was to stand there, whole. -/
theorem scan_next (hL : L.length = 64 * half) (sh : ∀ zs ∈ all, zs.length ≤ 2000) {tp c K : Nat} (htn : tp ≤ cntK all all.length) (hK : cntK all K = c)
    (hT : ∀ q, 1 + q < half → (q < tp ∧ getB L (1 + q) = tgt g all q) ∨ Off g (1 + q) (getB L (1 + q))) (hKn : K ≤ all.length) (h : unpOk (g : Int) ((1 + c : Nat) : Int) (L.drop (64 * (1 + c))) (half - (1 + c))) :
    K < all.length ∧ cntK all (K + 1) ≤ tp ∧ 1 + cntK all (K + 1) ≤ half ∧ ∀ q, c ≤ q → q < cntK all (K + 1) → getB L (1 + q) = tgt g all q := by
  obtain ⟨u1, u2, u3, u4, u5⟩ := h
  obtain ⟨X, hX⟩ : ∃ X, L.drop (64 * (1 + c)) = X := ⟨_, rfl⟩
  rw [hX] at u2 u3 u4 u5
  rw [Int.toNat_natCast, Int.toNat_natCast] at u5
  have hXl : X.length = 64 * (half - (1 + c)) := by rw [← hX, List.length_drop, hL]; omega
  have hrl : (recP X).length = sizeP X := recP_length hXl u3
  have key : ∀ j, j < needN (sizeP X) → c + j < tp ∧ getB L (1 + (c + j)) = tgt g all (c + j) := fun j hj => by
    have hj2 : j < needN (recP X).length := by rw [hrl]; exact hj
    have e1 : getB L (1 + (c + j)) = sectorP (markP g (1 + (c + j))) (cutP (recB (recP X)) j) := by
      have e2 := packF_get g (1 + c) (recP X) hj2
      rw [u5] at e2
      rw [← Nat.add_assoc, ← e2, ← hX]
      unfold getB
      rw [List.drop_take, List.take_take, Nat.min_eq_left (show 64 ≤ 64 * needN (sizeP (List.drop (64 * (1 + c)) L)) - 64 * j by rw [hX]; omega), List.drop_drop, show 64 * (1 + c) + 64 * j = 64 * (1 + c + j) by omega]
    rcases hT (c + j) (by omega) with h | h
    · exact h
    · exfalso
      rw [e1] at h
      exact h ⟨sectorP_mark (markP_length _ _), sectorP_last (markP_length _ _) (cutP_le _ _)⟩
  have hpos := needN_pos (sizeP X)
  have k0 := key 0 hpos
  rw [Nat.add_zero] at k0
  have hKl : K < all.length := by
    rcases Nat.lt_or_ge K all.length with h | h
    · exact h
    · have : K = all.length := by omega
      subst this
      omega
  have hr := sh _ (List.mem_of_getElem? (rowAt_get hKl))
  have e0 : getB X 0 = getB (packF g (1 + c) (rowAt all K)) 0 := by
    have e1 := tgt_at (g := g) (all := all) (j := 0) hKl (needN_pos _)
    rw [Nat.add_zero, hK] at e1
    rw [← e1, ← k0.2, ← hX]
    unfold getB
    rw [List.drop_drop, Nat.mul_zero, Nat.add_zero]
  have hs : sizeP X = (rowAt all K).length := size_pack hr e0
  rw [hs] at key u3
  have hn1 : cntK all (K + 1) = c + needN (rowAt all K).length := by rw [cntK, hK]
  have hp2 := needN_pos (rowAt all K).length
  refine ⟨hKl, ?_, by omega, fun q h1 h2 => ?_⟩
  · have := (key (needN (rowAt all K).length - 1) (by omega)).1
    omega
  · have := (key (q - c) (by omega)).2
    rw [show c + (q - c) = q by omega] at this
    exact this
theorem scan_stop (hL : L.length = 64 * half) (hg1 : 1 ≤ g) (hg : g ≤ 4294967295) (hh : half ≤ 4096) (sh : ∀ zs ∈ all, zs.length ≤ 2000) {nr tp : Nat} (hnr : nr ≤ all.length) (htn : tp ≤ cntK all all.length) (h2 : ∀ i, nr ≤ i → i < all.length → tp < cntK all (i + 1)) (hth : 1 + tp ≤ half) (h1 : cntK all nr ≤ tp)
    (hT : ∀ q, 1 + q < half → (q < tp ∧ getB L (1 + q) = tgt g all q) ∨ Off g (1 + q) (getB L (1 + q))) :
    ∀ (d m : Nat), nr - m = d → m ≤ nr → (∀ q, q < cntK all m → getB L (1 + q) = tgt g all q) → ∃ K, m ≤ K ∧ K ≤ nr ∧ Stops L g half K ∧ scanR L K = all.take K ∧ ∀ k, k ≤ K → scanN L k = 1 + cntK all k := by
  intro d
  induction d with
  | zero =>
    intro m hd hm hM
    obtain rfl : m = nr := by omega
    have ok := scan_ok hL hg1 hg hh sh hnr (by omega) hM
    refine ⟨m, Nat.le_refl _, Nat.le_refl _, ⟨(ok m (Nat.le_refl _)).2.2, fun hgo => ?_⟩, (ok m (Nat.le_refl _)).2.1, fun k hk => (ok k hk).1⟩
    unfold scanGo at hgo
    rw [(ok m (Nat.le_refl _)).1] at hgo
    have h3 := scan_next hL sh htn rfl hT hnr hgo
    have := h2 m (Nat.le_refl _) h3.1
    omega
  | succ d ih =>
    intro m hd hm hM
    have hmc : cntK all m ≤ cntK all nr := cntK_mono all hm
    have ok := scan_ok hL hg1 hg hh sh (show m ≤ all.length by omega) (by omega) hM
    by_cases hgo : scanGo L g half m
    · have hgo2 := hgo
      unfold scanGo at hgo2
      rw [(ok m (Nat.le_refl _)).1] at hgo2
      have h3 := scan_next hL sh htn rfl hT (by omega) hgo2
      obtain ⟨K, h4, h5⟩ := ih (m + 1) (by omega) (by omega) (fun q hq => by
        by_cases h6 : q < cntK all m
        · exact hM q h6
        · exact h3.2.2.2 q (by omega) hq)
      exact ⟨K, by omega, h5⟩
    · exact ⟨m, Nat.le_refl _, hm, ⟨(ok m (Nat.le_refl _)).2.2, hgo⟩, (ok m (Nat.le_refl _)).2.1, fun k hk => (ok k hk).1⟩
end
theorem scanV_mono {L : List Int} {used : Int} {k : Nat} (h : scanV L used k = true) : ∀ n, k ≤ n → scanV L used n = true
  | 0, hn => by rw [show k = 0 by omega] at h; exact h
  | n + 1, hn => by
    by_cases e : k = n + 1
    · rw [← e]; exact h
    · rw [scanV, scanV_mono h n (by omega)]; rfl
theorem scanV_at {L : List Int} {all : List (List Int)} {m0 K : Nat} (hm : m0 ≤ K) (hN : ∀ k, k ≤ K → scanN L k = 1 + cntK all k) : scanV L ((cntK all m0 : Nat) : Int) K = true := by
  refine scanV_mono (k := m0) ?_ K hm
  cases m0 with
  | zero => simp [scanV, cntK]
  | succ m =>
    rw [scanV, hN (m + 1) hm]
    simp
/-- A head is read as what it is. -/
theorem head_read {g T : Nat} (hg1 : 1 ≤ g) (hg : g ≤ 4294967295) (hT : T ≤ 4294967295) : headOk (headL g T) ∧ genP (headL g T) = (g : Int) ∧ numB (recP (headL g T)) = (T : Int) := by
  have hn : needN (beB 4 T).length = 1 := by rw [beB_length]; rfl
  have hu := unp_pack (gen := g) (num := 0) (rec := beB 4 T) (tail := []) (n := 1) ⟨by rw [beB_length]; omega, by omega, by omega, by omega, by rw [hn]; decide⟩ (by rw [hn]; omega)
  rw [List.append_nil] at hu
  have e : headL g T = sectorP (markP g 0) (cutP (recB (beB 4 T)) 0) := by
    have := packF_get g 0 (beB 4 T) (i := 0) (by rw [hn]; omega)
    rw [← this]
    exact (getB_one (headL_length g T)).symm
  have hG : genP (headL g T) = (g : Int) := by rw [e]; exact gen_sector (by omega)
  refine ⟨⟨?_, ?_, ?_⟩, hG, ?_⟩
  · rw [e]; exact sectorP_whole (markP_length _ _) (cutP_le _ _)
  · rw [hG]; exact hu.2.2
  · show (recP (packF g 0 (beB 4 T))).length = 4
    rw [hu.2.1, beB_length]
  · show numB (recP (packF g 0 (beB 4 T))) = _
    rw [hu.2.1, numB_beB 4 T (by omega)]
end Go.Proofs.YtngpmilojfbpmaaDoor
/- A disk with areas: what holds behind every call, and what is opened. Plain lemmas. -/
namespace Go.Proofs.YtngpmilojfbpmaaDoor
open Go Go.RowKit
set_option maxRecDepth 100000

theorem wrAt_left {p q : List Wr} {i : Nat} (h : i < p.length) : wrAt (p ++ q) i = wrAt p i := by
  unfold wrAt
  simp only [List.getD_eq_getElem?_getD]
  rw [List.getElem?_append_left h]
theorem wrAt_right {p q : List Wr} (i : Nat) : wrAt (p ++ q) (p.length + i) = wrAt q i := by
  unfold wrAt
  simp only [List.getD_eq_getElem?_getD]
  rw [List.getElem?_append_right (by omega), Nat.add_sub_cancel_left]
theorem wrAt_mem {p : List Wr} {i : Nat} (h : i < p.length) : wrAt p i ∈ p := List.mem_of_getElem? (wrAt_get h)
theorem wrsAt_at (n0 : Nat) (R : List Int) : ∀ k i, i < k → wrAt (wrsAt n0 R k) i = (n0 + i, getB R i)
  | 0, i, h => absurd h (by omega)
  | k + 1, i, h => by
    rw [wrsAt]
    by_cases e : i < k
    · rw [wrAt_left (by rw [wrsAt_length]; exact e), wrsAt_at n0 R k i e]
    · obtain rfl : i = k := by omega
      have := wrAt_right (p := wrsAt n0 R i) (q := [(n0 + i, getB R i)]) 0
      rw [wrsAt_length, Nat.add_zero] at this
      rw [this]
      rfl
theorem mem_wrs {n0 : Nat} {R : List Int} {k : Nat} {x : Wr} (h : x ∈ wrsAt n0 R k) : ∃ i, i < k ∧ x = (n0 + i, getB R i) := by
  obtain ⟨i, hi, rfl⟩ := List.mem_iff_getElem.1 h
  rw [wrsAt_length] at hi
  refine ⟨i, hi, ?_⟩
  rw [← wrsAt_at n0 R k i hi]
  unfold wrAt
  simp only [List.getD_eq_getElem?_getD]
  rw [List.getElem?_eq_getElem (by rw [wrsAt_length]; exact hi)]
  rfl
theorem applyK_left {dur : List Int} {p q : List Wr} : ∀ k, k ≤ p.length → applyK dur (p ++ q) k = applyK dur p k
  | 0, _ => rfl
  | k + 1, h => by rw [applyK, applyK, applyK_left k (by omega), wrAt_left (by omega)]
theorem applyK_right {dur : List Int} {p q : List Wr} : ∀ k, applyK dur (p ++ q) (p.length + k) = applyK (applyK dur p p.length) q k
  | 0 => applyK_left _ (Nat.le_refl _)
  | k + 1 => by rw [← Nat.add_assoc, applyK, applyK, applyK_right k, wrAt_right]
theorem applyK_wrs (s : List Int) (n0 : Nat) (R : List Int) (k : Nat) : ∀ j, j ≤ k → applyK s (wrsAt n0 R k) j = putsK s n0 R j
  | 0, _ => rfl
  | j + 1, h => by rw [applyK, putsK, applyK_wrs s n0 R k j (by omega), wrsAt_at n0 R k j (by omega)]
theorem put_bytes {l b : List Int} {n : Nat} (hl : isBytes l) (hb : isBytes b) : isBytes (putB l n b) := fun x hx => by
  unfold putB at hx
  rcases List.mem_append.1 hx with h | h
  · exact hl x (List.mem_of_mem_take h)
  · rcases List.mem_append.1 h with h | h
    · exact hb x h
    · exact hl x (List.mem_of_mem_drop h)
theorem apply_bytes {dur : List Int} {p : List Wr} (hl : isBytes dur) (hp : ∀ x ∈ p, isBytes x.2) : ∀ k, k ≤ p.length → isBytes (applyK dur p k)
  | 0, _ => hl
  | k + 1, h => put_bytes (apply_bytes hl hp k (by omega)) (hp _ (wrAt_mem (by omega)))
theorem crash1_bytes {b a : List Int} (hb : isBytes b) (ha : isBytes a) (z : Int) : isBytes (crash1 b a z) := by
  unfold crash1
  split
  · exact ha
  · split
    · intro x hx
      rcases List.mem_append.1 hx with h | h
      · exact ha x (List.mem_of_mem_take h)
      · exact hb x (List.mem_of_mem_drop h)
    · split
      · intro x hx
        rcases List.mem_append.1 hx with h | h
        · exact hb x (List.mem_of_mem_take h)
        · exact ha x (List.mem_of_mem_drop h)
      · exact hb
theorem crash_bytes {dur : List Int} {p : List Wr} {picks : List Int} (hl : isBytes dur) (hp : ∀ x ∈ p, isBytes x.2) : ∀ k, k ≤ p.length → isBytes (crashK dur p picks k)
  | 0, _ => hl
  | k + 1, h => put_bytes (crash_bytes hl hp k (by omega)) (crash1_bytes (sub_bytes (crash_bytes hl hp k (by omega)) _) (hp _ (wrAt_mem (by omega))) _)
/-- A disk whose generations are small. -/
structure Base (sz : Nat) (seen dur : List Int) (pend : List Wr) (c : Nat) : Prop where
  ls : seen.length = 64 * sz
  ld : dur.length = 64 * sz
  ok : okW sz pend
  bs : isBytes seen
  bd : isBytes dur
  bp : ∀ x ∈ pend, isBytes x.2
  eq : seen = applyK dur pend pend.length
  sm : ∀ m, m < sz → Small c (getB dur m)
  smp : ∀ x ∈ pend, Small c x.2
  c255 : c ≤ 255
  h4 : 4 ≤ sz
  big : sz ≤ 4096
section
variable {sz c : Nat} {seen dur : List Int} {pend : List Wr}
theorem Base.sms (h : Base sz seen dur pend c) : ∀ m, m < sz → Small c (getB seen m) := by
  rw [h.eq]
  exact apply_pred (Small c) h.ld h.ok h.sm (fun i hi => h.smp _ (wrAt_mem hi)) _ (Nat.le_refl _)
theorem Base.high (h : Base sz seen dur pend c) : 0 ≤ highK seen sz ∧ highK seen sz ≤ (c : Int) := ⟨highK_nonneg h.bs sz, highK_small h.ls h.sms sz (Nat.le_refl _)⟩
theorem Base.flush (h : Base sz seen dur pend c) : Base sz seen seen [] c :=
  ⟨h.ls, h.ls, fun x hx => by simp at hx, h.bs, h.bs, fun x hx => by simp at hx, rfl, h.sms, fun x hx => by simp at hx, h.c255, h.h4, h.big⟩
theorem Base.mono (h : Base sz seen dur pend c) {c' : Nat} (hc : c ≤ c') (h2 : c' ≤ 255) : Base sz seen dur pend c' :=
  ⟨h.ls, h.ld, h.ok, h.bs, h.bd, h.bp, h.eq, fun m hm => (h.sm m hm).mono hc, fun x hx => (h.smp x hx).mono hc, h2, h.h4, h.big⟩
theorem Base.crash (h : Base sz seen dur pend c) {picks : List Int} (hp : isBytes picks) : Base sz (crashK dur pend picks pend.length) (crashK dur pend picks pend.length) [] c :=
  have hl := crashK_length h.ld h.ok hp pend.length (Nat.le_refl _)
  have hb := crash_bytes (picks := picks) h.bd h.bp pend.length (Nat.le_refl _)
  ⟨hl, hl, fun x hx => by simp at hx, hb, hb, fun x hx => by simp at hx, rfl, crash_pred (Small c) h.ld h.ok hp h.sm (fun i hi old z ho _ hq => hq.crash (h.smp _ (wrAt_mem hi)) ho (h.ok _ (wrAt_mem hi)).2 z) _ (Nat.le_refl _), fun x hx => by simp at hx, h.c255, h.h4, h.big⟩
theorem Base.writes (h : Base sz seen dur pend c) {n0 j k : Nat} {R : List Int} (hR : R.length = 64 * k) (hj : j ≤ k) (hn : n0 + j ≤ sz) (hb : isBytes R) (hs : ∀ i, i < j → Small c (getB R i)) : Base sz (putsK seen n0 R j) dur (pend ++ wrsAt n0 R j) c := by
  have ok' : okW sz (pend ++ wrsAt n0 R j) := fun x hx => by
    rcases List.mem_append.1 hx with h1 | h1
    · exact h.ok x h1
    · obtain ⟨i, hi, rfl⟩ := mem_wrs h1
      exact ⟨by show n0 + i < sz; omega, getB_length hR (by omega)⟩
  have bp' : ∀ x ∈ pend ++ wrsAt n0 R j, isBytes x.2 := fun x hx => by
    rcases List.mem_append.1 hx with h1 | h1
    · exact h.bp x h1
    · obtain ⟨i, hi, rfl⟩ := mem_wrs h1
      exact sub_bytes hb i
  have eq' : putsK seen n0 R j = applyK dur (pend ++ wrsAt n0 R j) (pend ++ wrsAt n0 R j).length := by
    rw [List.length_append, wrsAt_length, applyK_right, ← h.eq, applyK_wrs _ _ _ _ _ (Nat.le_refl _)]
  refine ⟨?_, h.ld, ok', ?_, h.bd, bp', eq', h.sm, fun x hx => ?_, h.c255, h.h4, h.big⟩
  · rw [eq']; exact applyK_length h.ld ok' _ (Nat.le_refl _)
  · rw [eq']; exact apply_bytes h.bd bp' _ (Nat.le_refl _)
  · rcases List.mem_append.1 hx with h1 | h1
    · exact h.smp x h1
    · obtain ⟨i, hi, rfl⟩ := mem_wrs h1
      exact hs i hi
end
theorem putsK_get {s R : List Int} {n0 sz : Nat} (hl : s.length = 64 * sz) {k : Nat} (hR : R.length = 64 * k) : ∀ j, j ≤ k → n0 + j ≤ sz → (putsK s n0 R j).length = 64 * sz ∧ ∀ m, getB (putsK s n0 R j) m = if n0 ≤ m ∧ m < n0 + j then getB R (m - n0) else getB s m
  | 0, _, _ => ⟨hl, fun m => by rw [if_neg (show ¬ (n0 ≤ m ∧ m < n0 + 0) by omega), putsK]⟩
  | j + 1, h, hn => by
    obtain ⟨h1, h2⟩ := putsK_get (n0 := n0) hl hR j (by omega) (by omega)
    have h3 : (getB R j).length = 64 := getB_length hR (by omega)
    rw [putsK]
    refine ⟨putB_length h1 (by omega) h3, fun m => ?_⟩
    rw [getB_put h1 (by omega) h3, h2 m]
    by_cases e : m = n0 + j
    · rw [if_pos e, if_pos (show n0 ≤ m ∧ m < n0 + (j + 1) by omega), show m - n0 = j by omega]
    · rw [if_neg e]
      by_cases e2 : n0 ≤ m ∧ m < n0 + j
      · rw [if_pos e2, if_pos (show n0 ≤ m ∧ m < n0 + (j + 1) by omega)]
      · rw [if_neg e2, if_neg (show ¬ (n0 ≤ m ∧ m < n0 + (j + 1)) by omega)]
theorem rowsK_bytes (g m : Nat) {zss : List (List Int)} (h : ∀ zs ∈ zss, isBytes zs) : ∀ k, isBytes (rowsK g m zss k)
  | 0 => fun x hx => by simp [rowsK] at hx
  | k + 1 => fun x hx => by
    rw [rowsK] at hx
    rcases List.mem_append.1 hx with h1 | h1
    · exact rowsK_bytes g m h k x h1
    · refine packF_bytes _ _ ?_ x h1
      unfold rowAt
      rw [List.getD_eq_getElem?_getD]
      cases hk : zss[k]? with
      | none => exact fun x hx => by simp at hx
      | some zs => exact h zs (List.mem_of_getElem? hk)
theorem headL_bytes (g T : Nat) : isBytes (headL g T) := packF_bytes _ _ (beB_bytes _ _)
theorem headL_small {g T c : Nat} (hg : g ≤ c) (hc : c ≤ 255) : Small c (headL g T) := by
  have hn : needN (beB 4 T).length = 1 := by rw [beB_length]; rfl
  have e : headL g T = sectorP (markP g 0) (cutP (recB (beB 4 T)) 0) := by
    have := packF_get g 0 (beB 4 T) (i := 0) (by rw [hn]; omega)
    rw [← this]
    exact (getB_one (headL_length g T)).symm
  rw [e]
  exact sector_small (cutP_le _ _) hg hc
/-- What stands on a disk whose area at first, of generation g, is the one that was begun last: all: the records that were to be written there, nr of them wholly so; tp: sectors of them that are written; m0: records of its beginning; sure: records that last. -/
structure Inv (sz first g : Nat) (seen dur : List Int) (pend : List Wr) (all : List (List Int)) (nr tp m0 sure c : Nat) : Prop extends Base sz seen dur pend c where
  hf : first = 0 ∨ first = sz / 2
  g1 : 1 ≤ g
  gc : g ≤ c
  m0s : m0 ≤ sure
  sr : sure ≤ nr
  nrl : nr ≤ all.length
  sh : ∀ zs ∈ all, zs.length ≤ 2000
  by' : ∀ zs ∈ all, isBytes zs
  t1 : cntK all nr ≤ tp
  tn : tp ≤ cntK all all.length
  t2 : ∀ i, nr ≤ i → i < all.length → tp < cntK all (i + 1)
  th : 1 + tp ≤ sz / 2
  hd : getB dur first = headL g (cntK all m0)
  oh : genP (getB dur (sz / 2 - first)) < (g : Int)
  hp : ∀ x ∈ pend, x.1 ≠ first ∧ x.1 ≠ sz / 2 - first
  T1 : ∀ q, q < cntK all sure → getB dur (first + 1 + q) = tgt g all q
  T2 : ∀ q, 1 + q < sz / 2 → (q < tp ∧ getB dur (first + 1 + q) = tgt g all q) ∨ Clear g (getB dur (first + 1 + q))
  T3 : ∀ q, q < tp → getB seen (first + 1 + q) = tgt g all q
  P1 : ∀ x ∈ pend, ∀ q, 1 + q < sz / 2 → x.1 = first + 1 + q → q < tp ∧ x.2 = tgt g all q ∧ Clear g (getB dur (first + 1 + q))
  P2 : ∀ i j, i < j → j < pend.length → (wrAt pend i).1 = (wrAt pend j).1 → ∀ q, 1 + q < sz / 2 → (wrAt pend i).1 ≠ first + 1 + q
/-- What Open tells of an image. -/
structure Opened (I : List Int) (half first g : Nat) (all : List (List Int)) (K : Nat) : Prop where
  cur : CurAt I half first
  gen : headG (secsP I first half) = g
  st : Stops (secsP I first half) g half K
  rs : scanR (secsP I first half) K = all.take K
theorem opened {I : List Int} {sz first g nr tp m0 m : Nat} {all : List (List Int)} (hI : I.length = 64 * sz) (h4 : 4 ≤ sz) (big : sz ≤ 4096) (hf : first = 0 ∨ first = sz / 2) (g1 : 1 ≤ g) (g2 : g ≤ 255) (m0m : m0 ≤ m) (mn : m ≤ nr) (nrl : nr ≤ all.length) (sh : ∀ zs ∈ all, zs.length ≤ 2000) (t1 : cntK all nr ≤ tp) (tn : tp ≤ cntK all all.length) (t2 : ∀ i, nr ≤ i → i < all.length → tp < cntK all (i + 1)) (th : 1 + tp ≤ sz / 2)
    (hd : getB I first = headL g (cntK all m0)) (oh : genP (getB I (sz / 2 - first)) < (g : Int)) (T1 : ∀ q, q < cntK all m → getB I (first + 1 + q) = tgt g all q) (T2 : ∀ q, 1 + q < sz / 2 → (q < tp ∧ getB I (first + 1 + q) = tgt g all q) ∨ Off g (1 + q) (getB I (first + 1 + q))) : ∃ K, m ≤ K ∧ K ≤ nr ∧ Opened I (sz / 2) first g all K := by
  obtain ⟨half, hh⟩ : ∃ half, sz / 2 = half := ⟨_, rfl⟩
  have h2 : 2 ≤ half := by omega
  have h22 : half + half ≤ sz := by omega
  rw [hh] at hf th oh T2 ⊢
  clear hh
  have hfs : first + half ≤ sz := by omega
  have hL := secsP_length (f := first) (n := half) hI hfs
  have hget : ∀ q, 1 + q < half → getB (secsP I first half) (1 + q) = getB I (first + 1 + q) := fun q hq => by rw [secsP_get first hq, Nat.add_assoc]
  have hcm : cntK all m ≤ cntK all nr := cntK_mono all mn
  obtain ⟨K, k1, k2, k3, k4, k5⟩ := scan_stop (L := secsP I first half) (g := g) (all := all) hL g1 (by omega) (by omega) sh nrl tn t2 th t1 (fun q hq => by rw [hget q hq]; exact T2 q hq) (nr - m) m rfl mn (fun q hq => by rw [hget q (by omega)]; exact T1 q hq)
  have hb : headB (secsP I first half) = headL g (cntK all m0) := by
    unfold headB
    rw [secsP_get first (by omega), Nat.add_zero]
    exact hd
  have hc0 : cntK all m0 ≤ cntK all nr := cntK_mono all (by omega)
  have hr := head_read (g := g) (T := cntK all m0) g1 (by omega) (by omega)
  have hG : headG (secsP I first half) = g := by unfold headG; rw [hb, hr.2.1]; rfl
  have hU : headU (secsP I first half) = ((cntK all m0 : Nat) : Int) := by unfold headU; rw [hb, hr.2.2]
  have hv : validP (secsP I first half) half := ⟨by rw [hb]; exact hr.1, K, by rw [hG]; exact k3, by rw [hU]; exact scanV_at (by omega) k5⟩
  have ho : headG (secsP I (half - first) half) < g := by
    unfold headG headB
    rw [secsP_get (half - first) (by omega), Nat.add_zero]
    omega
  refine ⟨K, k1, k2, ⟨?_, hG, k3, k4⟩⟩
  rcases hf with rfl | rfl
  · refine .inl ⟨rfl, hv, .inr ?_⟩
    rw [hG]
    exact ho
  · refine .inr ⟨rfl, hv, .inr ?_⟩
    rw [hG]
    rw [Nat.sub_self] at ho
    omega
section
variable {sz first g nr tp m0 sure c : Nat} {seen dur : List Int} {pend : List Wr} {all : List (List Int)}
theorem Inv.half (h : Inv sz first g seen dur pend all nr tp m0 sure c) : first + sz / 2 ≤ sz := by rcases h.hf with e | e <;> omega
theorem Inv.none (h : Inv sz first g seen dur pend all nr tp m0 sure c) {m : Nat} (hm : ∀ x ∈ pend, x.1 ≠ m) : getB seen m = getB dur m := by
  rw [h.eq]
  exact apply_none h.ld h.ok _ (Nat.le_refl _) (fun i hi => hm _ (wrAt_mem hi))
/-- Sectors behind those that are written. -/
theorem Inv.far (h : Inv sz first g seen dur pend all nr tp m0 sure c) {q : Nat} (hq : 1 + q < sz / 2) (ht : tp ≤ q) : getB seen (first + 1 + q) = getB dur (first + 1 + q) ∧ Clear g (getB dur (first + 1 + q)) :=
  ⟨h.none (fun x hx e => by have := (h.P1 x hx q hq e).1; omega), by rcases h.T2 q hq with h1 | h1; omega; exact h1⟩
theorem Inv.g2 (h : Inv sz first g seen dur pend all nr tp m0 sure c) : g ≤ 255 := Nat.le_trans h.gc h.c255
/-- What is opened now. -/
theorem Inv.now (h : Inv sz first g seen dur pend all nr tp m0 sure c) : Opened seen (sz / 2) first g all nr := by
  have hc := h.g2
  obtain ⟨K, k1, k2, k3⟩ := opened (m := nr) h.ls h.h4 h.big h.hf h.g1 hc (Nat.le_trans h.m0s h.sr) (Nat.le_refl _) h.nrl h.sh h.t1 h.tn h.t2 h.th (by rw [h.none (fun x hx => (h.hp x hx).1)]; exact h.hd) (by rw [h.none (fun x hx => (h.hp x hx).2)]; exact h.oh) (fun q hq => h.T3 q (by have := h.t1; omega)) (fun q hq => by
    by_cases ht : q < tp
    · exact .inl ⟨ht, h.T3 q ht⟩
    · have := h.far hq (by omega)
      exact .inr (by rw [this.1]; exact this.2.off (by omega)))
  obtain rfl : K = nr := by omega
  exact k3
/-- What is opened behind a crash. -/
theorem Inv.crashed (h : Inv sz first g seen dur pend all nr tp m0 sure c) {picks : List Int} (hp : isBytes picks) : ∃ K, sure ≤ K ∧ K ≤ nr ∧ Opened (crashK dur pend picks pend.length) (sz / 2) first g all K := by
  have hc := h.g2
  have hl := crashK_length h.ld h.ok hp pend.length (Nat.le_refl _)
  have hn : ∀ m, (∀ x ∈ pend, x.1 ≠ m) → getB (crashK dur pend picks pend.length) m = getB dur m := fun m hm => crash_none h.ld h.ok hp _ (Nat.le_refl _) (fun i hi => hm _ (wrAt_mem hi))
  have tsec : ∀ q, q < tp → ∃ data : List Int, data.length ≤ 46 ∧ tgt g all q = sectorP (markP g (1 + q)) data := fun q hq => tgt_sector (by have := h.tn; omega)
  have hcs : cntK all sure ≤ cntK all nr := cntK_mono all h.sr
  refine opened (m := sure) hl h.h4 h.big h.hf h.g1 hc h.m0s h.sr h.nrl h.sh h.t1 h.tn h.t2 h.th (by rw [hn _ (fun x hx => (h.hp x hx).1)]; exact h.hd) (by rw [hn _ (fun x hx => (h.hp x hx).2)]; exact h.oh) (fun q hq => ?_) (fun q hq => ?_)
  · have ht1 := h.t1
    have hth := h.th
    rw [hn _ (fun x hx e => ?_)]
    · exact h.T1 q hq
    · have hcl := (h.P1 x hx q (by omega) e).2.2
      rw [h.T1 q hq] at hcl
      obtain ⟨data, hd1, hd2⟩ := tsec q (by omega)
      rw [hd2] at hcl
      exact hcl.1 (gen_sector (by omega))
  · by_cases hw : ∃ i, i < pend.length ∧ (wrAt pend i).1 = first + 1 + q
    · obtain ⟨i, hi, he⟩ := hw
      obtain ⟨p1, p2, p3⟩ := h.P1 _ (wrAt_mem hi) q hq he
      rw [crash_one h.ld h.ok hp he _ hi (Nat.le_refl _) (fun j hj hji e2 => ?_), p2]
      · obtain ⟨data, hd1, hd2⟩ := tsec q p1
        rw [hd2]
        rcases torn_off (p := 1 + q) (by omega) (getB_length h.ld (by have := h.half; omega)) p3 hd1 (pickL picks i) with e | e
        · exact .inl ⟨p1, e⟩
        · exact .inr e
      · rcases Nat.lt_or_gt_of_ne hji with hlt | hlt
        · exact h.P2 j i hlt hi (e2.trans he.symm) q hq e2
        · exact h.P2 i j hlt hj (he.trans e2.symm) q hq he
    · rw [hn _ (fun x hx e => ?_)]
      · rcases h.T2 q hq with h1 | h1
        · exact .inl h1
        · exact .inr (h1.off (by omega))
      · obtain ⟨i, hi, rfl⟩ := List.mem_iff_getElem.1 hx
        refine hw ⟨i, hi, ?_⟩
        have := wrAt_get hi
        rw [List.getElem?_eq_getElem hi] at this
        rw [← Option.some.inj this]
        exact e
theorem Inv.flushed (h : Inv sz first g seen dur pend all nr tp m0 sure c) : Inv sz first g seen seen [] all nr tp m0 nr c where
  toBase := h.toBase.flush
  hf := h.hf
  g1 := h.g1
  gc := h.gc
  m0s := Nat.le_trans h.m0s h.sr
  sr := Nat.le_refl _
  nrl := h.nrl
  sh := h.sh
  by' := h.by'
  t1 := h.t1
  tn := h.tn
  t2 := h.t2
  th := h.th
  hd := by rw [h.none (fun x hx => (h.hp x hx).1)]; exact h.hd
  oh := by rw [h.none (fun x hx => (h.hp x hx).2)]; exact h.oh
  hp := fun x hx => by simp at hx
  T1 := fun q hq => h.T3 q (by have := h.t1; omega)
  T2 := fun q hq => by
    by_cases ht : q < tp
    · exact .inl ⟨ht, h.T3 q ht⟩
    · have := h.far hq (by omega)
      exact .inr (by rw [this.1]; exact this.2)
  T3 := h.T3
  P1 := fun x hx => by simp at hx
  P2 := fun i j _ hj => by simp at hj
theorem Inv.sure' (h : Inv sz first g seen dur pend all nr tp m0 sure c) {s : Nat} (h1 : m0 ≤ s) (h2 : s ≤ sure) : Inv sz first g seen dur pend all nr tp m0 s c :=
  { h with m0s := h1, sr := Nat.le_trans h2 h.sr, T1 := fun q hq => h.T1 q (Nat.lt_of_lt_of_le hq (cntK_mono all h2)) }
end
end Go.Proofs.YtngpmilojfbpmaaDoor
/- A disk with areas: behind Add, and behind Begin. Plain lemmas. -/
namespace Go.Proofs.YtngpmilojfbpmaaDoor
open Go Go.RowKit
set_option maxRecDepth 100000

section
variable {sz first g nr tp m0 sure c : Nat} {seen dur : List Int} {pend : List Wr} {all : List (List Int)}
/-- j sectors of a record more are written. -/
theorem Inv.add (h : Inv sz first g seen dur pend all all.length (cntK all all.length) m0 sure c) {rec : List Int} {j nr' : Nat} (hl : rec.length ≤ 2000) (hb : isBytes rec) (hj : j ≤ needN rec.length) (hfit : 1 + cntK all all.length + needN rec.length ≤ sz / 2)
    (hnr : (j = needN rec.length ∧ nr' = all.length + 1) ∨ (j < needN rec.length ∧ nr' = all.length)) :
    Inv sz first g (putsK seen (first + (1 + cntK all all.length)) (packF g (1 + cntK all all.length) rec) j) dur (pend ++ wrsAt (first + (1 + cntK all all.length)) (packF g (1 + cntK all all.length) rec) j) (all ++ [rec]) nr' (cntK all all.length + j) m0 sure c := by
  have hhalf := h.half
  have hg2 := h.g2
  have hR : (packF g (1 + cntK all all.length) rec).length = 64 * needN rec.length := packF_length _ _ _
  have hgb := putsK_get (s := seen) (n0 := first + (1 + cntK all all.length)) h.ls hR j hj (by omega)
  have cA : ∀ i, i ≤ all.length → cntK (all ++ [rec]) i = cntK all i := cntK_app all [rec]
  have rl : rowAt (all ++ [rec]) all.length = rec := by unfold rowAt; simp
  have cS : cntK (all ++ [rec]) (all.length + 1) = cntK all all.length + needN rec.length := by rw [cntK, cA _ (Nat.le_refl _), rl]
  have tO : ∀ q, q < cntK all all.length → tgt g (all ++ [rec]) q = tgt g all q := fun q hq => tgt_app hq
  have tN : ∀ i, i < needN rec.length → tgt g (all ++ [rec]) (cntK all all.length + i) = getB (packF g (1 + cntK all all.length) rec) i := fun i hi => by
    have := tgt_at (g := g) (all := all ++ [rec]) (i := all.length) (j := i) (by simp) (by rw [rl]; exact hi)
    rw [cA _ (Nat.le_refl _), rl] at this
    exact this
  have hsr := h.sr
  have hm0 := h.m0s
  have hpos := needN_pos rec.length
  refine { toBase := h.toBase.writes hR hj (by omega) (packF_bytes _ _ hb) (fun i hi => ?_), hf := h.hf, g1 := h.g1, gc := h.gc, m0s := h.m0s, sr := by omega, nrl := by simp; omega, sh := fun zs hz => ?_, by' := fun zs hz => ?_, t1 := ?_, tn := ?_, t2 := fun i h1 h2 => ?_, th := by omega, hd := ?_, oh := h.oh, hp := fun x hx => ?_, T1 := fun q hq => ?_, T2 := fun q hq => ?_, T3 := fun q hq => ?_, P1 := fun x hx q hq e => ?_, P2 := fun i k hik hk he q hq e => ?_ }
  · rw [packF_get _ _ _ (by omega)]
    exact sector_small (cutP_le _ _) h.gc h.c255
  · rcases List.mem_append.1 hz with h1 | h1
    · exact h.sh zs h1
    · obtain rfl : zs = rec := by simpa using h1
      exact hl
  · rcases List.mem_append.1 hz with h1 | h1
    · exact h.by' zs h1
    · obtain rfl : zs = rec := by simpa using h1
      exact hb
  · rcases hnr with ⟨h1, h2⟩ | ⟨h1, h2⟩
    · rw [h2, cS]; omega
    · rw [h2, cA _ (Nat.le_refl _)]; omega
  · rw [List.length_append, show [rec].length = 1 from rfl, cS]; omega
  · have hi : i = all.length := by
      rw [List.length_append, show [rec].length = 1 from rfl] at h2
      omega
    rw [hi, cS]
    omega
  · rw [cA _ (by omega)]
    exact h.hd
  · rcases List.mem_append.1 hx with h1 | h1
    · exact h.hp x h1
    · obtain ⟨i, hi, rfl⟩ := mem_wrs h1
      have := h.hf
      exact ⟨by show first + (1 + cntK all all.length) + i ≠ first; omega, by show first + (1 + cntK all all.length) + i ≠ sz / 2 - first; omega⟩
  · rw [cA _ hsr] at hq
    have := cntK_mono all hsr
    rw [tO q (by omega)]
    exact h.T1 q hq
  · rcases h.T2 q hq with ⟨h1, h2⟩ | h1
    · exact .inl ⟨by omega, by rw [tO q h1]; exact h2⟩
    · exact .inr h1
  · rw [hgb.2]
    by_cases h1 : q < cntK all all.length
    · rw [if_neg (show ¬ (first + (1 + cntK all all.length) ≤ first + 1 + q ∧ first + 1 + q < first + (1 + cntK all all.length) + j) by omega), tO q h1]
      exact h.T3 q h1
    · rw [if_pos (show first + (1 + cntK all all.length) ≤ first + 1 + q ∧ first + 1 + q < first + (1 + cntK all all.length) + j by omega), show first + 1 + q - (first + (1 + cntK all all.length)) = q - cntK all all.length by omega, ← tN _ (by omega), show cntK all all.length + (q - cntK all all.length) = q by omega]
  · rcases List.mem_append.1 hx with h1 | h1
    · obtain ⟨h2, h3, h4⟩ := h.P1 x h1 q hq e
      exact ⟨by omega, by rw [tO q h2]; exact h3, h4⟩
    · obtain ⟨i, hi, rfl⟩ := mem_wrs h1
      have e2 : first + (1 + cntK all all.length) + i = first + 1 + q := e
      obtain rfl : q = cntK all all.length + i := by omega
      exact ⟨by omega, (tN i (by omega)).symm, (h.far hq (by omega)).2⟩
  · rw [List.length_append, wrsAt_length] at hk
    have hend : ∀ x, x < pend.length → (wrAt pend x).1 = first + 1 + q → q < cntK all all.length := fun x hx e3 => (h.P1 _ (wrAt_mem hx) q hq e3).1
    by_cases h1 : k < pend.length
    · rw [wrAt_left (by omega)] at he e
      rw [wrAt_left h1] at he
      exact h.P2 i k hik h1 he q hq e
    · have ek : (wrAt (pend ++ wrsAt (first + (1 + cntK all all.length)) (packF g (1 + cntK all all.length) rec) j) k).1 = first + (1 + cntK all all.length) + (k - pend.length) := by
        have := wrAt_right (p := pend) (q := wrsAt (first + (1 + cntK all all.length)) (packF g (1 + cntK all all.length) rec) j) (k - pend.length)
        rw [show pend.length + (k - pend.length) = k by omega, wrsAt_at _ _ _ _ (by omega)] at this
        rw [this]
      rw [ek] at he
      by_cases h2 : i < pend.length
      · rw [wrAt_left h2] at he e
        have := hend i h2 e
        omega
      · have ei : (wrAt (pend ++ wrsAt (first + (1 + cntK all all.length)) (packF g (1 + cntK all all.length) rec) j) i).1 = first + (1 + cntK all all.length) + (i - pend.length) := by
          have := wrAt_right (p := pend) (q := wrsAt (first + (1 + cntK all all.length)) (packF g (1 + cntK all all.length) rec) j) (i - pend.length)
          rw [show pend.length + (i - pend.length) = i by omega, wrsAt_at _ _ _ _ (by omega)] at this
          rw [this]
        rw [ei] at he
        omega
theorem rows_small {g c : Nat} {zss : List (List Int)} (hg : g ≤ c) (hc : c ≤ 255) {i : Nat} (hi : i < cntK zss zss.length) : Small c (getB (rowsK g 1 zss zss.length) i) := by
  obtain ⟨data, h1, h2⟩ := tgt_sector (g := g) (all := zss) hi
  show Small c (tgt g zss i)
  rw [h2]
  exact sector_small h1 hg hc
/-- An area is begun on the other half, as far as it goes: the old one stays. -/
theorem Inv.other (h : Inv sz first g seen dur pend all nr tp m0 sure c) {R : List Int} {k j : Nat} (hR : R.length = 64 * k) (hj : j ≤ k) (hk : 1 + k ≤ sz / 2) (hb : isBytes R) (hs : ∀ i, i < j → Small (c + 1) (getB R i)) (hc : c + 1 ≤ 255) :
    Inv sz first g (putsK seen (sz / 2 - first + 1) R j) dur (pend ++ wrsAt (sz / 2 - first + 1) R j) all nr tp m0 sure (c + 1) := by
  have hhalf := h.half
  have hf := h.hf
  have hgb := putsK_get (s := seen) (n0 := sz / 2 - first + 1) h.ls hR j hj (by omega)
  have hth := h.th
  have off : ∀ q, 1 + q < sz / 2 → ¬ (sz / 2 - first + 1 ≤ first + 1 + q ∧ first + 1 + q < sz / 2 - first + 1 + j) := fun q hq => by omega
  refine { h with toBase := (h.toBase.mono (by omega) hc).writes hR hj (by omega) hb hs, gc := Nat.le_succ_of_le h.gc, hp := fun x hx => ?_, T3 := fun q hq => ?_, P1 := fun x hx q hq e => ?_, P2 := fun i l hil hl he q hq e => ?_ }
  · rcases List.mem_append.1 hx with h1 | h1
    · exact h.hp x h1
    · obtain ⟨i, hi, rfl⟩ := mem_wrs h1
      exact ⟨by show sz / 2 - first + 1 + i ≠ first; omega, by show sz / 2 - first + 1 + i ≠ sz / 2 - first; omega⟩
  · rw [hgb.2, if_neg (off q (by omega))]
    exact h.T3 q hq
  · rcases List.mem_append.1 hx with h1 | h1
    · exact h.P1 x h1 q hq e
    · obtain ⟨i, hi, rfl⟩ := mem_wrs h1
      have e2 : sz / 2 - first + 1 + i = first + 1 + q := e
      exfalso
      exact off q hq (by omega)
  · rw [List.length_append, wrsAt_length] at hl
    have right : ∀ x, pend.length ≤ x → x < pend.length + j → (wrAt (pend ++ wrsAt (sz / 2 - first + 1) R j) x).1 ≠ first + 1 + q := fun x h1 h2 e2 => by
      have := wrAt_right (p := pend) (q := wrsAt (sz / 2 - first + 1) R j) (x - pend.length)
      rw [show pend.length + (x - pend.length) = x by omega, wrsAt_at _ _ _ _ (by omega)] at this
      rw [this] at e2
      have e3 : sz / 2 - first + 1 + (x - pend.length) = first + 1 + q := e2
      exact off q hq (by omega)
    by_cases h1 : l < pend.length
    · rw [wrAt_left (by omega)] at he e
      rw [wrAt_left h1] at he
      exact h.P2 i l hil h1 he q hq e
    · exact right l (by omega) hl (he.symm.trans e)
end
/-- A new area. -/
theorem inv_begun {sz f c : Nat} {seen dur : List Int} {pend : List Wr} {zss : List (List Int)} (h : Base sz seen dur pend c) (hc : c + 1 ≤ 255) (hf : f = 0 ∨ f = sz / 2) (sh : ∀ zs ∈ zss, zs.length ≤ 2000) (by' : ∀ zs ∈ zss, isBytes zs) {g T : Nat} (hg : (highK seen sz).toNat + 1 = g) (hT : cntK zss zss.length = T) (hfit : T ≤ sz / 2 - 1) :
    Inv sz f g (putB (putsK seen (f + 1) (rowsK g 1 zss zss.length) T) f (headL g T)) (applyK (applyK dur (pend ++ wrsAt (f + 1) (rowsK g 1 zss zss.length) T) (pend ++ wrsAt (f + 1) (rowsK g 1 zss zss.length) T).length) [(f, headL g T)] 1) [] zss zss.length T zss.length zss.length (c + 1) := by
  have h4 := h.h4
  have hhigh := h.high
  have hgc : g ≤ c + 1 := by omega
  have hR : (rowsK g 1 zss zss.length).length = 64 * T := by rw [rowsK_length, hT]
  have hfs : f + sz / 2 ≤ sz := by rcases hf with e | e <;> omega
  have hW := (h.mono (Nat.le_succ c) hc).writes (n0 := f + 1) (j := T) hR (Nat.le_refl _) (by omega) (rowsK_bytes _ _ by' _) (fun i hi => rows_small hgc hc (by omega))
  have hgb := putsK_get (s := seen) (n0 := f + 1) h.ls hR T (Nat.le_refl _) (by omega)
  have hHl := headL_length g T
  have e1 : applyK (applyK dur (pend ++ wrsAt (f + 1) (rowsK g 1 zss zss.length) T) (pend ++ wrsAt (f + 1) (rowsK g 1 zss zss.length) T).length) [(f, headL g T)] 1 = putB (putsK seen (f + 1) (rowsK g 1 zss zss.length) T) f (headL g T) := by rw [← hW.eq]; rfl
  rw [e1]
  obtain ⟨s1, hs1⟩ : ∃ s1, putsK seen (f + 1) (rowsK g 1 zss zss.length) T = s1 := ⟨_, rfl⟩
  rw [hs1] at hgb hW ⊢
  have hlen : (putB s1 f (headL g T)).length = 64 * sz := putB_length hgb.1 (by omega) hHl
  have hget : ∀ m, getB (putB s1 f (headL g T)) m = if m = f then headL g T else getB s1 m := fun m => getB_put hgb.1 (by omega) hHl
  have hby : isBytes (putB s1 f (headL g T)) := put_bytes hW.bs (headL_bytes g T)
  have hsm : ∀ m, m < sz → Small (c + 1) (getB (putB s1 f (headL g T)) m) := fun m hm => by
    rw [hget]
    split
    · exact headL_small hgc hc
    · exact hW.sms m hm
  have tg : ∀ q, q < T → getB (putB s1 f (headL g T)) (f + 1 + q) = tgt g zss q := fun q hq => by
    rw [hget, if_neg (show ¬ f + 1 + q = f by omega), hgb.2, if_pos (show f + 1 ≤ f + 1 + q ∧ f + 1 + q < f + 1 + T by omega), show f + 1 + q - (f + 1) = q by omega]
    rfl
  refine { toBase := ⟨hlen, hlen, fun x hx => by simp at hx, hby, hby, fun x hx => by simp at hx, rfl, hsm, fun x hx => by simp at hx, hc, h4, h.big⟩, hf := hf, g1 := by omega, gc := hgc, m0s := Nat.le_refl _, sr := Nat.le_refl _, nrl := Nat.le_refl _, sh := sh, by' := by', t1 := by omega, tn := by omega, t2 := fun i h1 h2 => by omega, th := by omega, hd := ?_, oh := ?_, hp := fun x hx => by simp at hx, T1 := fun q hq => tg q (by omega), T2 := fun q hq => ?_, T3 := tg, P1 := fun x hx => by simp at hx, P2 := fun i j _ hj => by simp at hj }
  · rw [hget, if_pos rfl, hT]
  · rw [hget, if_neg (by omega), hgb.2, if_neg (by omega)]
    have := (highK_ge (l := seen) (m := sz / 2 - f) sz (by omega)).1
    omega
  · by_cases h1 : q < T
    · exact .inl ⟨h1, tg q h1⟩
    · right
      rw [hget, if_neg (show ¬ f + 1 + q = f by omega), hgb.2, if_neg (show ¬ (f + 1 ≤ f + 1 + q ∧ f + 1 + q < f + 1 + T) by omega)]
      have := highK_ge (l := seen) (m := f + 1 + q) sz (by omega)
      exact ⟨by omega, by omega⟩
theorem base_new {n : Nat} (h4 : 4 ≤ n) (hb : n ≤ 4096) : Base n (zeros (64 * n)) (zeros (64 * n)) [] 0 := by
  have hl : (zeros (64 * n)).length = 64 * n := zeros_length _
  refine ⟨hl, hl, fun x hx => by simp at hx, zeros_bytes _, zeros_bytes _, fun x hx => by simp at hx, rfl, fun m _ => ?_, fun x hx => by simp at hx, by omega, h4, hb⟩
  have e : getB (zeros (64 * n)) m = zeros (min 64 (64 * n - 64 * m)) := by
    unfold getB zeros
    rw [List.drop_replicate, List.take_replicate]
  rw [e]
  exact zeros_small
/-- Where the next area is begun. -/
theorem Opened.fresh {I : List Int} {half first g K f : Nat} {all : List (List Int)} (h : Opened I half first g all K) (hf : first = 0 ∨ first = half) (h0 : 0 < half) (hfr : FreshAt I half f) : f = half - first := by
  rcases hfr with ⟨h1, rfl⟩ | ⟨h1, rfl⟩
  · obtain rfl := h.cur.unique h1 h0
    omega
  · rcases hf with rfl | rfl
    · exact absurd h.cur h1
    · omega
theorem fresh_at {I : List Int} {half f : Nat} (hfr : FreshAt I half f) : f = 0 ∨ f = half := by
  rcases hfr with ⟨_, h⟩ | ⟨_, h⟩
  · exact .inr h
  · exact .inl h
end Go.Proofs.YtngpmilojfbpmaaDoor
/- The statements' first line, of layer 5: alive. -/
namespace Go.Proofs.YtngpmilojfbpmaaDoor
open Go Go.RowKit
set_option maxRecDepth 100000

theorem calls_args {P : Program} {f : FuncId} {args args' : Array Value} {w : World} {R : Ending → World → Prop} (h : args = args') (hc : Calls P f args' w R) : Calls P f args w R := by rw [h]; exact hc
theorem one_bytes : ∀ zs ∈ ([[1]] : List (List Int)), isBytes zs := fun zs hz => by
  obtain rfl : zs = [1] := by simpa using hz
  unfold isBytes
  decide
theorem two_bytes : isBytes [2, 3] := by unfold isBytes; decide
theorem bytes_blk_off {F : List Nat} {w : World} {b n : Nat} {zs : List Int} (h : Blk w b 5 (ints .u8 zs)) (hn : zs.length = n) (hF : b ∉ F) : BytesOff F w (.slice (some ⟨b, 0, none⟩) n n) zs := by
  subst hn
  exact ⟨some ⟨b, 0, none⟩, zs.length, rfl, Nat.le_refl _, fun _ => ⟨b, 0, rfl, hF, h.lt, h.whole⟩⟩
theorem parts_row {F : List Nat} {w : World} {q : Nat} {v : Value} {zs : List Int} (hq : Blk w q 22 [v]) (hqF : q ∉ F) (hv : BytesOff F w v zs) (hn : NilOk v) (hl : zs.length ≤ 1000000) : PartsOff F w (.slice (some ⟨q, 0, none⟩) 1 1) [zs] := by
  refine ⟨some ⟨q, 0, none⟩, 1, [v], rfl, rfl, by simp, fun _ => ⟨q, 0, rfl, hqF, hq.lt, hq.whole⟩, fun k v' zs' h1 h2 => ?_⟩
  cases k with
  | zero =>
    obtain rfl := Option.some.inj h1
    obtain rfl := Option.some.inj h2
    exact ⟨hv, hn, by omega⟩
  | succ k => simp at h1
theorem parts_none_off (F : List Nat) (w : World) : PartsOff F w (.slice none 0 0) [] := ⟨none, 0, [], rfl, rfl, by simp, fun h => absurd h (by simp), fun k v zs h => by simp at h⟩
/-- Where no sector bears a generation, no area is valid. -/
theorem no_valid {sz f : Nat} {seen dur : List Int} {pend : List Wr} (h : Base sz seen dur pend 0) (hf : f + sz / 2 ≤ sz) : ¬ validP (secsP seen f (sz / 2)) (sz / 2) := fun hv => by
  have h4 := h.h4
  have h1 := hv.1.2.1.2.2.2.1.2.1
  unfold headB at h1
  rw [secsP_get f (by omega), Nat.add_zero] at h1
  have := (h.sms f (by omega)).gen (getB_length h.ls (by omega))
  omega
theorem no_cur {sz f : Nat} {seen dur : List Int} {pend : List Wr} (h : Base sz seen dur pend 0) : ¬ CurAt seen (sz / 2) f := fun hc => by
  have h4 := h.h4
  rcases hc with ⟨_, hv, _⟩ | ⟨_, hv, _⟩
  · exact no_valid h (by omega) hv
  · exact no_valid h (by omega) hv
theorem done_neg {T : Nat} : doneN (-1) T = T := rfl
theorem left_neg {T : Nat} : leftK (-1) T = -1 := rfl
theorem scan_n {sz first g nr tp m0 sure c : Nat} {seen dur : List Int} {pend : List Wr} {all : List (List Int)} (h : Inv sz first g seen dur pend all nr tp m0 sure c) : scanN (secsP seen first (sz / 2)) nr = 1 + cntK all nr := by
  have hhalf := h.half
  have hth := h.th
  have ht1 := h.t1
  have hg := h.g2
  have hbig := h.big
  exact (scan_ok (L := secsP seen first (sz / 2)) (g := g) (half := sz / 2) (secsP_length h.ls hhalf) h.g1 (by omega) (by omega) h.sh h.nrl (by omega) (fun q hq => by rw [secsP_get first (by omega), ← Nat.add_assoc]; exact h.T3 q (by omega)) nr (Nat.le_refl _)).1
theorem NewRows.slice {B : Nat} {w : World} {v : Value} {zss : List (List Int)} (h : NewRows B w v zss) : ∃ q, v = .slice (some ⟨q, 0, none⟩) zss.length zss.length := by
  obtain ⟨q, vs, h1, _⟩ := h
  exact ⟨q, h1⟩
/-- A begun area on a new disk. -/
theorem begun_new {d n : Nat} {F : List Nat} {w w' : World} {e : Ending} {zss : List (List Int)} (h4 : 4 ≤ n) (hb : n ≤ 4096) (sh : ∀ zs ∈ zss, zs.length ≤ 2000) (by' : ∀ zs ∈ zss, isBytes zs) (hT : cntK zss zss.length ≤ n / 2 - 1)
    (hp : BeginPost [] F d n (zeros (64 * n)) (zeros (64 * n)) [] (-1) ((highK (zeros (64 * n)) n).toNat + 1) zss w e w') :
    ∃ ab, e = .returned (.tuple #[.pointer (some ⟨ab, 0, none⟩), .int .i64 0]) ∧ ∃ A F' seen dur, Ar w' A F' ab d 0 (n / 2) 1 (1 + cntK zss zss.length) false zss ∧ Dk w' F' d n seen dur [] (-1) ∧ Inv n 0 1 seen dur [] zss zss.length (cntK zss zss.length) zss.length zss.length 1 ∧ Step F w (A ++ F') w' := by
  have BN := base_new h4 hb
  have hgen : (highK (zeros (64 * n)) n).toNat + 1 = 1 := by have := BN.high; omega
  rw [hgen] at hp
  rcases hp with ⟨h1, _⟩ | ⟨_, _, f, hfr, h1⟩
  · omega
  · have hf0 : f = 0 := by
      rcases hfr with ⟨h2, _⟩ | ⟨_, h2⟩
      · exact absurd h2 (no_cur BN)
      · exact h2
    subst hf0
    rcases h1 with ⟨h2, _⟩ | ⟨_, h2, _⟩ | ⟨_, _, ab, h2, A, F5, h3, h5, h6⟩
    · rw [done_neg] at h2; omega
    · rw [left_neg] at h2; omega
    · exact ⟨ab, h2, A, F5, _, _, h3, h5, inv_begun BN (by omega) (.inl rfl) sh by' hgen rfl hT, h6⟩
end Go.Proofs.YtngpmilojfbpmaaDoor
