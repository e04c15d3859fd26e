/- A disk as lists of bytes and of pending writes: plain definitions and lemmas; nothing about the program. -/
import Derived.Test.YtoeilaedpibboaaDoorGenB
namespace Go.Proofs.YtoeilaedpibboaaDoor
open Go Go.RowKit

/-- A sector overwritten. -/
def putB (l : List Int) (n : Nat) (b : List Int) : List Int := l.take (64 * n) ++ (b ++ l.drop (64 * n + 64))
/-- A sector. -/
def getB (l : List Int) (n : Nat) : List Int := (l.drop (64 * n)).take 64
/-- A write. -/
abbrev Wr := Nat × List Int
def wrAt (p : List Wr) (k : Nat) : Wr := p.getD k (0, [])
def okW (sz : Nat) (p : List Wr) : Prop := ∀ x ∈ p, x.1 < sz ∧ x.2.length = 64
/-- So many of the writes performed. -/
def applyK (dur : List Int) (p : List Wr) : Nat → List Int
  | 0 => dur
  | k + 1 => putB (applyK dur p k) (wrAt p k).1 (wrAt p k).2
def pickL (picks : List Int) (i : Nat) : Int := if picks.length = 0 then 0 else picks.getD (i % picks.length) 0
def crash1 (before after : List Int) (p : Int) : List Int :=
  if p / 64 = 1 then after else if p / 64 = 2 then after.take (p % 64).toNat ++ before.drop (p % 64).toNat
  else if p / 64 = 3 then before.take (64 - (p % 64).toNat) ++ after.drop (64 - (p % 64).toNat) else before
def crashK (dur : List Int) (p : List Wr) (picks : List Int) : Nat → List Int
  | 0 => dur
  | k + 1 => putB (crashK dur p picks k) (wrAt p k).1 (crash1 (getB (crashK dur p picks k) (wrAt p k).1) (wrAt p k).2 (pickL picks k))
def keptK (picks : List Int) : Nat → Nat
  | 0 => 0
  | k + 1 => keptK picks k + if 64 ≤ pickL picks k then 1 else 0
def seenK (seen dur : List Int) (p : List Wr) : Nat → List Int
  | 0 => seen
  | k + 1 => putB (seenK seen dur p k) (wrAt p k).1 (getB dur (wrAt p k).1)

theorem putB_length {l b : List Int} {n sz : Nat} (hl : l.length = 64 * sz) (hn : n < sz) (hb : b.length = 64) : (putB l n b).length = 64 * sz := by
  unfold putB
  rw [List.length_append, List.length_append, List.length_take, List.length_drop, hb]
  omega
theorem getB_length {l : List Int} {n sz : Nat} (hl : l.length = 64 * sz) (hn : n < sz) : (getB l n).length = 64 := by
  unfold getB
  rw [List.length_take, List.length_drop]
  omega
theorem wrAt_ok {sz : Nat} {p : List Wr} (h : okW sz p) {k : Nat} (hk : k < p.length) : (wrAt p k).1 < sz ∧ (wrAt p k).2.length = 64 := by
  refine h _ ?_
  unfold wrAt
  rw [List.getD_eq_getElem?_getD, List.getElem?_eq_getElem hk]
  exact List.getElem_mem hk
theorem wrAt_get {p : List Wr} {k : Nat} (hk : k < p.length) : p[k]? = some (wrAt p k) := by
  unfold wrAt
  rw [List.getD_eq_getElem?_getD, List.getElem?_eq_getElem hk]
  rfl
theorem applyK_length {dur : List Int} {p : List Wr} {sz : Nat} (hl : dur.length = 64 * sz) (hp : okW sz p) : ∀ k, k ≤ p.length → (applyK dur p k).length = 64 * sz
  | 0, _ => hl
  | k + 1, h => by
    have := wrAt_ok hp (k := k) (by omega)
    exact putB_length (applyK_length hl hp k (by omega)) this.1 this.2
theorem crash1_length {b a : List Int} (hb : b.length = 64) (ha : a.length = 64) (p : Int) (h0 : 0 ≤ p) : (crash1 b a p).length = 64 := by
  unfold crash1
  have := Int.emod_nonneg p (show (64 : Int) ≠ 0 by decide)
  have := Int.emod_lt_of_pos p (show (0 : Int) < 64 by decide)
  split
  · exact ha
  · split
    · rw [List.length_append, List.length_take, List.length_drop]; omega
    · split
      · rw [List.length_append, List.length_take, List.length_drop]; omega
      · exact hb
theorem pickL_range {picks : List Int} (hb : isBytes picks) (i : Nat) : 0 ≤ pickL picks i ∧ pickL picks i ≤ 255 := by
  unfold pickL
  split
  · omega
  · rename_i h
    have hlt : i % picks.length < picks.length := Nat.mod_lt _ (by omega)
    rw [List.getD_eq_getElem?_getD, List.getElem?_eq_getElem hlt]
    exact hb _ (List.getElem_mem hlt)
theorem crashK_length {dur : List Int} {p : List Wr} {picks : List Int} {sz : Nat} (hl : dur.length = 64 * sz) (hp : okW sz p) (hb : isBytes picks) : ∀ k, k ≤ p.length → (crashK dur p picks k).length = 64 * sz
  | 0, _ => hl
  | k + 1, h => by
    have h1 := wrAt_ok hp (k := k) (by omega)
    have h2 := crashK_length hl hp hb k (by omega)
    exact putB_length h2 h1.1 (crash1_length (getB_length h2 h1.1) h1.2 _ (pickL_range hb k).1)
theorem seenK_length {seen dur : List Int} {p : List Wr} {sz : Nat} (hl : seen.length = 64 * sz) (hd : dur.length = 64 * sz) (hp : okW sz p) : ∀ k, k ≤ p.length → (seenK seen dur p k).length = 64 * sz
  | 0, _ => hl
  | k + 1, h => by
    have h1 := wrAt_ok hp (k := k) (by omega)
    exact putB_length (seenK_length hl hd hp k (by omega)) h1.1 (getB_length hd h1.1)
theorem keptK_le (picks : List Int) : ∀ k, keptK picks k ≤ k
  | 0 => Nat.le_refl _
  | k + 1 => by have := keptK_le picks k; unfold keptK; split <;> omega
/-- A sector is stored into a block that begins with just these bytes. -/
theorem splice_putB {l b : List Int} {r : List Value} {n sz : Nat} (hl : l.length = 64 * sz) (hn : n < sz) (hb : b.length = 64) : splice (ints .u8 l ++ r) (64 * n) (ints .u8 b) = ints .u8 (putB l n b) ++ r := by
  unfold splice putB
  rw [List.take_append_of_le_length (by rw [ints_length]; omega), List.drop_append_of_le_length (by rw [ints_length, ints_length]; omega)]
  simp only [ints, List.map_append, List.map_take, List.map_drop, List.append_assoc, List.length_map, hb]
/-- The cells of a write. -/
def wcells (x : Wr) : List Value := .int .i64 (x.1 : Int) :: ints .u8 x.2
def pcells (p : List Wr) : List Value := p.flatMap wcells
theorem wcells_length {x : Wr} (h : x.2.length = 64) : (wcells x).length = 65 := by simp [wcells, ints_length, h]
theorem pcells_length {sz : Nat} {p : List Wr} (h : okW sz p) : (pcells p).length = p.length * 65 := by
  induction p with
  | nil => rfl
  | cons x p ih =>
    have h1 := ih (fun y hy => h y (by simp [hy]))
    have h2 := wcells_length (h x (by simp)).2
    unfold pcells at *
    rw [List.flatMap_cons, List.length_append, h1, h2, List.length_cons]
    omega
theorem pcells_at {sz : Nat} {p : List Wr} (h : okW sz p) {k : Nat} (hk : k < p.length) {j : Nat} {v : Value} (hv : (wcells (wrAt p k))[j]? = some v) : (pcells p)[65 * k + j]? = some v := by
  induction p generalizing k with
  | nil => simp at hk
  | cons x p ih =>
    have h2 := wcells_length (h x (by simp)).2
    unfold pcells
    rw [List.flatMap_cons]
    cases k with
    | zero =>
      have hj : j < (wcells x).length := by
        have e : wrAt (x :: p) 0 = x := rfl
        rw [e] at hv
        exact (List.getElem?_eq_some_iff.1 hv).1
      rw [Nat.mul_zero, Nat.zero_add, List.getElem?_append_left hj]
      exact hv
    | succ k =>
      rw [List.getElem?_append_right (by rw [h2]; omega), h2, show 65 * (k + 1) + j - 65 = 65 * k + j by omega]
      exact ih (fun y hy => h y (by simp [hy])) (by simpa using hk) hv
theorem pcells_snoc (p : List Wr) (x : Wr) : pcells (p ++ [x]) = pcells p ++ wcells x := by simp [pcells]
theorem wcells_one (x : Wr) : ∀ v ∈ wcells x, v.oneCell' = true := fun v hv => by
  rcases List.mem_cons.1 hv with rfl | h
  · rfl
  · exact ints_one .u8 x.2 v h
theorem wcells_ok (x : Wr) : (wcells x).toArray.all (·.oneCell') = true := all_oneCell_toArray (wcells_one x)
end Go.Proofs.YtoeilaedpibboaaDoor
