/- Package lex as plain functions over bytes, and what they say of each other. -/
import Derived.Lib.Bytealg
import Derived.Lib.Strings
namespace Go.Proofs.Ytdacmogedchnaaa
open Go
set_option maxRecDepth 100000
def isLet (c : UInt8) : Bool := decide ((97 ≤ c.toNat ∧ c.toNat ≤ 122) ∨ (65 ≤ c.toNat ∧ c.toNat ≤ 90))
def isDig (c : UInt8) : Bool := decide (48 ≤ c.toNat ∧ c.toNat ≤ 57)
def inW (c : UInt8) : Bool := isLet c || isDig c || decide (c.toNat = 95) || decide (c.toNat = 46)
def inC (c : UInt8) : Bool := decide (32 ≤ c.toNat ∧ c.toNat ≤ 126)
def runL (p : UInt8 → Bool) (l : List UInt8) : Nat := (l.takeWhile p).length
theorem runL_cons (p : UInt8 → Bool) (c : UInt8) (l : List UInt8) : runL p (c :: l) = if p c = true then runL p l + 1 else 0 := by
 unfold runL
 rw [List.takeWhile_cons]
 split <;> rfl
theorem runL_le (p : UInt8 → Bool) (l : List UInt8) : runL p l ≤ l.length := by
 induction l with
 | nil => exact Nat.le_refl _
 | cons c l ih =>
  rw [runL_cons, List.length_cons]
  split <;> omega
theorem runL_stop (p : UInt8 → Bool) (r : List UInt8) (hr : ∀ z r', r = z :: r' → p z = false) : ∀ l : List UInt8, runL p (l ++ r) = runL p l
 | [] => by
  cases r with
  | nil => rfl
  | cons z r' => rw [List.nil_append, runL_cons, if_neg (by rw [hr z r' rfl]; simp)]; rfl
 | c :: l => by
  rw [List.cons_append, runL_cons, runL_cons, runL_stop p r hr l]
theorem runL_take (p : UInt8 → Bool) : ∀ l : List UInt8, runL p (l.take (runL p l)) = runL p l
 | [] => rfl
 | c :: l => by
  rw [runL_cons]
  by_cases h : p c = true
  ·rw [if_pos h, List.take_succ_cons, runL_cons, if_pos h, runL_take p l]
  ·rw [if_neg h]; rfl
theorem runL_next (p : UInt8 → Bool) : ∀ (l : List UInt8) (z : UInt8) (r : List UInt8), l.drop (runL p l) = z :: r → p z = false
 | [], z, r, h => by cases h
 | c :: l, z, r, h => by
  rw [runL_cons] at h
  by_cases hc : p c = true
  ·rw [if_pos hc, List.drop_succ_cons] at h
   exact runL_next p l z r h
  ·rw [if_neg hc] at h
   obtain ⟨rfl, -⟩ := List.cons.inj h
   simpa using hc
def numV (l : List UInt8) : Nat := l.foldl (fun n c => n * 10 + (c.toNat - 48)) 0
def badNum (l : List UInt8) : Prop := l = [] ∨ 6 < l.length ∨ (1 < l.length ∧ l.head? = some 48) ∨ l.all isDig = false
instance (l : List UInt8) : Decidable (badNum l) := by unfold badNum; infer_instance
/-- A number's value. -/
def numO (l : List UInt8) : Option Nat := if badNum l then none else some (numV l)
def signs12 : List UInt8 := [40, 41, 91, 93, 123, 125, 44, 59, 124, 43, 64, 58]
def wordL : List UInt8 → Nat
 | [] => 0
 | c :: l => if isLet c = true then runL inW (c :: l) else 0
def numLx (l : List UInt8) : Nat := if (numO (l.take (runL isDig l))).isSome = true then runL isDig l else 0
def signL : List UInt8 → Nat
 | [] => 0
 | c :: l => if Lib.hasPrefix (c :: l) [58, 61] = true then 2 else if 0 ≤ Lib.indexByte signs12 c then 1 else 0
def gapL : List UInt8 → Nat
 | [] => 0
 | c :: l => if Lib.hasPrefix (c :: l) [45, 45] = true then runL inC (c :: l) else if c = 32 ∨ c = 10 then 1 else 0
def tokAt (l : List UInt8) : Option (Nat × Nat) :=
 if 0 < wordL l then some (1, wordL l) else if 0 < numLx l then some (2, numLx l) else if 0 < signL l then some (3, signL l) else none
structure Tk where
 k : Nat
 t : List UInt8
 p : Nat
def consR (x : Tk) : Except Nat (List Tk) → Except Nat (List Tk)
 | .ok ts => .ok (x :: ts)
 | .error e => .error e
def preR (xs : List Tk) : Except Nat (List Tk) → Except Nat (List Tk)
 | .ok ts => .ok (xs ++ ts)
 | .error e => .error e
def scanF : Nat → List UInt8 → Nat → Except Nat (List Tk)
 | _, [], _ => .ok []
 | 0, _ :: _, _ => .ok []
 | f + 1, c :: l, a => match tokAt (c :: l) with
  | some (k, n) => consR ⟨k, (c :: l).take n, a⟩ (scanF f ((c :: l).drop n) (a + n))
  | none => if gapL (c :: l) = 0 then .error a else scanF f ((c :: l).drop (gapL (c :: l))) (a + gapL (c :: l))
/-- The tokens of a text that begins at place a, or the place at which none begins. -/
def scanS (l : List UInt8) (a : Nat) : Except Nat (List Tk) := scanF l.length l a
theorem pre2 (x y a : UInt8) (l : List UInt8) : Lib.hasPrefix (a :: l) [x, y] = (x == a && (match l with | [] => false | b :: _ => y == b)) := by
 unfold Lib.hasPrefix
 cases l with
 | nil => simp [List.isPrefixOf]
 | cons b l => simp [List.isPrefixOf]
theorem signL_le (l : List UInt8) : signL l ≤ l.length := by
 cases l with
 | nil => exact Nat.le_refl _
 | cons c l =>
  rw [signL]
  split
  ·next h =>
   rw [pre2] at h
   cases l with
   | nil => simp at h
   | cons _ _ => simp
  ·split <;> simp
theorem wordL_le (l : List UInt8) : wordL l ≤ l.length := by
 cases l with
 | nil => exact Nat.le_refl _
 | cons c l =>
  rw [wordL]
  split
  ·exact runL_le _ _
  ·exact Nat.zero_le _
theorem numLx_le (l : List UInt8) : numLx l ≤ l.length := by
 unfold numLx
 split
 ·exact runL_le _ _
 ·exact Nat.zero_le _
theorem gapL_le (l : List UInt8) : gapL l ≤ l.length := by
 cases l with
 | nil => exact Nat.le_refl _
 | cons c l =>
  rw [gapL]
  split
  ·exact runL_le _ _
  ·split <;> simp
theorem tokAt_pos {l : List UInt8} {k n : Nat} (h : tokAt l = some (k, n)) : 0 < n ∧ n ≤ l.length ∧ 1 ≤ k ∧ k ≤ 3 := by
 unfold tokAt at h
 split at h
 ·next hp =>
  obtain ⟨rfl, rfl⟩ := Prod.mk.inj (Option.some.inj h)
  exact ⟨hp, wordL_le l, by omega, by omega⟩
 ·split at h
  ·next hp =>
   obtain ⟨rfl, rfl⟩ := Prod.mk.inj (Option.some.inj h)
   exact ⟨hp, numLx_le l, by omega, by omega⟩
  ·split at h
   ·next hp =>
    obtain ⟨rfl, rfl⟩ := Prod.mk.inj (Option.some.inj h)
    exact ⟨hp, signL_le l, by omega, by omega⟩
   ·cases h
theorem scanF_eq : ∀ (f g : Nat) (l : List UInt8) (a : Nat), l.length ≤ f → l.length ≤ g → scanF f l a = scanF g l a
 | 0, 0, [], _, _, _ => rfl
 | 0, _ + 1, [], _, _, _ => rfl
 | _ + 1, 0, [], _, _, _ => rfl
 | _ + 1, _ + 1, [], _, _, _ => rfl
 | 0, _, _ :: _, _, h, _ => by simp at h
 | _, 0, _ :: _, _, _, h => by simp at h
 | f + 1, g + 1, c :: l, a, hf, hg => by
  rw [List.length_cons] at hf hg
  rw [scanF, scanF]
  cases ht : tokAt (c :: l) with
  | some x =>
   obtain ⟨k, n⟩ := x
   have hn := tokAt_pos ht
   dsimp only
   rw [scanF_eq f g _ _ (by rw [List.length_drop, List.length_cons]; omega) (by rw [List.length_drop, List.length_cons]; omega)]
  | none =>
   dsimp only
   split
   ·rfl
   ·exact scanF_eq f g _ _ (by rw [List.length_drop, List.length_cons]; omega) (by rw [List.length_drop, List.length_cons]; omega)
theorem scanS_nil (a : Nat) : scanS [] a = .ok [] := rfl
theorem scanS_tok {l : List UInt8} {k n : Nat} (h : tokAt l = some (k, n)) (a : Nat) : scanS l a = consR ⟨k, l.take n, a⟩ (scanS (l.drop n) (a + n)) := by
 have hn := tokAt_pos h
 cases l with
 | nil => simp at hn; omega
 | cons c l =>
  unfold scanS
  rw [List.length_cons, scanF, h]
  dsimp only
  rw [scanF_eq l.length ((c :: l).drop n).length _ _ (by rw [List.length_drop, List.length_cons]; omega) (Nat.le_refl _)]
theorem scanS_gap {l : List UInt8} (h : tokAt l = none) (hg : gapL l ≠ 0) (a : Nat) : scanS l a = scanS (l.drop (gapL l)) (a + gapL l) := by
 cases l with
 | nil => exact absurd rfl hg
 | cons c l =>
  unfold scanS
  rw [List.length_cons, scanF, h]
  dsimp only
  rw [if_neg hg, scanF_eq l.length ((c :: l).drop (gapL (c :: l))).length _ _ (by rw [List.length_drop, List.length_cons]; omega) (Nat.le_refl _)]
theorem scanS_bad {l : List UInt8} (h : tokAt l = none) (hg : gapL l = 0) (hl : l ≠ []) (a : Nat) : scanS l a = .error a := by
 cases l with
 | nil => exact absurd rfl hl
 | cons c l =>
  unfold scanS
  rw [List.length_cons, scanF, h]
  dsimp only
  rw [if_pos hg]
theorem preR_nil (r : Except Nat (List Tk)) : preR [] r = r := by cases r <;> rfl
theorem preR_cons (x : Tk) (xs : List Tk) (r : Except Nat (List Tk)) : preR xs (consR x r) = preR (xs ++ [x]) r := by cases r <;> simp [preR, consR]
/-- No token goes on into what is behind. -/
def Stop (r : List UInt8) : Prop := ∀ z r', r = z :: r' → inW z = false ∧ z ≠ 61
theorem Stop.dig {r : List UInt8} (h : Stop r) : ∀ z r', r = z :: r' → isDig z = false := fun z r' e => by
 have := (h z r' e).1
 unfold inW at this
 simp at this
 exact this.1.1.2
theorem wordL_stop {r : List UInt8} (hr : Stop r) {l : List UInt8} (hl : l ≠ []) : wordL (l ++ r) = wordL l := by
 cases l with
 | nil => exact absurd rfl hl
 | cons c l =>
  rw [List.cons_append, wordL, wordL, ← List.cons_append, runL_stop inW r (fun z r' e => (hr z r' e).1)]
theorem numLx_stop {r : List UInt8} (hr : Stop r) (l : List UInt8) : numLx (l ++ r) = numLx l := by
 unfold numLx
 rw [runL_stop isDig r hr.dig, List.take_append_of_le_length (runL_le _ _)]
theorem signL_stop {r : List UInt8} (hr : Stop r) {l : List UInt8} (hl : l ≠ []) : signL (l ++ r) = signL l := by
 cases l with
 | nil => exact absurd rfl hl
 | cons c l =>
  rw [List.cons_append, signL, signL, pre2, pre2]
  cases l with
  | nil =>
   cases r with
   | nil => rfl
   | cons z r' =>
    have e : ((61 : UInt8) == z) = false := by
     have := (hr z r' rfl).2
     simp
     exact fun h => this h.symm
    simp [e]
  | cons d l => rfl
theorem tokAt_stop {r : List UInt8} (hr : Stop r) {l : List UInt8} (hl : l ≠ []) : tokAt (l ++ r) = tokAt l := by
 unfold tokAt
 rw [wordL_stop hr hl, numLx_stop hr, signL_stop hr hl]
theorem take_ne {l : List UInt8} {n : Nat} (hn : 0 < n) (hl : n ≤ l.length) : ∃ c r, l = c :: r ∧ l.take n = c :: r.take (n - 1) := by
 cases l with
 | nil => simp at hl; omega
 | cons c r =>
  obtain ⟨m, rfl⟩ : ∃ m, n = m + 1 := ⟨n - 1, by omega⟩
  exact ⟨c, r, rfl, by rw [List.take_succ_cons]; rfl⟩
theorem wordL_zero {c : UInt8} (r : List UInt8) (h : isLet c = false) : wordL (c :: r) = 0 := by rw [wordL, if_neg (by rw [h]; simp)]
theorem numLx_zero {c : UInt8} (r : List UInt8) (h : isDig c = false) : numLx (c :: r) = 0 := by
 have e : runL isDig (c :: r) = 0 := by rw [runL_cons, if_neg (by rw [h]; simp)]
 unfold numLx
 rw [e, ite_self]
theorem let_of_word {c : UInt8} {r : List UInt8} (h : wordL (c :: r) = 0) : isLet c = false := by
 rw [wordL] at h
 by_cases hc : isLet c = true
 ·rw [if_pos hc, runL_cons, if_pos (by unfold inW; simp [hc])] at h; omega
 ·simpa using hc
/-- A token stands by itself. -/
theorem tokAt_take {l : List UInt8} {k n : Nat} (h : tokAt l = some (k, n)) : tokAt (l.take n) = some (k, n) := by
 have hp := tokAt_pos h
 obtain ⟨c, r, rfl, et⟩ := take_ne hp.1 hp.2.1
 rw [et]
 unfold tokAt at h
 split at h
 ·next hw =>
  obtain ⟨rfl, rfl⟩ := Prod.mk.inj (Option.some.inj h)
  have hc : isLet c = true := by
   rw [wordL] at hw
   by_cases hc : isLet c = true
   ·exact hc
   ·rw [if_neg hc] at hw; omega
  have e : wordL (c :: r) = runL inW (c :: r) := by rw [wordL, if_pos hc]
  have e2 : wordL (c :: r.take (wordL (c :: r) - 1)) = wordL (c :: r) := by
   rw [wordL, if_pos hc, ← et, e, runL_take]
  unfold tokAt
  rw [e2, if_pos hw]
 ·next hw =>
  have hc : isLet c = false := let_of_word (r := r) (by omega)
  split at h
  ·next hn =>
   obtain ⟨rfl, rfl⟩ := Prod.mk.inj (Option.some.inj h)
   have e : numLx (c :: r) = runL isDig (c :: r) := by
    unfold numLx at hn ⊢
    split at hn
    ·next h1 => rw [if_pos h1]
    ·omega
   have h1 : (numO ((c :: r).take (runL isDig (c :: r)))).isSome = true := by
    unfold numLx at hn
    split at hn
    ·next h1 => exact h1
    ·omega
   have e2 : numLx (c :: r.take (numLx (c :: r) - 1)) = numLx (c :: r) := by
    rw [← et, e]
    unfold numLx
    rw [runL_take, List.take_take, Nat.min_self, if_pos h1]
   unfold tokAt
   rw [wordL_zero _ hc, if_neg (by omega), e2, if_pos hn]
  ·next hn =>
   have hd : isDig c = false ∨ isDig c = true := by cases isDig c <;> simp
   split at h
   ·next hs =>
    obtain ⟨rfl, rfl⟩ := Prod.mk.inj (Option.some.inj h)
    have hsg : signL (c :: r.take (signL (c :: r) - 1)) = signL (c :: r) := by
     rw [signL] at hs ⊢
     rw [signL]
     by_cases hp2 : Lib.hasPrefix (c :: r) [58, 61] = true
     ·rw [if_pos hp2]
      rw [pre2] at hp2
      cases r with
      | nil => simp at hp2
      | cons d r =>
       rw [List.take_succ_cons, pre2, if_pos]
       exact hp2
     ·rw [if_neg hp2] at hs ⊢
      by_cases hx : 0 ≤ Lib.indexByte signs12 c
      ·rw [if_pos hx, pre2, if_neg (by simp)]
      ·rw [if_neg hx] at hs; omega
    have hnum : numLx (c :: r.take (signL (c :: r) - 1)) = 0 := by
     rcases hd with hd | hd
     ·exact numLx_zero _ hd
     ·-- a digit is no sign
      exfalso
      rw [signL, pre2] at hs
      have h58 : ((58 : UInt8) == c) = false := by
       have : c ≠ 58 := by rintro rfl; revert hd; decide
       simp; exact fun e => this e.symm
      rw [h58, Bool.false_and, if_neg (by simp)] at hs
      have key : ∀ d : UInt8, isDig d = true → ¬ 0 ≤ Lib.indexByte signs12 d := by
       intro d hd
       have hb : 48 ≤ d.toNat ∧ d.toNat ≤ 57 := by unfold isDig at hd; simpa using hd
       have e : d = UInt8.ofNat d.toNat := by simp
       rw [e]
       generalize d.toNat = m at hb
       obtain ⟨h1, h2⟩ := hb
       have : m = 48 ∨ m = 49 ∨ m = 50 ∨ m = 51 ∨ m = 52 ∨ m = 53 ∨ m = 54 ∨ m = 55 ∨ m = 56 ∨ m = 57 := by omega
       rcases this with rfl | rfl | rfl | rfl | rfl | rfl | rfl | rfl | rfl | rfl <;> decide
      rw [if_neg (key c hd)] at hs
      omega
    unfold tokAt
    rw [wordL_zero _ hc, if_neg (by omega), hnum, if_neg (by omega), hsg, if_pos hs]
   ·cases h
theorem tokAt_none {c : UInt8} (r : List UInt8) (h1 : isLet c = false) (h2 : isDig c = false) (h3 : Lib.indexByte signs12 c = -1) (h4 : c ≠ 58) : tokAt (c :: r) = none := by
 unfold tokAt
 have e : ((58 : UInt8) == c) = false := by simp; exact fun e => h4 e.symm
 rw [wordL_zero _ h1, if_neg (by omega), numLx_zero _ h2, if_neg (by omega), signL, pre2, e, Bool.false_and, if_neg (show ¬ false = true by simp), if_neg (show ¬ 0 ≤ Lib.indexByte signs12 c by rw [h3]; decide)]
 rfl
theorem tok32 (r : List UInt8) : tokAt (32 :: r) = none := tokAt_none r (by decide) (by decide) (by decide) (by decide)
theorem tok10 (r : List UInt8) : tokAt (10 :: r) = none := tokAt_none r (by decide) (by decide) (by decide) (by decide)
theorem tok45 (r : List UInt8) : tokAt (45 :: r) = none := tokAt_none r (by decide) (by decide) (by decide) (by decide)
theorem gap32 (r : List UInt8) : gapL (32 :: r) = 1 := by rw [gapL, pre2, if_neg (by simp), if_pos (by decide)]
theorem gap10 (r : List UInt8) : gapL (10 :: r) = 1 := by rw [gapL, pre2, if_neg (by simp), if_pos (by decide)]
/-- A gap begins with a blank, a line's end or a hyphen. -/
theorem gap_tok {l : List UInt8} (h : gapL l ≠ 0) : tokAt l = none := by
 cases l with
 | nil => rfl
 | cons c l =>
  rw [gapL, pre2] at h
  by_cases h45 : ((45 : UInt8) == c) = true
  ·obtain rfl : (45 : UInt8) = c := by simpa using h45
   exact tok45 _
  ·have : ((45 : UInt8) == c) = false := by simpa using h45
   rw [this, Bool.false_and, if_neg (by simp)] at h
   by_cases h1 : c = 32 ∨ c = 10
   ·rcases h1 with rfl | rfl
    ·exact tok32 _
    ·exact tok10 _
   ·rw [if_neg h1] at h; exact absurd rfl h
theorem stop32 (b : List UInt8) : Stop (32 :: b) := fun z r' e => by
 obtain ⟨rfl, -⟩ := List.cons.inj e
 exact ⟨by decide, by decide⟩
def shiftT (d : Nat) (x : Tk) : Tk := ⟨x.k, x.t, x.p + d⟩
def shiftR (d : Nat) : Except Nat (List Tk) → Except Nat (List Tk)
 | .ok ts => .ok (ts.map (shiftT d))
 | .error e => .error (e + d)
theorem scan_shift (d : Nat) : ∀ (n : Nat) (l : List UInt8) (a : Nat), l.length ≤ n → scanS l (a + d) = shiftR d (scanS l a)
 | _, [], _, _ => rfl
 | 0, _ :: _, _, h => by simp at h
 | n + 1, c :: l, a, h => by
  have h2 : l.length ≤ n := by simpa using h
  cases ht : tokAt (c :: l) with
  | some x =>
   obtain ⟨k, m⟩ := x
   have hp := tokAt_pos ht
   rw [scanS_tok ht, scanS_tok ht, show a + d + m = a + m + d by omega, scan_shift d n _ _ (by rw [List.length_drop, List.length_cons]; omega)]
   cases scanS ((c :: l).drop m) (a + m) <;> rfl
  | none =>
   by_cases hg : gapL (c :: l) = 0
   ·rw [scanS_bad ht hg (by simp), scanS_bad ht hg (by simp)]; rfl
   ·rw [scanS_gap ht hg, scanS_gap ht hg, show a + d + gapL (c :: l) = a + gapL (c :: l) + d by omega, scan_shift d n _ _ (by rw [List.length_drop, List.length_cons]; omega)]
/-- What stands ahead of the first token, and what behind. -/
theorem scan_first : ∀ (n : Nat) (l : List UInt8) (a : Nat) (x : Tk) (ts : List Tk), l.length ≤ n → scanS l a = .ok (x :: ts) →
    ∃ g r, l = g ++ (x.t ++ r) ∧ x.p = a + g.length ∧ (∀ b, scanS g b = .ok []) ∧ scanS r (x.p + x.t.length) = .ok ts ∧ tokAt x.t = some (x.k, x.t.length)
  | _, [], _, x, ts, _, h => by cases h
  | 0, _ :: _, _, _, _, h, _ => by simp at h
  | n + 1, c :: l, a, x, ts, h, hs => by
    have h2 : l.length ≤ n := by simpa using h
    cases ht : tokAt (c :: l) with
    | some y =>
      obtain ⟨k, m⟩ := y
      have hp := tokAt_pos ht
      rw [scanS_tok ht] at hs
      cases hr : scanS ((c :: l).drop m) (a + m) with
      | error e => rw [hr] at hs; cases hs
      | ok us =>
        rw [hr] at hs
        obtain ⟨rfl, rfl⟩ := List.cons.inj (Except.ok.inj hs)
        have hlen : ((c :: l).take m).length = m := List.length_take_of_le hp.2.1
        refine ⟨[], (c :: l).drop m, by rw [List.nil_append, List.take_append_drop], rfl, fun b => rfl, ?_, ?_⟩
        · dsimp only; rw [hlen]; exact hr
        · dsimp only; rw [hlen]; exact tokAt_take ht
    | none =>
      by_cases hg : gapL (c :: l) = 0
      · rw [scanS_bad ht hg (by simp)] at hs; cases hs
      · rw [scanS_gap ht hg] at hs
        have hle := gapL_le (c :: l)
        obtain ⟨g, r, e1, e2, e3, e4, e5⟩ := scan_first n _ _ x ts (by rw [List.length_drop, List.length_cons]; omega) hs
        have hlen : ((c :: l).take (gapL (c :: l))).length = gapL (c :: l) := List.length_take_of_le hle
        refine ⟨(c :: l).take (gapL (c :: l)) ++ g, r, by rw [List.append_assoc, ← e1, List.take_append_drop], by rw [List.length_append, hlen]; omega, ?_, e4, e5⟩
        -- the gap stays a gap when it is cut at the token
        have gg : gapL ((c :: l).take (gapL (c :: l)) ++ g) = gapL (c :: l) := by
          obtain ⟨c', r', e6, e7⟩ := take_ne (l := c :: l) (Nat.pos_of_ne_zero hg) hle
          obtain ⟨rfl, rfl⟩ := List.cons.inj e6
          by_cases hpx : Lib.hasPrefix (c :: l) [45, 45] = true
          · have eg : gapL (c :: l) = runL inC (c :: l) := by rw [gapL, if_pos hpx]
            have hpx2 : Lib.hasPrefix (c :: (l.take (gapL (c :: l) - 1) ++ g)) [45, 45] = true := by
              rw [pre2] at hpx ⊢
              cases l with
              | nil => simp at hpx
              | cons d l =>
                have hd : ((45 : UInt8) == c && (45 : UInt8) == d) = true := hpx
                have hd2 : c = 45 ∧ d = 45 := by simp at hd; exact ⟨hd.1.symm, hd.2.symm⟩
                have h3 : 2 ≤ gapL (c :: d :: l) := by
                  rw [eg, hd2.1, hd2.2, runL_cons, if_pos (by decide), runL_cons, if_pos (by decide)]; omega
                obtain ⟨m, hm⟩ : ∃ m, gapL (c :: d :: l) - 1 = m + 1 := ⟨gapL (c :: d :: l) - 2, by omega⟩
                rw [hm, List.take_succ_cons, List.cons_append]
                exact hd
            rw [e7, List.cons_append, gapL, if_pos hpx2, ← List.cons_append, ← e7]
            have hstop : ∀ z r', g = z :: r' → inC z = false := by
              intro z r' eg2
              refine runL_next inC (c :: l) z (r' ++ (x.t ++ r)) ?_
              rw [← eg, e1, eg2, List.cons_append]
            rw [runL_stop inC g hstop]
            rw [eg, runL_take]
          · have eg : gapL (c :: l) = 1 := by
              rw [gapL, if_neg hpx] at hg ⊢
              by_cases h1 : c = 32 ∨ c = 10
              · rw [if_pos h1]
              · rw [if_neg h1] at hg; exact absurd rfl hg
            have h1 : c = 32 ∨ c = 10 := by
              rw [gapL, if_neg hpx] at hg
              by_cases h1 : c = 32 ∨ c = 10
              · exact h1
              · rw [if_neg h1] at hg; exact absurd rfl hg
            rw [eg, List.take_succ_cons, List.take_zero, List.cons_append]
            rcases h1 with rfl | rfl
            · exact gap32 _
            · exact gap10 _
        intro b
        rw [scanS_gap (gap_tok (by rw [gg]; exact hg)) (by rw [gg]; exact hg), gg, List.drop_left' hlen]
        exact e3 _
/-- Each token stands by itself; all together are no longer than the text. -/
theorem scan_toks : ∀ (n : Nat) (l : List UInt8) (a : Nat) (ts : List Tk), ts.length ≤ n → scanS l a = .ok ts → (∀ x ∈ ts, tokAt x.t = some (x.k, x.t.length)) ∧ (ts.map (·.t.length)).sum ≤ l.length ∧ ts.length ≤ l.length ∧ ∀ x ∈ ts, x.p ≤ a + l.length
 | _, l, _, [], _, _ => ⟨fun _ h => (by cases h), Nat.zero_le _, Nat.zero_le _, fun _ h => (by cases h)⟩
 | 0, _, _, _ :: _, h, _ => by simp at h
 | n + 1, l, a, x :: ts, h, hs => by
  obtain ⟨g, r, e1, e2, _, e4, e5⟩ := scan_first l.length l a x ts (Nat.le_refl _) hs
  obtain ⟨i1, i2, i3, i4⟩ := scan_toks n r _ ts (by simpa using h) e4
  have hp := tokAt_pos e5
  have hl : l.length = g.length + (x.t.length + r.length) := by rw [e1]; simp
  refine ⟨fun y hy => ?_, ?_, ?_, fun y hy => ?_⟩
  ·rcases List.mem_cons.1 hy with rfl | hy
   ·exact e5
   ·exact i1 y hy
  ·simp only [List.map_cons, List.sum_cons]; omega
  ·rw [List.length_cons]; omega
  ·rcases List.mem_cons.1 hy with rfl | hy
   ·omega
   ·have := i4 y hy; omega
def joinB : List (List UInt8) → List UInt8
 | [] => []
 | [x] => x
 | x :: y :: r => x ++ 32 :: joinB (y :: r)
theorem scan_join : ∀ (ts : List Tk) (b : Nat), (∀ x ∈ ts, tokAt x.t = some (x.k, x.t.length)) → ∃ us, scanS (joinB (ts.map (·.t))) b = .ok us ∧ us.map (fun x => (x.k, x.t)) = ts.map (fun x => (x.k, x.t))
 | [], _, _ => ⟨[], rfl, rfl⟩
 | [x], b, h => by
  have ht := h x (by simp)
  refine ⟨[⟨x.k, x.t, b⟩], ?_, rfl⟩
  show scanS x.t b = _
  rw [scanS_tok ht, List.take_length, List.drop_length, scanS_nil]
  rfl
 | x :: y :: r, b, h => by
  have ht := h x (by simp)
  have hne : x.t ≠ [] := fun e => by have := (tokAt_pos ht).1; rw [e] at this; simp at this
  obtain ⟨us, e1, e2⟩ := scan_join (y :: r) (b + x.t.length + 1) (fun z hz => h z (by simp at hz ⊢; exact .inr hz))
  refine ⟨⟨x.k, x.t, b⟩ :: us, ?_, by rw [List.map_cons, e2]; rfl⟩
  show scanS (x.t ++ 32 :: joinB ((y :: r).map (·.t))) b = _
  rw [scanS_tok ((tokAt_stop (stop32 _) hne).trans ht), List.take_left' rfl, List.drop_left' rfl, scanS_gap (tok32 _) (by rw [gap32]; decide), gap32, List.drop_succ_cons, List.drop_zero, e1]
  rfl
theorem joinB_len : ∀ xs : List (List UInt8), (joinB xs).length ≤ (xs.map (·.length)).sum + xs.length
 | [] => Nat.le_refl _
 | [x] => by show x.length ≤ _; simp
 | x :: y :: r => by
  have := joinB_len (y :: r)
  show (x ++ 32 :: joinB (y :: r)).length ≤ _
  rw [List.length_append, List.length_cons]
  simp only [List.map_cons, List.sum_cons, List.length_cons] at this ⊢
  omega
/-- What Scan answers: the tokens, the place, the error's number. -/
def scanR (l : List UInt8) : List Tk × Nat × Nat :=
 if 65536 < l.length then ([], 0, 14) else match scanS l 0 with
  | .ok ts => (ts, 0, 0)
  | .error e => ([], e, 10)
end Go.Proofs.Ytdacmogedchnaaa
