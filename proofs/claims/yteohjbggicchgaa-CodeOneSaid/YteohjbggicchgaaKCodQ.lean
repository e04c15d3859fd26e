import Derived.Test.YteohjbggicchgaaKCodM
namespace Go.Proofs.Yteohjbggicchgaa
open Go Go.RowKit
set_option maxRecDepth 100000
def isB (l : List Int) : Prop := ∀ z ∈ l, 0 ≤ z ∧ z < 256
theorem isB.tail {z : Int} {l : List Int} (h : isB (z :: l)) : isB l := fun y hy => h y (List.mem_cons_of_mem _ hy)
theorem isB.head {z : Int} {l : List Int} (h : isB (z :: l)) : 0 ≤ z ∧ z < 256 := h z List.mem_cons_self
theorem isB.drop {l : List Int} (h : isB l) (n : Nat) : isB (l.drop n) := fun y hy => h y (List.mem_of_mem_drop hy)
theorem isB.take {l : List Int} (h : isB l) (n : Nat) : isB (l.take n) := fun y hy => h y (List.mem_of_mem_take hy)
theorem isB.right {a b : List Int} (h : isB (a ++ b)) : isB b := fun y hy => h y (List.mem_append_right _ hy)
def numGo : Bool → Int → List Int → Option Int
 | _, n, [] => some n
 | first, n, d :: ds => if first = true ∧ ¬ 0 < d then none else if n * 256 + d ≤ 1099511627776 then numGo false (n * 256 + d) ds else none
def numP : List Int → Option (Int × List Int)
 | [] => none
 | z :: l => if z.toNat ≤ l.length then match numGo true 0 (l.take z.toNat) with
  | none => none
  | some n => some (n, l.drop z.toNat) else none
def strOf (zs : List Int) : List UInt8 := zs.map fun z => UInt8.ofNat z.toNat
def textP (l : List Int) : Option (List UInt8 × List Int) := match numP l with
 | none => none
 | some (n, l1) => if n.toNat ≤ l1.length then some (strOf (l1.take n.toNat), l1.drop n.toNat) else none
def smallP : List Int → Option (Int × List Int)
 | [] => none
 | z :: l => some (z, l)
def levelP (l : List Int) : Option (Lv × List Int) := match l with
 | b :: p0 :: p1 :: p2 :: p3 :: r => some (⟨b, [p0 - 1, p1 - 1, p2 - 1, p3 - 1]⟩, r)
 | _ => none
def timesP {α σ : Type} (p : σ → Option (α × σ)) : Nat → σ → Option (List α × σ)
 | 0, s => some ([], s)
 | c + 1, s => match p s with
  | none => none
  | some (x, s1) => match timesP p c s1 with
   | none => none
   | some (xs, s2) => some (x :: xs, s2)
def headP (k : Int) (l : List Int) : Option ((Int × List UInt8 × Nat × Nat) × List Int) :=
 if k = 1 then match numP l with
  | none => none
  | some (n, r) => some ((n, [], 0, 0), r)
 else if k = 3 then some ((0, [], 1, 0), l)
 else if k = 4 then match textP l with
  | none => none
  | some (s, l1) => match smallP l1 with
   | none => none
   | some (c, r) => some ((0, s, c.toNat, 0), r)
 else if k = 5 ∨ k = 6 ∨ k = 7 then some ((0, [], 0, 2), l)
 else if k = 8 then some ((0, [], 0, 3), l)
 else if k = 9 then match numP l with
  | none => none
  | some (n, l1) => match textP l1 with
   | none => none
   | some (s, r) => some ((n, s, 0, 1), r)
 else some ((0, [], 0, 0), l)
def nodeP : Nat → Nat × List Int → Option (Tm × (Nat × List Int))
 | 0, _ => none
 | f + 1, (m, l) => if m = 0 then none else match smallP l with
  | none => none
  | some (k, l1) => match headP k l1 with
   | none => none
   | some ((n, s, c, a), l2) => match timesP levelP c l2 with
    | none => none
    | some (ls, l3) => match timesP (nodeP f) a (m - 1, l3) with
     | none => none
     | some (as', s4) => some (.mk k n s ls as', s4)
def termP (l : List Int) : Option (Tm × List Int) := match nodeP 3000 (3000, l) with
 | none => none
 | some (t, s) => some (t, s.2)
def ctorP (l : List Int) : Option ((List UInt8 × Tm) × List Int) := match textP l with
 | none => none
 | some (s, l1) => match termP l1 with
  | none => none
  | some (t, r) => some ((s, t), r)
def restP (k p : Int) (s : List UInt8) (t : Tm) (l : List Int) : Option (Dc × List Int) :=
 if k = 2 ∨ k = 3 then match termP l with
  | none => none
  | some (v, r) => some (⟨k, p, s, t, v, 0, []⟩, r)
 else if k = 4 then match smallP l with
  | none => none
  | some (f, l1) => match smallP l1 with
   | none => none
   | some (c, l2) => match timesP ctorP c.toNat l2 with
    | none => none
    | some (cs, r) => some (⟨k, p, s, t, nT, f, cs⟩, r)
 else some (⟨k, p, s, t, nT, 0, []⟩, l)
def rawP (l : List Int) : Option (Dc × List Int) := match smallP l with
 | none => none
 | some (k, l1) => match textP l1 with
  | none => none
  | some (s, l2) => match smallP l2 with
   | none => none
   | some (p, l3) => match termP l3 with
    | none => none
    | some (t, l4) => restP k p s t l4
noncomputable def declP (l : List Int) : Option (Dc × List Int) := match rawP l with
 | none => none
 | some (d, r) => if formB d then some (d, r) else none
noncomputable def libP (l : List Int) : Option (List Dc) := match numP l with
 | none => none
 | some (n, l1) => if n ≤ 64 then match timesP declP n.toNat l1 with
  | none => none
  | some (ds, r) => if r = [] then some ds else none
  else none
-- numbers
theorem undig_cons (n d : Int) (ds : List Int) : (d :: ds).foldl (fun a d => a * 256 + d) n = ds.foldl (fun a d => a * 256 + d) (n * 256 + d) := rfl
theorem undig_ge : ∀ {ds : List Int} {n : Int}, isB ds → 0 ≤ n → n ≤ ds.foldl (fun a d => a * 256 + d) n
 | [], n, _, _ => Int.le_refl _
 | d :: ds, n, h, h0 => by
  have h1 := h.head
  have h2 := undig_ge (ds := ds) (n := n * 256 + d) h.tail (by omega)
  rw [undig_cons]
  omega
theorem numGo_sound : ∀ {ds : List Int} {first : Bool} {n m : Int}, n ≤ 1099511627776 → numGo first n ds = some m → m = ds.foldl (fun a d => a * 256 + d) n ∧ m ≤ 1099511627776 ∧ (first = true → ds = [] ∨ ∃ d r, ds = d :: r ∧ 0 < d)
 | [], first, n, m, hn, h => by
  simp only [numGo, Option.some.injEq] at h
  subst h
  exact ⟨rfl, hn, fun _ => .inl rfl⟩
 | d :: ds, first, n, m, hn, h => by
  rw [numGo] at h
  by_cases h1 : first = true ∧ ¬ 0 < d
  ·rw [if_pos h1] at h; cases h
  ·rw [if_neg h1] at h
   by_cases h2 : n * 256 + d ≤ 1099511627776
   ·rw [if_pos h2] at h
    obtain ⟨a, b, -⟩ := numGo_sound h2 h
    exact ⟨a, b, fun hf => .inr ⟨d, ds, rfl, Classical.byContradiction fun hc => h1 ⟨hf, hc⟩⟩⟩
   ·rw [if_neg h2] at h; cases h
theorem numGo_full : ∀ {ds : List Int} {first : Bool} {n : Int}, isB ds → 0 ≤ n → ds.foldl (fun a d => a * 256 + d) n ≤ 1099511627776 → (first = true → ds = [] ∨ ∃ d r, ds = d :: r ∧ 0 < d) → numGo first n ds = some (ds.foldl (fun a d => a * 256 + d) n)
 | [], first, n, _, _, _, _ => rfl
 | d :: ds, first, n, hb, h0, hm, hf => by
  have h1 := hb.head
  rw [undig_cons] at hm ⊢
  have h2 := undig_ge (ds := ds) (n := n * 256 + d) hb.tail (by omega)
  rw [numGo, if_neg (fun hc => ?_), if_pos (by omega)]
  ·exact numGo_full hb.tail (by omega) hm (fun hc => by cases hc)
  ·rcases hf hc.1 with hh | ⟨d', r, e, hd⟩
   ·cases hh
   ·cases e; exact hc.2 hd
theorem digS_undig : ∀ (s : Nat) (ds : List Int), isB ds → ds.length = s → digS s (undig ds).toNat = ds ∧ (undig ds).toNat < 256 ^ s
 | 0, ds, _, h => by
  obtain rfl := List.eq_nil_of_length_eq_zero h
  exact ⟨rfl, by decide⟩
 | s + 1, ds, hb, h => by
  obtain ⟨xs, x, rfl⟩ : ∃ xs x, ds = xs ++ [x] := by
   rcases List.eq_nil_or_concat ds with rfl | ⟨xs, x, e⟩
   ·simp at h
   ·exact ⟨xs, x, by rw [e, List.concat_eq_append]⟩
  have hx := hb x (by simp)
  have hxs : isB xs := fun z hz => hb z (by simp [hz])
  have h0 : 0 ≤ undig xs := undig_ge hxs (Int.le_refl 0)
  obtain ⟨e1, e2⟩ := digS_undig s xs hxs (by simpa using h)
  rw [undig_snoc, digS_snoc]
  have t1 : (undig xs * 256 + x).toNat / 256 = (undig xs).toNat := by omega
  have t2 : (((undig xs * 256 + x).toNat % 256 : Nat) : Int) = x := by omega
  rw [t1, t2, e1]
  refine ⟨rfl, ?_⟩
  rw [Nat.pow_succ]
  omega
theorem undig_first : ∀ {d : Int} {r : List Int}, 0 < d → isB r → (256 : Int) ^ r.length ≤ (d :: r).foldl (fun a d => a * 256 + d) 0
 | d, r, hd, hr => by
  have key : ∀ (r : List Int) (n : Int), 1 ≤ n → isB r → n * (256 : Int) ^ r.length ≤ r.foldl (fun a d => a * 256 + d) n := by
   intro r
   induction r with
   | nil => intro n _ _; simp
   | cons x r ih =>
    intro n hn hb
    have h1 := ih (n * 256 + x) (by have := hb.head; omega) hb.tail
    have h2 := hb.head
    rw [undig_cons, List.length_cons, Int.pow_succ]
    refine Int.le_trans ?_ h1
    have hp : (0 : Int) ≤ 256 ^ r.length := Int.le_of_lt (Int.pow_pos (by decide))
    have : n * ((256 : Int) ^ r.length * 256) = n * 256 * 256 ^ r.length := by rw [Int.mul_comm ((256 : Int) ^ r.length) 256, Int.mul_assoc]
    rw [this]
    exact Int.mul_le_mul_of_nonneg_right (by omega) hp
  have h := key r d (by omega) hr
  have hp : (0 : Int) ≤ 256 ^ r.length := Int.le_of_lt (Int.pow_pos (by decide))
  have h2 : 1 * (256 : Int) ^ r.length ≤ d * 256 ^ r.length := Int.mul_le_mul_of_nonneg_right (by omega) hp
  rw [undig_cons]
  simp only [Int.zero_mul, Int.zero_add]
  omega
theorem digs_of {ds : List Int} (hb : isB ds) (hf : ds = [] ∨ ∃ d r, ds = d :: r ∧ 0 < d) (hm : undig ds ≤ 1099511627776) : digs 8 (undig ds).toNat = ds := by
 obtain ⟨e1, e2⟩ := digS_undig ds.length ds hb rfl
 rcases hf with rfl | ⟨d, r, rfl, hd⟩
 ·rfl
 ·have h1 : (256 : Int) ^ r.length ≤ undig (d :: r) := undig_first hd hb.tail
  have hlen : r.length ≤ 7 := Nat.le_of_not_lt fun hc => by
   have h2 : (256 : Int) ^ 8 ≤ 256 ^ r.length := by
    have := Nat.pow_le_pow_right (n := 256) (by decide) (show 8 ≤ r.length by omega)
    exact_mod_cast this
   have h3 : (256 : Int) ^ 8 = 18446744073709551616 := by decide
   omega
  have h4 : 256 ^ r.length ≤ (undig (d :: r)).toNat := by
   have : ((256 ^ r.length : Nat) : Int) ≤ undig (d :: r) := by exact_mod_cast h1
   omega
  have h5 : 0 < 256 ^ r.length := Nat.pow_pos (by decide)
  rw [digs_S 8 (d :: r).length _ (by rw [List.length_cons]; omega) e2 (fun hz => by omega) (fun _ => by rw [List.length_cons, Nat.add_sub_cancel]; exact h4)]
  exact e1
theorem numP_sound {l r : List Int} {n : Int} (hb : isB l) (h : numP l = some (n, r)) : (0 ≤ n ∧ n ≤ 1099511627776) ∧ l = numB n.toNat ++ r := by
 match l, hb, h with
 | z :: l, hb, h =>
  rw [numP] at h
  by_cases hz : z.toNat ≤ l.length
  ·rw [if_pos hz] at h
   cases hg : numGo true 0 (l.take z.toNat) with
   | none => rw [hg] at h; cases h
   | some m =>
    rw [hg] at h
    simp only [Option.some.injEq, Prod.mk.injEq] at h
    obtain ⟨rfl, rfl⟩ := h
    obtain ⟨h1, h2, h3⟩ := numGo_sound (by decide) hg
    have hbt := hb.tail.take z.toNat
    have h4 := digs_of hbt (h3 rfl) (by unfold undig; rw [← h1]; exact h2)
    have h5 : undig (l.take z.toNat) = m := h1.symm
    rw [h5] at h4
    refine ⟨⟨by rw [h1]; exact undig_ge hbt (Int.le_refl 0), h2⟩, ?_⟩
    have h6 := hb.head
    rw [numB, h4, List.length_take, Nat.min_eq_left hz, Int.toNat_of_nonneg h6.1, List.cons_append, List.take_append_drop]
  ·rw [if_neg hz] at h; cases h
theorem digs_isB : ∀ f n, isB (digs f n)
 | 0, _ => fun z hz => by simp [digs] at hz
 | f + 1, n => fun z hz => by
  rw [digs] at hz
  split at hz
  ·simp at hz
  ·rcases List.mem_append.1 hz with hz | hz
   ·exact digs_isB f _ z hz
   ·rw [List.mem_singleton.1 hz]; omega
theorem digs_first : ∀ f n, n < 256 ^ f → digs f n = [] ∨ ∃ d r, digs f n = d :: r ∧ 0 < d
 | 0, _, _ => .inl rfl
 | f + 1, n, hn => by
  rw [digs]
  by_cases h0 : n = 0
  ·rw [if_pos h0]; exact .inl rfl
  ·rw [if_neg h0]
   rcases digs_first f (n / 256) (by rw [Nat.pow_succ] at hn; omega) with h | ⟨d, r, h, hd⟩
   ·have h1 := undig_digs f (n / 256) (by rw [Nat.pow_succ] at hn; omega)
    rw [h] at h1
    have h2 : n / 256 = 0 := by simp [undig] at h1; omega
    rw [h]
    exact .inr ⟨_, [], rfl, by omega⟩
   ·rw [h]
    exact .inr ⟨d, r ++ [_], rfl, hd⟩
theorem numP_full {n : Nat} (hn : n ≤ 1099511627776) (r : List Int) : numP (numB n ++ r) = some ((n : Int), r) := by
 have h8 : n < 256 ^ 8 := Nat.lt_of_le_of_lt hn (by decide)
 have hv := undig_digs 8 n h8
 rw [numB, List.cons_append, numP, Int.toNat_natCast, if_pos (by simp), List.take_left' rfl, List.drop_left' rfl, numGo_full (digs_isB 8 n) (Int.le_refl 0) (by unfold undig at hv; omega) (fun _ => digs_first 8 n h8)]
 unfold undig at hv
 rw [hv]
-- texts
theorem strOf_B {zs : List Int} (h : isB zs) : strB (strOf zs) = zs := by
 unfold strB strOf
 rw [List.map_map]
 conv => rhs; rw [← List.map_id zs]
 refine List.map_congr_left fun z hz => ?_
 have := h z hz
 simp only [Function.comp, id, UInt8.toNat_ofNat']
 omega
theorem strB_of (s : List UInt8) : strOf (strB s) = s := by
 unfold strB strOf
 rw [List.map_map]
 conv => rhs; rw [← List.map_id s]
 refine List.map_congr_left fun z _ => ?_
 simp
theorem strOf_len (zs : List Int) : (strOf zs).length = zs.length := by simp [strOf]
theorem textP_sound {l r : List Int} {s : List UInt8} (hb : isB l) (h : textP l = some (s, r)) : l = textB s ++ r := by
 unfold textP at h
 cases hn : numP l with
 | none => rw [hn] at h; cases h
 | some x =>
  obtain ⟨n, l1⟩ := x
  rw [hn] at h
  obtain ⟨h1, h2⟩ := numP_sound hb hn
  by_cases hl : n.toNat ≤ l1.length
  ·simp only [if_pos hl, Option.some.injEq, Prod.mk.injEq] at h
   obtain ⟨rfl, rfl⟩ := h
   have hb1 : isB l1 := by rw [h2] at hb; exact hb.right
   rw [textB, strOf_B (hb1.take _), strOf_len, List.length_take, Nat.min_eq_left hl, List.append_assoc, List.take_append_drop]
   exact h2
  ·simp only [if_neg hl] at h; cases h
theorem textP_full {s : List UInt8} (hs : s.length ≤ 1099511627776) (r : List Int) : textP (textB s ++ r) = some (s, r) := by
 unfold textP textB
 rw [List.append_assoc, numP_full hs]
 simp only [Int.toNat_natCast]
 rw [if_pos (by rw [List.length_append, strB_len]; omega), List.take_left' (strB_len s), List.drop_left' (strB_len s), strB_of]
-- levels
theorem levelP_sound {l r : List Int} {x : Lv} (hb : isB l) (h : levelP l = some (x, r)) : l = levelB x ++ r ∧ x.p.length = 4 := by
 match l, hb, h with
 | b :: p0 :: p1 :: p2 :: p3 :: l, hb, h =>
  simp only [levelP, Option.some.injEq, Prod.mk.injEq] at h
  obtain ⟨rfl, rfl⟩ := h
  have h0 := hb b (by simp)
  have h1 := hb p0 (by simp)
  have h2 := hb p1 (by simp)
  have h3 := hb p2 (by simp)
  have h4 := hb p3 (by simp)
  refine ⟨?_, rfl⟩
  simp only [levelB, List.map_cons, List.map_nil, List.cons_append, List.nil_append, List.cons.injEq]
  refine ⟨by omega, by omega, by omega, by omega, by omega, trivial⟩
theorem levelP_full {x : Lv} (hl : x.p.length = 4) (hr : rightL x = true) (r : List Int) : levelP (levelB x ++ r) = some (x, r) := by
 obtain ⟨b, p⟩ := x
 match p, hl with
 | [p0, p1, p2, p3], _ =>
  have hb := right_b hr
  have h0 := right_p hr (x := p0) (by simp)
  have h1 := right_p hr (x := p1) (by simp)
  have h2 := right_p hr (x := p2) (by simp)
  have h3 := right_p hr (x := p3) (by simp)
  dsimp only at hb h0 h1 h2 h3
  simp only [levelB, List.map_cons, List.map_nil, List.cons_append, List.nil_append, levelP, Option.some.injEq, Prod.mk.injEq, and_true, Lv.mk.injEq, List.cons.injEq]
  refine ⟨by omega, by omega, by omega, by omega, by omega⟩
-- many
theorem timesP_sound {α σ : Type} {p : σ → Option (α × σ)} {π : σ → List Int} {enc : α → List Int} {G : α → Prop} (hp : ∀ s x s', isB (π s) → p s = some (x, s') → π s = enc x ++ π s' ∧ G x) : ∀ {c : Nat} {s s' : σ} {xs : List α}, isB (π s) → timesP p c s = some (xs, s') → π s = (xs.map enc).flatten ++ π s' ∧ xs.length = c ∧ ∀ x ∈ xs, G x
 | 0, s, s', xs, _, h => by
  simp only [timesP, Option.some.injEq, Prod.mk.injEq] at h
  obtain ⟨rfl, rfl⟩ := h
  exact ⟨rfl, rfl, fun x hx => by cases hx⟩
 | c + 1, s, s', xs, hb, h => by
  rw [timesP] at h
  cases h1 : p s with
  | none => rw [h1] at h; cases h
  | some y =>
   obtain ⟨x, s1⟩ := y
   rw [h1] at h
   dsimp only at h
   obtain ⟨e1, g1⟩ := hp s x s1 hb h1
   have hb1 : isB (π s1) := by rw [e1] at hb; exact hb.right
   cases h2 : timesP p c s1 with
   | none => rw [h2] at h; cases h
   | some z =>
    obtain ⟨ys, s2⟩ := z
    rw [h2] at h
    simp only [Option.some.injEq, Prod.mk.injEq] at h
    obtain ⟨rfl, rfl⟩ := h
    obtain ⟨e2, e3, e4⟩ := timesP_sound hp hb1 h2
    refine ⟨by rw [e1, e2, List.map_cons, List.flatten_cons, List.append_assoc], by rw [List.length_cons, e3], fun y hy => ?_⟩
    rcases List.mem_cons.1 hy with rfl | hy
    ·exact g1
    ·exact e4 y hy
theorem timesP_full {α : Type} {p : List Int → Option (α × List Int)} {enc : α → List Int} : ∀ {xs : List α}, (∀ x ∈ xs, ∀ r, p (enc x ++ r) = some (x, r)) → ∀ r, timesP p xs.length ((xs.map enc).flatten ++ r) = some (xs, r)
 | [], _, r => rfl
 | x :: xs, h, r => by
  rw [List.length_cons, List.map_cons, List.flatten_cons, List.append_assoc, timesP, h x (by simp)]
  dsimp only
  rw [timesP_full (fun y hy => h y (by simp [hy]))]
-- heads
theorem headP_sound {k n : Int} {s : List UInt8} {c a : Nat} {l r : List Int} (hb : isB l) (h : headP k l = some ((n, s, c, a), r)) : (0 ≤ n ∧ (k % 256) :: l = headB k n.toNat s c ++ r) ∧ a ≤ 3 ∧ (¬ (k = 4 ∨ k = 9) → s = []) := by
 unfold headP at h
 by_cases k1 : k = 1
 ·rw [if_pos k1] at h
  cases hn : numP l with
  | none => rw [hn] at h; cases h
  | some y =>
   obtain ⟨m, l1⟩ := y
   rw [hn] at h
   simp only [Option.some.injEq, Prod.mk.injEq] at h
   obtain ⟨⟨rfl, rfl, rfl, rfl⟩, rfl⟩ := h
   obtain ⟨e1, e2⟩ := numP_sound hb hn
   refine ⟨⟨e1.1, ?_⟩, by omega, fun _ => rfl⟩
   rw [headB, if_pos (.inl k1), if_neg (by omega), if_neg (by omega), e2]
   simp
 ·rw [if_neg k1] at h
  by_cases k3 : k = 3
  ·rw [if_pos k3] at h
   simp only [Option.some.injEq, Prod.mk.injEq] at h
   obtain ⟨⟨rfl, rfl, rfl, rfl⟩, rfl⟩ := h
   refine ⟨⟨Int.le_refl _, ?_⟩, by omega, fun _ => rfl⟩
   rw [headB, if_neg (by omega), if_neg (by omega), if_neg (by omega)]
   simp
  ·rw [if_neg k3] at h
   by_cases k4 : k = 4
   ·rw [if_pos k4] at h
    cases hn : textP l with
    | none => rw [hn] at h; cases h
    | some y =>
     obtain ⟨s', l1⟩ := y
     rw [hn] at h
     dsimp only at h
     have e1 := textP_sound hb hn
     match l1, h, e1 with
     | z :: l1, h, e1 =>
      simp only [smallP, Option.some.injEq, Prod.mk.injEq] at h
      obtain ⟨⟨rfl, rfl, rfl, rfl⟩, rfl⟩ := h
      have hz : 0 ≤ z ∧ z < 256 := hb z (by rw [e1]; simp)
      refine ⟨⟨Int.le_refl _, ?_⟩, by omega, fun hc => absurd (.inl k4) hc⟩
      rw [headB, if_neg (by omega), if_pos (.inl k4), if_pos k4, e1]
      have : ((z.toNat % 256 : Nat) : Int) = z := by omega
      rw [this]
      simp
   ·rw [if_neg k4] at h
    by_cases k5 : k = 5 ∨ k = 6 ∨ k = 7
    ·rw [if_pos k5] at h
     simp only [Option.some.injEq, Prod.mk.injEq] at h
     obtain ⟨⟨rfl, rfl, rfl, rfl⟩, rfl⟩ := h
     refine ⟨⟨Int.le_refl _, ?_⟩, by omega, fun _ => rfl⟩
     rw [headB, if_neg (by omega), if_neg (by omega), if_neg k4]
     simp
    ·rw [if_neg k5] at h
     by_cases k8 : k = 8
     ·rw [if_pos k8] at h
      simp only [Option.some.injEq, Prod.mk.injEq] at h
      obtain ⟨⟨rfl, rfl, rfl, rfl⟩, rfl⟩ := h
      refine ⟨⟨Int.le_refl _, ?_⟩, by omega, fun _ => rfl⟩
      rw [headB, if_neg (by omega), if_neg (by omega), if_neg k4]
      simp
     ·rw [if_neg k8] at h
      by_cases k9 : k = 9
      ·rw [if_pos k9] at h
       cases hn : numP l with
       | none => rw [hn] at h; cases h
       | some y =>
        obtain ⟨m, l1⟩ := y
        rw [hn] at h
        dsimp only at h
        obtain ⟨e1, e2⟩ := numP_sound hb hn
        cases ht : textP l1 with
        | none => rw [ht] at h; cases h
        | some y =>
         obtain ⟨s', l2⟩ := y
         rw [ht] at h
         simp only [Option.some.injEq, Prod.mk.injEq] at h
         obtain ⟨⟨rfl, rfl, rfl, rfl⟩, rfl⟩ := h
         have e3 := textP_sound (by rw [e2] at hb; exact hb.right) ht
         refine ⟨⟨e1.1, ?_⟩, by omega, fun hc => absurd (.inr k9) hc⟩
         rw [headB, if_pos (.inr k9), if_pos (.inr k9), if_neg k4, e2, e3]
         simp
      ·rw [if_neg k9] at h
       simp only [Option.some.injEq, Prod.mk.injEq] at h
       obtain ⟨⟨rfl, rfl, rfl, rfl⟩, rfl⟩ := h
       refine ⟨⟨Int.le_refl _, ?_⟩, by omega, fun _ => rfl⟩
       rw [headB, if_neg (by omega), if_neg (by omega), if_neg k4]
       simp
theorem headP_full {k : Int} {n : Nat} {s : List UInt8} {c : Nat} {p deep : Int} {l : List Lv} {a : Nat} (h : headT wordB p deep k (n : Int) s l a = true) (hn : k = 1 → n ≤ 1099511627776) (hc : l.length = c) (r : List Int) : ∃ l0, headB k n s c ++ r = (k % 256) :: l0 ∧ headP k l0 = some (((n : Int), s, c, a), r) := by
 obtain ⟨c1, c2, c3, c4, c5, c6, c7, c8⟩ := head_parts h
 refine ⟨_, by rw [headB, List.cons_append], ?_⟩
 unfold headP
 by_cases k1 : k = 1
 ·rw [if_pos k1, if_pos (.inl k1), if_neg (by omega), if_neg (by omega), List.append_assoc, numP_full (hn k1)]
  rw [if_neg (by omega)] at c5
  rw [if_neg (by omega), if_neg (by omega)] at c3
  have ea : a = 0 := by rw [c2, k1]; rfl
  simp [c5, ea, ← hc, c3]
 ·rw [if_neg k1]
  by_cases k3 : k = 3
  ·rw [if_pos k3] at c3 ⊢
   rw [if_neg (by omega)] at c5 ⊢
   have e0 := c7 k1 (by omega)
   have ea : a = 0 := by rw [c2, k3]; rfl
   rw [if_neg (by omega), if_neg (by omega)]
   simp [c5, ea, ← hc, c3, e0]
  ·rw [if_neg k3] at c3 ⊢
   by_cases k4 : k = 4
   ·rw [if_pos k4] at c3 ⊢
    rw [if_pos (.inl k4)] at c5
    have e0 := c7 k1 (by omega)
    have ea : a = 0 := by rw [c2, k4]; rfl
    have := word_len c5
    rw [if_neg (by omega), if_pos (.inl k4), if_pos k4, List.nil_append, List.append_assoc, textP_full (by omega)]
    have hm : c % 256 = c := by omega
    simp [smallP, hm, ea, e0]
   ·rw [if_neg k4] at c3 ⊢
    by_cases k5 : k = 5 ∨ k = 6 ∨ k = 7
    ·have e0 := c7 k1 (by omega)
     rw [if_neg (by omega)] at c5
     have ea : a = 2 := by rw [c2, argsOf, if_pos k5]
     rw [if_pos k5, if_neg (by omega), if_neg (by omega), if_neg k4]
     simp [c5, ea, ← hc, c3, e0]
    ·rw [if_neg k5]
     by_cases k8 : k = 8
     ·have e0 := c7 k1 (by omega)
      rw [if_neg (by omega)] at c5
      have ea : a = 3 := by rw [c2, argsOf, if_neg k5, if_pos k8]
      rw [if_pos k8, if_neg (by omega), if_neg (by omega), if_neg k4]
      simp [c5, ea, ← hc, c3, e0]
     ·rw [if_neg k8]
      by_cases k9 : k = 9
      ·rw [if_pos (.inr k9)] at c5
       have := word_len c5
       have ea : a = 1 := by rw [c2, argsOf, if_neg k5, if_neg k8, if_pos k9]
       have h31 := c8 k9
       rw [if_pos k9, if_pos (.inr k9), if_pos (.inr k9), if_neg k4, List.append_assoc, numP_full (by omega)]
       dsimp only
       rw [List.append_nil, textP_full (by omega)]
       simp [ea, ← hc, c3]
      ·have e0 := c7 k1 k9
       rw [if_neg (by omega)] at c5
       have ea : a = 0 := by rw [c2, argsOf, if_neg k5, if_neg k8, if_neg k9]
       rw [if_neg k9, if_neg (by omega), if_neg (by omega), if_neg k4]
       simp [c5, ea, ← hc, c3, e0]
end Go.Proofs.Yteohjbggicchgaa
namespace Go.Proofs.Yteohjbggicchgaa
open Go Go.RowKit
set_option maxRecDepth 100000
mutual
def cntT : Tm → Nat
 | .mk _ _ _ _ a => 1 + cntTs a
def cntTs : List Tm → Nat
 | [] => 0
 | t :: ts => cntT t + cntTs ts
end
mutual
theorem cnt_le : ∀ t : Tm, cntT t ≤ nodesT t
 | .mk _ _ _ _ a => by
  rw [cntT, nodesT]
  have := cnts_le a
  omega
theorem cnts_le : ∀ ts : List Tm, cntTs ts ≤ nodesTs ts
 | [] => by rw [cntTs]; omega
 | t :: ts => by
  rw [cntTs, nodesTs]
  have := cnt_le t
  have := cnts_le ts
  omega
end
mutual
def ReadT : Tm → Prop
 | .mk k _ s l a => ((∀ x ∈ l, x.p.length = 4) ∧ a.length ≤ 3 ∧ (¬ (k = 4 ∨ k = 9) → s = [])) ∧ ReadTs a
def ReadTs : List Tm → Prop
 | [] => True
 | t :: ts => ReadT t ∧ ReadTs ts
end
theorem ReadTs.of : ∀ {ts : List Tm}, (∀ t ∈ ts, ReadT t) → ReadTs ts
 | [], _ => by rw [ReadTs]; trivial
 | t :: ts, h => by
  rw [ReadTs]
  exact ⟨h t (by simp), ReadTs.of fun x hx => h x (by simp [hx])⟩
mutual
theorem ReadT.lv : ∀ {t : Tm}, ReadT t → LvT t
 | .mk k n s l a, h => by
  rw [ReadT] at h
  rw [LvT]
  exact ⟨h.1.1, ReadTs.lv h.2⟩
theorem ReadTs.lv : ∀ {ts : List Tm}, ReadTs ts → LvTs ts
 | [], _ => by rw [LvTs]; trivial
 | t :: ts, h => by
  rw [ReadTs] at h
  rw [LvTs]
  exact ⟨ReadT.lv h.1, ReadTs.lv h.2⟩
end
theorem termsB_flat (ts : List Tm) : termsB ts = (ts.map termB).flatten := by
 induction ts with
 | nil => rw [termsB]; rfl
 | cons t ts ih => rw [termsB, ih, List.map_cons, List.flatten_cons]
theorem nodeP_sound : ∀ (f : Nat) (s : Nat × List Int) (t : Tm) (s' : Nat × List Int), isB s.2 → nodeP f s = some (t, s') → s.2 = termB t ++ s'.2 ∧ ReadT t
 | 0, _, _, _, _, h => by simp [nodeP] at h
 | f + 1, (m, l), t, s', hb, h => by
  rw [nodeP] at h
  by_cases hm : m = 0
  ·rw [if_pos hm] at h; cases h
  rw [if_neg hm] at h
  match l, hb, h with
  | z :: l1, hb, h =>
   simp only [smallP] at h
   cases hh : headP z l1 with
   | none => rw [hh] at h; cases h
   | some y =>
    obtain ⟨⟨n, s, c, a⟩, l2⟩ := y
    rw [hh] at h
    dsimp only at h
    obtain ⟨⟨h0, e1⟩, ha, hs⟩ := headP_sound hb.tail hh
    have hz := hb.head
    have ez : z % 256 = z := by omega
    rw [ez] at e1
    have hb2 : isB l2 := by
     dsimp only at hb
     rw [e1] at hb
     exact hb.right
    cases hl : timesP levelP c l2 with
    | none => rw [hl] at h; cases h
    | some y =>
     obtain ⟨ls, l3⟩ := y
     rw [hl] at h
     dsimp only at h
     obtain ⟨e2, e3, e4⟩ := timesP_sound (π := fun x => x) (enc := levelB) (G := fun x => x.p.length = 4) (fun s x s' hb h => levelP_sound hb h) hb2 hl
     have hb3 : isB l3 := by rw [e2] at hb2; exact hb2.right
     cases hn : timesP (nodeP f) a (m - 1, l3) with
     | none => rw [hn] at h; cases h
     | some y =>
      obtain ⟨as', s4⟩ := y
      rw [hn] at h
      simp only [Option.some.injEq, Prod.mk.injEq] at h
      obtain ⟨rfl, rfl⟩ := h
      obtain ⟨e5, e6, e7⟩ := timesP_sound (π := Prod.snd) (enc := termB) (G := ReadT) (fun s x s' hb h => nodeP_sound f s x s' hb h) hb3 hn
      obtain ⟨N, rfl⟩ := Int.eq_ofNat_of_zero_le h0
      dsimp only at e5 ⊢
      rw [Int.toNat_natCast] at e1
      refine ⟨?_, ?_⟩
      ·rw [termB_head, lvsB, termsB_flat, e3, e1, e2, e5]
       simp only [List.append_assoc]
      ·rw [ReadT]
       exact ⟨⟨e4, by omega, hs⟩, ReadTs.of e7⟩
theorem nodesP_full {f : Nat} : ∀ {ts : List Tm} {m : Nat} {r : List Int}, (∀ t ∈ ts, ∀ m r, cntT t ≤ m → m ≤ f → nodeP f (m, termB t ++ r) = some (t, (m - cntT t, r))) → cntTs ts ≤ m → m ≤ f → timesP (nodeP f) ts.length (m, termsB ts ++ r) = some (ts, (m - cntTs ts, r))
 | [], m, r, _, _, _ => by
  rw [termsB, cntTs]
  rfl
 | t :: ts, m, r, h, hc, hm => by
  rw [cntTs] at hc
  rw [List.length_cons, termsB, List.append_assoc, timesP, h t (by simp) m _ (by omega) hm]
  dsimp only
  rw [nodesP_full (fun x hx => h x (by simp [hx])) (by omega) (by omega), cntTs]
  dsimp only
  rw [Nat.sub_sub]
theorem nodeP_full : ∀ (t : Tm) (p v d : Int), rightT wordB p v d t = true → nearT t → LvT t → ∀ (f m : Nat) (r : List Int), cntT t ≤ m → m ≤ f → nodeP f (m, termB t ++ r) = some (t, (m - cntT t, r)) := by
 refine Tm.byParts fun k n s l a ih p v d h hn hl f m r hc hm => ?_
 obtain ⟨g1, -, g3⟩ := right_argsC h
 rw [nearT] at hn
 rw [LvT] at hl
 rw [cntT] at hc ⊢
 obtain ⟨c1, c2, c3, c4, c5, c6, c7, c8⟩ := head_parts g1
 obtain ⟨N, rfl⟩ := Int.eq_ofNat_of_zero_le c6
 obtain ⟨f', rfl⟩ : ∃ f', f = f' + 1 := ⟨f - 1, by omega⟩
 rw [termB_head, List.append_assoc, List.append_assoc]
 obtain ⟨l0, e1, e2⟩ := headP_full g1 (fun hk => by have := hn.1 hk; omega) rfl (lvsB l ++ (termsB a ++ r))
 rw [e1, nodeP, if_neg (by omega)]
 simp only [smallP]
 have hk : k % 256 = k := by omega
 rw [hk, e2]
 dsimp only
 unfold lvsB
 rw [timesP_full (enc := levelB) (fun x hx r => levelP_full (hl.1 x hx) (c4 x hx) r)]
 dsimp only
 rw [nodesP_full (fun t ht m r hc hm => ?_) (by omega) (by omega)]
 ·dsimp only
  rw [Nat.sub_sub]
 ·obtain ⟨v', d', hr⟩ := rights_mem g3 ht
  exact ih t ht p v' d' hr (nears_mem hn.2 ht) (lvs_mem10 hl.2 ht) f' m r hc hm
theorem termP_sound {l r : List Int} {t : Tm} (hb : isB l) (h : termP l = some (t, r)) : l = termB t ++ r ∧ ReadT t := by
 unfold termP at h
 cases hn : nodeP 3000 (3000, l) with
 | none => rw [hn] at h; cases h
 | some y =>
  obtain ⟨t', s⟩ := y
  rw [hn] at h
  simp only [Option.some.injEq, Prod.mk.injEq] at h
  obtain ⟨rfl, rfl⟩ := h
  exact nodeP_sound 3000 (3000, l) _ _ hb hn
theorem termP_full {t : Tm} (h : Ok10 t) (hn : nodesT t ≤ 3000) (hl : LvT t) (r : List Int) : termP (termB t ++ r) = some (t, r) := by
 obtain ⟨⟨p, v, d, hr⟩, hnear⟩ := h
 unfold termP
 rw [nodeP_full t p v d hr hnear hl 3000 3000 r (Nat.le_trans (cnt_le t) hn) (Nat.le_refl _)]
theorem ctorP_sound {l r : List Int} {c : List UInt8 × Tm} (hb : isB l) (h : ctorP l = some (c, r)) : l = ctorB c ++ r ∧ ReadT c.2 := by
 unfold ctorP at h
 cases ht : textP l with
 | none => rw [ht] at h; cases h
 | some y =>
  obtain ⟨s, l1⟩ := y
  rw [ht] at h
  dsimp only at h
  have e1 := textP_sound hb ht
  cases hn : termP l1 with
  | none => rw [hn] at h; cases h
  | some y =>
   obtain ⟨t, l2⟩ := y
   rw [hn] at h
   simp only [Option.some.injEq, Prod.mk.injEq] at h
   obtain ⟨rfl, rfl⟩ := h
   obtain ⟨e2, e3⟩ := termP_sound (by rw [e1] at hb; exact hb.right) hn
   exact ⟨by rw [ctorB, List.append_assoc, ← e2]; exact e1, e3⟩
theorem ctorP_full {c : List UInt8 × Tm} (h : c.1.length ≤ 32 ∧ Ok10 c.2 ∧ nodesT c.2 ≤ 3000) (hl : LvT c.2) (r : List Int) : ctorP (ctorB c ++ r) = some (c, r) := by
 unfold ctorP ctorB
 rw [List.append_assoc, textP_full (by omega)]
 dsimp only
 rw [termP_full h.2.1 h.2.2 hl]
structure ReadD (d : Dc) : Prop where
 ty : ReadT d.ty
 val : ReadT d.val
 ctors : ∀ c ∈ d.ctors, ReadT c.2
theorem nT_read : ReadT nT := by
 rw [nT, ReadT]
 exact ⟨⟨(fun x hx => by cases hx), by simp, fun _ => rfl⟩, by rw [ReadTs]; trivial⟩
theorem restP_sound {k p : Int} {s : List UInt8} {t : Tm} {l r : List Int} {d : Dc} (hb : isB l) (ht : ReadT t) (h : restP k p s t l = some (d, r)) : (d.kind = k ∧ d.params = p ∧ d.name = s ∧ d.ty = t) ∧ l = tailD d ++ r ∧ ReadD d := by
 unfold restP at h
 by_cases k2 : k = 2 ∨ k = 3
 ·rw [if_pos k2] at h
  cases hn : termP l with
  | none => rw [hn] at h; cases h
  | some y =>
   obtain ⟨v, l2⟩ := y
   rw [hn] at h
   simp only [Option.some.injEq, Prod.mk.injEq] at h
   obtain ⟨rfl, rfl⟩ := h
   obtain ⟨e2, e3⟩ := termP_sound hb hn
   refine ⟨⟨rfl, rfl, rfl, rfl⟩, ?_, ⟨ht, e3, fun c hc => by cases hc⟩⟩
   have hv : valD ⟨k, p, s, t, v, 0, []⟩ := k2
   have h4 : ¬ (Dc.mk k p s t v 0 []).kind = 4 := by dsimp only; omega
   rw [tailD, if_pos hv, if_neg h4, List.append_nil]
   exact e2
 ·rw [if_neg k2] at h
  by_cases k4 : k = 4
  ·rw [if_pos k4] at h
   match l, hb, h with
   | z :: l, hb, h =>
    simp only [smallP] at h
    match l, hb, h with
    | c :: l, hb, h =>
     dsimp only at h
     have hz := hb.head
     have hc := hb.tail.head
     cases hn : timesP ctorP c.toNat l with
     | none => rw [hn] at h; cases h
     | some y =>
      obtain ⟨cs, l2⟩ := y
      rw [hn] at h
      simp only [Option.some.injEq, Prod.mk.injEq] at h
      obtain ⟨rfl, rfl⟩ := h
      obtain ⟨e2, e3, e4⟩ := timesP_sound (π := fun x => x) (enc := ctorB) (G := fun c => ReadT c.2) (fun s x s' hb h => ctorP_sound hb h) hb.tail.tail hn
      refine ⟨⟨rfl, rfl, rfl, rfl⟩, ?_, ⟨ht, nT_read, e4⟩⟩
      have hv : ¬ valD ⟨k, p, s, t, nT, z, cs⟩ := k2
      have h4 : (Dc.mk k p s t nT z cs).kind = 4 := k4
      rw [tailD, if_neg hv, if_pos h4, ctsB, e3, e2]
      have e5 : ((c.toNat % 256 : Nat) : Int) = c := by omega
      have e6 : z % 256 = z := by omega
      dsimp only
      rw [e5, e6]
      rfl
  ·rw [if_neg k4] at h
   simp only [Option.some.injEq, Prod.mk.injEq] at h
   obtain ⟨rfl, rfl⟩ := h
   refine ⟨⟨rfl, rfl, rfl, rfl⟩, ?_, ⟨ht, nT_read, fun c hc => by cases hc⟩⟩
   have hv : ¬ valD ⟨k, p, s, t, nT, 0, []⟩ := k2
   have h4 : ¬ (Dc.mk k p s t nT 0 []).kind = 4 := k4
   rw [tailD, if_neg hv, if_neg h4]
   rfl
theorem rawP_sound {l r : List Int} {d : Dc} (hb : isB l) (h : rawP l = some (d, r)) : l = declB d ++ r ∧ ReadD d := by
 unfold rawP at h
 match l, hb, h with
 | z :: l1, hb, h =>
  simp only [smallP] at h
  have hz := hb.head
  cases h1 : textP l1 with
  | none => rw [h1] at h; cases h
  | some y =>
   obtain ⟨s, l2⟩ := y
   rw [h1] at h
   dsimp only at h
   have e1 := textP_sound hb.tail h1
   have hb2 : isB l2 := by have := hb.tail; rw [e1] at this; exact this.right
   match l2, hb2, h, e1 with
   | p :: l3, hb2, h, e1 =>
    dsimp only at h
    have hp := hb2.head
    cases h2 : termP l3 with
    | none => rw [h2] at h; cases h
    | some y =>
     obtain ⟨t, l4⟩ := y
     rw [h2] at h
     dsimp only at h
     obtain ⟨e2, e3⟩ := termP_sound hb2.tail h2
     have hb4 : isB l4 := by have := hb2.tail; rw [e2] at this; exact this.right
     obtain ⟨⟨d1, d2, d3, d4⟩, e4, e5⟩ := restP_sound hb4 e3 h
     refine ⟨?_, e5⟩
     rw [declB_head, headD, d1, d2, d3, d4]
     have ez : z % 256 = z := by omega
     have ep : p % 256 = p := by omega
     rw [ez, ep, e1, e2, e4]
     simp only [List.append_assoc, List.cons_append, List.nil_append]
theorem declP_sound {l r : List Int} {d : Dc} (hb : isB l) (h : declP l = some (d, r)) : l = declB d ++ r ∧ formB d = true ∧ ReadD d := by
 unfold declP at h
 cases hr : rawP l with
 | none => rw [hr] at h; cases h
 | some y =>
  obtain ⟨d', r'⟩ := y
  rw [hr] at h
  dsimp only at h
  by_cases hf : formB d' = true
  ·rw [if_pos hf] at h
   simp only [Option.some.injEq, Prod.mk.injEq] at h
   obtain ⟨rfl, rfl⟩ := h
   obtain ⟨e1, e2⟩ := rawP_sound hb hr
   exact ⟨e1, hf, e2⟩
  ·rw [if_neg hf] at h; cases h
theorem declP_full {d : Dc} (hf : formB d = true) (hl : LvD d) (r : List Int) : declP (declB d ++ r) = some (d, r) := by
 have F := form_iff.1 hf
 have OK := form_ok F
 have hp := (rightP_t F.ty).1
 have hk := F.kind
 have e1 : rawP (declB d ++ r) = some (d, r) := by
  rw [declB_head, headD]
  simp only [List.append_assoc, List.cons_append, List.nil_append]
  unfold rawP
  simp only [smallP]
  rw [textP_full (by have := OK.name; omega)]
  dsimp only
  rw [termP_full OK.ty.1 OK.ty.2 hl.ty]
  dsimp only
  have e1 : d.kind % 256 = d.kind := by omega
  have e2 : d.params % 256 = d.params := by omega
  rw [e1, e2]
  obtain ⟨k, p, s, t, v, f, cs⟩ := d
  have FV := F.val
  have FR := F.rest
  dsimp only at hk FV FR hl OK ⊢
  unfold restP tailD
  by_cases k2 : k = 2 ∨ k = 3
  ·have hv : valD ⟨k, p, s, t, v, f, cs⟩ := k2
   obtain ⟨VO, VN⟩ := OK.val hv
   rw [if_neg (show ¬ k = 4 by omega)] at FR
   rw [if_pos k2, if_pos hv, if_neg (show ¬ k = 4 by omega), List.append_nil, termP_full VO VN hl.val]
   obtain ⟨rfl, rfl⟩ := FR
   rfl
  ·have hv : ¬ valD ⟨k, p, s, t, v, f, cs⟩ := k2
   rw [if_neg hv] at FV
   subst FV
   rw [if_neg k2, if_neg hv, List.nil_append]
   by_cases k4 : k = 4
   ·have hlen := OK.len k4
    have hct := OK.ctors k4
    rw [if_pos k4] at FR
    rw [if_pos k4, if_pos k4]
    simp only [List.append_assoc, List.cons_append, List.nil_append, smallP]
    have e3 : ((cs.length % 256 : Nat) : Int).toNat = cs.length := by dsimp only at hlen; omega
    rw [e3]
    unfold ctsB
    rw [timesP_full (enc := ctorB) (fun c hc r => ctorP_full (hct c hc) (hl.ctors c hc) r)]
    dsimp only
    have e4 : f % 256 = f := by omega
    rw [e4]
   ·rw [if_neg k4] at FR
    obtain ⟨rfl, rfl⟩ := FR
    rw [if_neg k4, if_neg k4]
    rfl
 unfold declP
 rw [e1]
 dsimp only
 rw [if_pos hf]
theorem libP_sound {l : List Int} {ds : List Dc} (hb : isB l) (h : libP l = some ds) : l = numB ds.length ++ dsB ds ∧ libOk ds = true ∧ ∀ d ∈ ds, ReadD d := by
 unfold libP at h
 cases hn : numP l with
 | none => rw [hn] at h; cases h
 | some y =>
  obtain ⟨n, l1⟩ := y
  rw [hn] at h
  dsimp only at h
  obtain ⟨h1, e1⟩ := numP_sound hb hn
  have hb1 : isB l1 := by rw [e1] at hb; exact hb.right
  by_cases h64 : n ≤ 64
  ·rw [if_pos h64] at h
   cases hd : timesP declP n.toNat l1 with
   | none => rw [hd] at h; cases h
   | some y =>
    obtain ⟨ds', r⟩ := y
    rw [hd] at h
    dsimp only at h
    by_cases hr : r = []
    ·rw [if_pos hr] at h
     simp only [Option.some.injEq] at h
     subst h
     subst hr
     obtain ⟨e2, e3, e4⟩ := timesP_sound (π := fun x => x) (enc := declB) (G := fun d => formB d = true ∧ ReadD d) (fun s x s' hb h => declP_sound hb h) hb1 hd
     refine ⟨by rw [e3, dsB, e1, show l1 = _ from e2, List.append_nil], ?_, fun d hd => (e4 d hd).2⟩
     unfold libOk
     rw [decide_eq_true (by omega), Bool.true_and]
     exact List.all_eq_true.2 fun d hd => (e4 d hd).1
    ·rw [if_neg hr] at h; cases h
  ·rw [if_neg h64] at h; cases h
theorem libP_full {ds : List Dc} (h : libOk ds = true) (hl : ∀ d ∈ ds, LvD d) : libP (numB ds.length ++ dsB ds) = some ds := by
 unfold libOk at h
 simp only [Bool.and_eq_true, decide_eq_true_eq, List.all_eq_true] at h
 unfold libP dsB
 rw [numP_full (by omega)]
 dsimp only
 rw [if_pos (by omega), Int.toNat_natCast]
 have e := timesP_full (p := declP) (enc := declB) (xs := ds) (fun d hd r => declP_full (h.2 d hd) (hl d hd) r) []
 rw [List.append_nil] at e
 rw [e]
 simp
end Go.Proofs.Yteohjbggicchgaa
