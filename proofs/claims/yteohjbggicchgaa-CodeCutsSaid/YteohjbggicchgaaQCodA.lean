/- Terms as bytes, plain: the document's encoding; nothing else has such bytes, and no bytes of one begin those of another. -/
import Derived.Test.YteohjbggicchgaaQTrmW
import Derived.Test.YteohjbggicchgaaQTrmR
namespace Go.Proofs.Yteohjbggicchgaa
open Go Go.RowKit
set_option maxRecDepth 100000
/-- The digits of a number to the base 256, the greatest first; f: fuel. -/
def digs : Nat → Nat → List Int
 | 0, _ => []
 | f + 1, n => if n = 0 then [] else digs f (n / 256) ++ [((n % 256 : Nat) : Int)]
def numB (n : Nat) : List Int := ((digs 8 n).length : Int) :: digs 8 n
def strB (s : List UInt8) : List Int := s.map fun c => (c.toNat : Int)
def textB (s : List UInt8) : List Int := numB s.length ++ strB s
def levelB (l : Lv) : List Int := (l.b % 256) :: l.p.map fun x => (x + 1) % 256
mutual
def termB : Tm → List Int
 | .mk k n s l a => (k % 256) :: ((if k = 1 ∨ k = 9 then numB n.toNat else []) ++ ((if k = 4 ∨ k = 9 then textB s else []) ++ ((if k = 4 then [((l.length % 256 : Nat) : Int)] else []) ++ ((l.map levelB).flatten ++ termsB a))))
def termsB : List Tm → List Int
 | [] => []
 | t :: ts => termB t ++ termsB ts
end
mutual
/-- No variable's number is above 2^40. -/
def nearT : Tm → Prop
 | .mk k n _ _ a => (k = 1 → n ≤ 1099511627776) ∧ nearTs a
def nearTs : List Tm → Prop
 | [] => True
 | t :: ts => nearT t ∧ nearTs ts
end
/-- The value of digits. -/
def undig (ds : List Int) : Int := ds.foldl (fun a d => a * 256 + d) 0
theorem undig_snoc (ds : List Int) (d : Int) : undig (ds ++ [d]) = undig ds * 256 + d := by simp [undig]
theorem undig_digs : ∀ (f n : Nat), n < 256 ^ f → undig (digs f n) = (n : Int)
 | 0, n, h => by
  obtain rfl : n = 0 := by simpa using h
  rfl
 | f + 1, n, h => by
  rw [digs]
  by_cases h0 : n = 0
  ·rw [if_pos h0, h0]
   rfl
  ·rw [if_neg h0, undig_snoc, undig_digs f (n / 256) (by rw [Nat.pow_succ] at h; omega)]
   omega
theorem append_eq_len {α : Type} {a b r r' : List α} (hl : a.length = b.length) (h : a ++ r = b ++ r') : a = b ∧ r = r' := List.append_inj h hl
theorem num_pf {n m : Nat} {r r' : List Int} (hn : n < 256 ^ 8) (hm : m < 256 ^ 8) (h : numB n ++ r = numB m ++ r') : n = m ∧ r = r' := by
 unfold numB at h
 rw [List.cons_append, List.cons_append, List.cons.injEq] at h
 obtain ⟨h1, h2⟩ := append_eq_len (by omega) h.2
 have h3 := undig_digs 8 n hn
 rw [h1, undig_digs 8 m hm] at h3
 exact ⟨by omega, h2⟩
theorem strB_len (s : List UInt8) : (strB s).length = s.length := by simp [strB]
theorem strB_inj : ∀ {s u : List UInt8}, strB s = strB u → s = u
 | [], [], _ => rfl
 | [], _ :: _, h => by simp [strB] at h
 | _ :: _, [], h => by simp [strB] at h
 | x :: s, y :: u, h => by
  simp only [strB, List.map_cons, List.cons.injEq] at h
  have hx : x = y := UInt8.toNat_inj.1 (by omega)
  rw [hx, strB_inj (s := s) (u := u) h.2]
theorem text_pf {s u : List UInt8} {r r' : List Int} (hs : s.length < 256 ^ 8) (hu : u.length < 256 ^ 8) (h : textB s ++ r = textB u ++ r') : s = u ∧ r = r' := by
 unfold textB at h
 rw [List.append_assoc, List.append_assoc] at h
 obtain ⟨h1, h2⟩ := num_pf hs hu h
 obtain ⟨h3, h4⟩ := append_eq_len (by rw [strB_len, strB_len, h1]) h2
 exact ⟨strB_inj h3, h4⟩
theorem levelB_len {l : Lv} (hl : l.p.length = 4) : (levelB l).length = 5 := by simp [levelB, hl]
theorem level_inj {l m : Lv} (hl : l.p.length = 4) (hm : m.p.length = 4) (rl : rightL l = true) (rm : rightL m = true) (h : levelB l = levelB m) : l = m := by
 unfold levelB at h
 rw [List.cons.injEq] at h
 have b1 := right_b rl
 have b2 := right_b rm
 refine Lv.ext2 hl hm (by omega) fun i hi => ?_
 have h2 := congrArg (fun x => x[i]?) h.2
 simp only [List.getElem?_map] at h2
 have r1 := right_at rl (i := i) (by omega)
 have r2 := right_at rm (i := i) (by omega)
 rw [List.getD_eq_getElem?_getD, List.getElem?_eq_getElem (by omega)] at r1 ⊢
 rw [List.getD_eq_getElem?_getD, List.getElem?_eq_getElem (by omega)] at r2 ⊢
 rw [List.getElem?_eq_getElem (by omega), List.getElem?_eq_getElem (by omega)] at h2
 simp only [Option.map_some, Option.some.injEq] at h2
 simp only [Option.getD_some] at r1 r2 ⊢
 omega
theorem levels_pf : ∀ {ls ms : List Lv} {r r' : List Int}, ls.length = ms.length → (∀ l ∈ ls, l.p.length = 4 ∧ rightL l = true) → (∀ l ∈ ms, l.p.length = 4 ∧ rightL l = true) → (ls.map levelB).flatten ++ r = (ms.map levelB).flatten ++ r' → ls = ms ∧ r = r'
 | [], [], r, r', _, _, _, h => ⟨rfl, h⟩
 | [], _ :: _, _, _, hl, _, _, _ => by simp at hl
 | _ :: _, [], _, _, hl, _, _, _ => by simp at hl
 | l :: ls, m :: ms, r, r', hl, h1, h2, h => by
  rw [List.map_cons, List.map_cons, List.flatten_cons, List.flatten_cons, List.append_assoc, List.append_assoc] at h
  have a := h1 l (by simp)
  have b := h2 m (by simp)
  obtain ⟨e1, e2⟩ := append_eq_len (by rw [levelB_len a.1, levelB_len b.1]) h
  obtain ⟨e3, e4⟩ := levels_pf (by simpa using hl) (fun x hx => h1 x (by simp [hx])) (fun x hx => h2 x (by simp [hx])) e2
  exact ⟨by rw [level_inj a.1 b.1 a.2 b.2 e1, e3], e4⟩
mutual
/-- Every level of a term has four numbers. -/
def LvT : Tm → Prop
 | .mk _ _ _ l a => (∀ x ∈ l, x.p.length = 4) ∧ LvTs a
def LvTs : List Tm → Prop
 | [] => True
 | t :: ts => LvT t ∧ LvTs ts
end
/-- What a right node's head says of its bytes. -/
theorem head_parts {p deep k n : Int} {s : List UInt8} {l : List Lv} {a : Nat} (h : headT wordB p deep k n s l a = true) : (1 ≤ k ∧ k ≤ 9) ∧ a = argsOf k ∧ (if k = 3 then l.length = 1 else if k = 4 then l.length ≤ 4 else l.length = 0) ∧ (∀ x ∈ l, rightL x = true) ∧ (if k = 4 ∨ k = 9 then wordB s = true else s = []) ∧ 0 ≤ n ∧ (k ≠ 1 → k ≠ 9 → n = 0) ∧ (k = 9 → n ≤ 31) := by
 unfold headT at h
 simp only [Bool.and_eq_true, decide_eq_true_eq] at h
 obtain ⟨⟨⟨⟨⟨⟨⟨⟨h1, h2⟩, -⟩, h3⟩, h4⟩, h5⟩, h6⟩, h7⟩, h8⟩ := h
 refine ⟨⟨h1, h2⟩, h3, ?_, fun x hx => ?_, ?_, h7, fun a1 a9 => ?_, fun a9 => ?_⟩
 ·by_cases c3 : k = 3
  ·rw [if_pos c3] at h4 ⊢; simpa using h4
  ·rw [if_neg c3] at h4 ⊢
   by_cases c4 : k = 4
   ·rw [if_pos c4] at h4 ⊢; simpa using h4
   ·rw [if_neg c4] at h4 ⊢; simpa using h4
 ·have := List.all_eq_true.1 h5 x hx
  simp only [Bool.and_eq_true] at this
  exact this.1
 ·by_cases c : k = 4 ∨ k = 9
  ·rw [if_pos c] at h6 ⊢; exact h6
  ·rw [if_neg c] at h6 ⊢; simpa using h6
 ·rw [if_neg a9, if_neg a1] at h8
  simpa using h8
 ·rw [if_pos a9] at h8
  simpa using h8
theorem word_len {s : List UInt8} (h : wordB s = true) : s.length ≤ 32 := by
 unfold wordB at h
 simp only [Bool.and_eq_true, decide_eq_true_eq] at h
 exact h.1.1
theorem right_argsC {wo : List UInt8 → Bool} {p v deep k n : Int} {s : List UInt8} {l : List Lv} {a : List Tm} (h : rightT wo p v deep (.mk k n s l a) = true) : headT wo p deep k n s l a.length = true ∧ (k = 1 → n < v) ∧ rightTs wo p v deep k 0 a = true := by
 simp only [rightT, Bool.and_eq_true] at h
 obtain ⟨⟨h1, h2⟩, h3⟩ := h
 exact ⟨h1, fun hk => by simpa [hk] using h2, h3⟩
mutual
/-- Prefix-free: what begins alike is alike. -/
theorem term_pf : ∀ (t u : Tm) (p v d p' v' d' : Int) (r r' : List Int), rightT wordB p v d t = true → rightT wordB p' v' d' u = true → nearT t → nearT u → LvT t → LvT u → termB t ++ r = termB u ++ r' → t = u ∧ r = r'
 | .mk k n s l a, .mk k' n' s' l' a', p, v, d, p', v', d', r, r', h, h', hn, hn', hl, hl', e => by
  obtain ⟨g1, -, g3⟩ := right_argsC h
  obtain ⟨g1', -, g3'⟩ := right_argsC h'
  obtain ⟨c1, c2, c3, c4, c5, c6, c7, c8⟩ := head_parts g1
  obtain ⟨c1', c2', c3', c4', c5', c6', c7', c8'⟩ := head_parts g1'
  rw [nearT] at hn hn'
  rw [LvT] at hl hl'
  rw [termB, termB, List.cons_append, List.cons_append, List.cons.injEq] at e
  obtain ⟨e0, e⟩ := e
  obtain rfl : k = k' := by omega
  have nb : ∀ m : Int, 0 ≤ m → (k = 1 → m ≤ 1099511627776) → (k = 9 → m ≤ 31) → k = 1 ∨ k = 9 → m.toNat < 256 ^ 8 := fun m h0 h1 h9 hk => by
   have : (256 : Nat) ^ 8 = 18446744073709551616 := by decide
   rcases hk with hk | hk
   ·have := h1 hk; omega
   ·have := h9 hk; omega
  simp only [List.append_assoc] at e
  have eN : n = n' ∧ (if k = 4 ∨ k = 9 then textB s else []) ++ ((if k = 4 then [((l.length % 256 : Nat) : Int)] else []) ++ ((l.map levelB).flatten ++ (termsB a ++ r))) = (if k = 4 ∨ k = 9 then textB s' else []) ++ ((if k = 4 then [((l'.length % 256 : Nat) : Int)] else []) ++ ((l'.map levelB).flatten ++ (termsB a' ++ r'))) := by
   by_cases hk : k = 1 ∨ k = 9
   ·rw [if_pos hk, if_pos hk] at e
    obtain ⟨x1, x2⟩ := num_pf (nb n c6 hn.1 c8 hk) (nb n' c6' hn'.1 c8' hk) e
    exact ⟨by omega, x2⟩
   ·rw [if_neg hk, if_neg hk, List.nil_append, List.nil_append] at e
    have k1 : k ≠ 1 := fun h => hk (.inl h)
    have k9 : k ≠ 9 := fun h => hk (.inr h)
    exact ⟨by rw [c7 k1 k9, c7' k1 k9], e⟩
  obtain ⟨rfl, e1⟩ := eN
  clear e
  have eS : s = s' ∧ (if k = 4 then [((l.length % 256 : Nat) : Int)] else []) ++ ((l.map levelB).flatten ++ (termsB a ++ r)) = (if k = 4 then [((l'.length % 256 : Nat) : Int)] else []) ++ ((l'.map levelB).flatten ++ (termsB a' ++ r')) := by
   by_cases hk : k = 4 ∨ k = 9
   ·rw [if_pos hk, if_pos hk] at e1
    rw [if_pos hk] at c5 c5'
    have w1 := word_len c5
    have w2 := word_len c5'
    have : (256 : Nat) ^ 8 = 18446744073709551616 := by decide
    exact text_pf (by omega) (by omega) e1
   ·rw [if_neg hk, if_neg hk, List.nil_append, List.nil_append] at e1
    rw [if_neg hk] at c5 c5'
    exact ⟨by rw [c5, c5'], e1⟩
  obtain ⟨rfl, e2⟩ := eS
  clear e1
  have eL : l.length = l'.length ∧ (l.map levelB).flatten ++ (termsB a ++ r) = (l'.map levelB).flatten ++ (termsB a' ++ r') := by
   by_cases hk : k = 4
   ·rw [if_pos hk, if_pos hk, List.cons_append, List.cons_append, List.cons.injEq] at e2
    have k3 : k ≠ 3 := by omega
    rw [if_neg k3, if_pos hk] at c3 c3'
    exact ⟨by have := e2.1; omega, by simpa using e2.2⟩
   ·rw [if_neg hk, if_neg hk, List.nil_append, List.nil_append] at e2
    rw [if_neg hk] at c3 c3'
    by_cases k3 : k = 3
    ·rw [if_pos k3] at c3 c3'
     exact ⟨by omega, e2⟩
    ·rw [if_neg k3] at c3 c3'
     exact ⟨by omega, e2⟩
  obtain ⟨eL, e3⟩ := eL
  clear e2
  obtain ⟨rfl, e4⟩ := levels_pf eL (fun x hx => ⟨hl.1 x hx, c4 x hx⟩) (fun x hx => ⟨hl'.1 x hx, c4' x hx⟩) e3
  clear e3
  obtain ⟨rfl, e5⟩ := terms_pf a a' p v d p' v' d' k 0 r r' (by omega) g3 g3' hn.2 hn'.2 hl.2 hl'.2 e4
  exact ⟨rfl, e5⟩
theorem terms_pf : ∀ (ts us : List Tm) (p v d p' v' d' k : Int) (i : Nat) (r r' : List Int), ts.length = us.length → rightTs wordB p v d k i ts = true → rightTs wordB p' v' d' k i us = true → nearTs ts → nearTs us → LvTs ts → LvTs us → termsB ts ++ r = termsB us ++ r' → ts = us ∧ r = r'
 | [], [], _, _, _, _, _, _, _, _, r, r', _, _, _, _, _, _, _, e => ⟨rfl, e⟩
 | [], _ :: _, _, _, _, _, _, _, _, _, _, _, hl, _, _, _, _, _, _, _ => by simp at hl
 | _ :: _, [], _, _, _, _, _, _, _, _, _, _, hl, _, _, _, _, _, _, _ => by simp at hl
 | t :: ts, u :: us, p, v, d, p', v', d', k, i, r, r', hl, h, h', hn, hn', hv, hv', e => by
  rw [rightTs, Bool.and_eq_true] at h h'
  rw [nearTs] at hn hn'
  rw [LvTs] at hv hv'
  rw [termsB, termsB, List.append_assoc, List.append_assoc] at e
  obtain ⟨rfl, e1⟩ := term_pf t u _ _ _ _ _ _ _ _ h.1 h'.1 hn.1 hn'.1 hv.1 hv'.1 e
  clear e
  obtain ⟨rfl, e2⟩ := terms_pf ts us p v d p' v' d' k (i + 1) r r' (by simpa using hl) h.2 h'.2 hn.2 hn'.2 hv.2 hv'.2 e1
  exact ⟨rfl, e2⟩
end
end Go.Proofs.Yteohjbggicchgaa
