/- What the plain parser answers: an error has a code and a place among the tokens; sources one behind the other. -/
import Derived.Test.YtdacmogedchnaaaQPrsS
import Derived.Laws.Concat
namespace Go.Proofs.Ytdacmogedchnaaa
open Go Go.RowKit
set_option maxRecDepth 100000
theorem scan_len3 {s : List UInt8} {a : Nat} {ts : List Tk} (h : scanS s a = .ok ts) : ts.length ≤ s.length ∧ sumT ts ≤ 2 * s.length := by
 obtain ⟨-, h2, h3, -⟩ := scan_toks _ s a ts (Nat.le_refl _) h
 unfold sumT
 omega
/-- What is joined is scanned as the same kinds and texts. -/
theorem join_scan {s : List UInt8} {ts : List Tk} (h : scanS s 0 = .ok ts) (hs : s.length ≤ 4000) : ∃ us, scanR (joinB (textsOf ts)) = (us, 0, 0) ∧ us.map (fun x => (x.k, x.t)) = ts.map (fun x => (x.k, x.t)) := by
 obtain ⟨us, e1, e2⟩ := scan_join ts 0 (scan_toks _ s 0 ts (Nat.le_refl _) h).1
 have hl := joinT_len ts
 have h2 := (scan_len3 h).2
 exact ⟨us, scanR_ok (by omega) e1, e2⟩
theorem exec_sCat {a : Act} {w : World} {op : Oper} (x y : Operand) (t2 : TypeId) (ho : op.op = .binOp .add 9 x y t2) (xs ys : List UInt8) (ex : a.eval x = sT xs) (ey : a.eval y = sT ys) (hx : xs.length ≤ 100000) (hy : ys.length ≤ 100000) : (execOp a.eval op).run Try.prog w = .ok (.value (sT (xs ++ ys))) w := by
 have hr : (binOp .add 9 (sT xs) (sT ys)).run Try.prog w = .ok (sT (xs ++ ys)) w := by
  have h := run_string_add_lists (P := Try.prog) w xs ys (by omega) (by omega)
  unfold sT
  simpa [binOp] using h
 unfold execOp
 simp only [ho, ex, ey, Sem.run_bind]
 first | rw [hr] | (simp only [eqGuard]; simp [hr])
/-- An error has a code, and stands at one of so many tokens, or behind them. -/
def EG {β : Type} (n : Nat) : PR β → Prop
 | .ok _ r => r.length ≤ n
 | .err p c => c ≠ 0 ∧ p ≤ n
theorem EG.mono {β : Type} {n m : Nat} {o : PR β} (h : EG n o) (hm : n ≤ m) : EG m o := by
 cases o with
 | ok x r => exact Nat.le_trans h hm
 | err p c => exact ⟨h.1, Nat.le_trans h.2 hm⟩
theorem EG.bind {α β : Type} {n : Nat} {o : PR α} {k : α → List (List UInt8) → PR β} (h : EG n o) (hk : ∀ x r, o = .ok x r → r.length ≤ n → EG n (k x r)) : EG n (PR.bind o k) := by
 cases o with
 | ok x r => exact hk x r rfl h
 | err p c => exact h
theorem EG.ok {β : Type} {n : Nat} {x : β} {r : List (List UInt8)} (h : r.length ≤ n) : EG n (.ok x r) := h
theorem EG.err {β : Type} {n p c : Nat} (hc : c ≠ 0) (h : p ≤ n) : EG n (.err p c : PR β) := ⟨hc, h⟩
theorem tail_le (l : List (List UInt8)) : l.tail.length ≤ l.length := by rw [List.length_tail]; omega
theorem exP_eg (s : List UInt8) (l : List (List UInt8)) : EG l.length (exP s l) := by
 unfold exP
 split
 ·exact EG.ok (tail_le l)
 ·exact EG.err (by decide) (Nat.le_refl _)
theorem namP_eg (l : List (List UInt8)) : EG l.length (namP l) := by
 unfold namP
 split
 ·exact EG.ok (tail_le l)
 ·exact EG.err (by decide) (Nat.le_refl _)
theorem numQ_eg (l : List (List UInt8)) : EG l.length (numQ l) := by
 unfold numQ
 split
 ·exact EG.ok (tail_le l)
 ·exact EG.err (by decide) (Nat.le_refl _)
theorem numTo_eg (m : Nat) (l : List (List UInt8)) : EG l.length (numTo m l) := by
 unfold numTo
 split
 ·split
  ·exact EG.ok (tail_le l)
  ·exact EG.err (by decide) (Nat.le_refl _)
 ·exact EG.err (by decide) (Nat.le_refl _)
theorem rightP1_eg {n p : Nat} {r : List (List UInt8)} {m : Nat} (hp : p ≤ m) (hr : r.length ≤ m) : EG m (rightP1 n p r) := by
 unfold rightP1
 split
 ·exact EG.ok hr
 ·exact EG.err (by decide) hp
theorem partP_eg (b : Bool) (l : List (List UInt8)) : EG l.length (partP b l) := by
 unfold partP
 split
 ·refine EG.bind ?_ fun n r _ hr => rightP1_eg (Nat.le_refl _) hr
  split
  ·exact (numQ_eg _).mono (Nat.le_trans (tail_le _) (tail_le l))
  ·exact EG.ok (tail_le l)
 ·exact EG.bind (numQ_eg l) fun n r _ hr => rightP1_eg (Nat.le_refl _) hr
theorem lvLoop_eg : ∀ (f : Nat) (l : List (List UInt8)), l.length + 1 ≤ f → EG l.length (lvLoop f l)
 | 0, _, h => by omega
 | f + 1, l, h => by
  rw [lvLoop]
  split
  ·next h1 =>
   have ht := tail_lt (l := l) (by rw [h1]; simp)
   exact (EG.bind (partP_eg true l.tail) fun _ r _ hr => (lvLoop_eg f r (by omega)).mono hr).mono (tail_le l)
  ·exact EG.ok (Nat.le_refl _)
theorem levelQ_eg {l : List (List UInt8)} (h : l.length + 1 ≤ FU) : EG l.length (levelQ l) := EG.bind (partP_eg true l) fun _ r _ hr => (lvLoop_eg FU r (by omega)).mono hr
theorem lvsLoop_eg : ∀ (k c : Nat) (l : List (List UInt8)), l.length + 1 ≤ FU → EG l.length (lvsLoop k c l)
 | 0, _, l, _ => EG.ok (Nat.le_refl _)
 | k + 1, c, l, h => by
  rw [lvsLoop]
  have ht := tail_le l
  split
  ·exact (EG.bind (levelQ_eg (l := l.tail) (by omega)) fun _ r _ hr => (lvsLoop_eg k (c + 1) r (by omega)).mono hr).mono ht
  ·exact EG.ok (Nat.le_refl _)
theorem levelsQ_eg {l : List (List UInt8)} (h : l.length + 1 ≤ FU) : EG l.length (levelsQ l) :=
 EG.bind (levelQ_eg h) fun _ r _ hr => EG.bind ((lvsLoop_eg 3 1 r (by omega)).mono hr) fun c r2 _ hr2 => EG.bind ((exP_eg _ r2).mono hr2) fun _ r3 _ hr3 => EG.ok hr3
theorem tlevelP_eg {l : List (List UInt8)} (h : l.length + 1 ≤ FU) : EG l.length (tlevelP l) := by
 unfold tlevelP
 have ht := tail_le l
 split
 ·exact (EG.bind (levelQ_eg (l := l.tail) (by omega)) fun _ r _ hr => EG.bind ((exP_eg _ r).mono hr) fun _ r3 _ hr3 => EG.ok hr3).mono ht
 ·exact partP_eg false l
section
variable {T A : List (List UInt8) → PR Rw} {l : List (List UInt8)}
theorem atomG_eg (hT : ∀ r, r.length + 1 ≤ l.length → EG r.length (T r)) (hA : ∀ r, r.length + 1 ≤ l.length → EG r.length (A r)) (h : l.length + 1 ≤ FU) : EG l.length (atomG T A l) := by
 unfold atomG
 have ht := tail_le l
 split
 ·exact EG.ok ht
 split
 ·exact (EG.bind (tlevelP_eg (l := l.tail) (by omega)) fun _ r _ hr => EG.ok hr).mono ht
 split
 ·next h1 =>
  have ht2 := tail_lt (l := l) (by rw [h1]; simp)
  exact (EG.bind (numTo_eg 31 l.tail) fun n r _ hr => EG.bind ((exP_eg _ r).mono hr) fun _ r2 _ hr2 => EG.bind ((namP_eg r2).mono hr2) fun s r3 _ hr3 => EG.bind ((hA r3 (by omega)).mono hr3) fun a r4 _ hr4 => EG.bind ((exP_eg _ r4).mono hr4) fun _ r5 _ hr5 => EG.ok hr5).mono ht
 split
 ·next h1 =>
  have ht2 := tail_lt (l := l) (by rw [h1]; simp)
  exact (EG.bind (hT l.tail (by omega)) fun a r4 _ hr4 => EG.bind ((exP_eg _ r4).mono hr4) fun _ r5 _ hr5 => EG.ok hr5).mono ht
 ·refine EG.bind (namP_eg l) fun s r _ hr => ?_
  have ht3 := tail_le r
  split
  ·exact EG.bind ((levelsQ_eg (l := r.tail) (by omega)).mono (by omega)) fun c r2 _ hr2 => EG.ok hr2
  ·exact EG.ok hr
theorem appLoop_eg (hA2 : Lt2 A) (p : Nat) : ∀ (f : Nat) (t : Rw) (l : List (List UInt8)), (∀ r, r.length ≤ l.length → EG r.length (A r)) → l.length + 1 ≤ f → EG l.length (appLoop A p f t l)
 | 0, _, _, _, h => by omega
 | f + 1, t, l, hA, h => by
  rw [appLoop]
  split
  ·refine EG.bind (hA l (Nat.le_refl _)) fun a r e hr => ?_
   have := hA2 e
   exact (appLoop_eg hA2 p f _ r (fun r2 h2 => hA r2 (by omega)) (by omega)).mono hr
  ·exact EG.ok (Nat.le_refl _)
theorem bindG_eg (k p : Nat) (l : List (List UInt8)) (hT : ∀ r, r.length ≤ l.length → EG r.length (T r)) : EG l.length (bindG T k p l) :=
 EG.bind (exP_eg _ l) fun _ r _ hr => EG.bind ((namP_eg r).mono hr) fun s r _ hr => EG.bind ((exP_eg _ r).mono hr) fun _ r _ hr => EG.bind ((hT r hr).mono hr) fun a r _ hr => EG.bind ((exP_eg _ r).mono hr) fun _ r _ hr => EG.bind ((exP_eg _ r).mono hr) fun _ r _ hr => EG.bind ((hT r hr).mono hr) fun b r _ hr => EG.ok hr
theorem letG_eg (p : Nat) (l : List (List UInt8)) (hT : ∀ r, r.length ≤ l.length → EG r.length (T r)) : EG l.length (letG T p l) :=
 EG.bind (namP_eg l) fun s r _ hr => EG.bind ((exP_eg _ r).mono hr) fun _ r _ hr => EG.bind ((hT r hr).mono hr) fun a r _ hr => EG.bind ((exP_eg _ r).mono hr) fun _ r _ hr => EG.bind ((hT r hr).mono hr) fun b r _ hr => EG.bind ((exP_eg _ r).mono hr) fun _ r _ hr => EG.bind ((hT r hr).mono hr) fun c r _ hr => EG.ok hr
theorem termG_eg (hA2 : Lt2 A) (hT : ∀ r, r.length + 1 ≤ l.length → EG r.length (T r)) (hA : ∀ r, r.length ≤ l.length → EG r.length (A r)) (h : l.length + 1 ≤ FU) : EG l.length (termG T A l) := by
 unfold termG
 split
 ·next h1 =>
  have ht := tail_lt (l := l) (by rw [h1]; simp)
  exact (bindG_eg 6 l.length l.tail fun r hr => hT r (by omega)).mono (tail_le l)
 split
 ·next h1 =>
  have ht := tail_lt (l := l) (by rw [h1]; simp)
  exact (bindG_eg 7 l.length l.tail fun r hr => hT r (by omega)).mono (tail_le l)
 split
 ·next h1 =>
  have ht := tail_lt (l := l) (by rw [h1]; simp)
  exact (letG_eg l.length l.tail fun r hr => hT r (by omega)).mono (tail_le l)
 ·exact EG.bind (hA l (Nat.le_refl _)) fun a r _ hr => (appLoop_eg hA2 l.length FU a r (fun r2 h2 => hA r2 (by omega)) (by omega)).mono hr
end
theorem tf_eg : ∀ (n : Nat), (∀ l : List (List UInt8), 2 * l.length + 2 ≤ n → l.length + 1 ≤ FU → EG l.length (tf n true l)) ∧ (∀ l : List (List UInt8), 2 * l.length + 1 ≤ n → l.length + 1 ≤ FU → EG l.length (tf n false l))
 | 0 => ⟨fun _ h => by omega, fun _ h => by omega⟩
 | n + 1 => by
  obtain ⟨h1, h2⟩ := tf_eg n
  exact ⟨fun l hl hf => termG_eg (tf_lt n false) (fun r hr => h1 r (by omega) (by omega)) (fun r hr => h2 r (by omega) (by omega)) hf, fun l hl hf => atomG_eg (fun r hr => h1 r (by omega) (by omega)) (fun r hr => h2 r (by omega) (by omega)) hf⟩
def Fit (l : List (List UInt8)) : Prop := l.length ≤ 65540
theorem wholeP_eg {l : List (List UInt8)} (h : Fit l) : EG l.length (wholeP l) := by
 unfold Fit at h
 refine EG.bind ((tf_eg FU).1 l (by unfold FU; omega) (by unfold FU; omega)) fun t r _ hr => ?_
 split
 ·exact EG.ok hr
 ·exact EG.err (by decide) (Nat.le_refl _)
theorem topP_eg {l : List (List UInt8)} (h : Fit l) : EG l.length (topP l) := by
 refine EG.bind (wholeP_eg h) fun t r _ hr => ?_
 split
 ·exact EG.ok hr
 ·exact EG.err (by decide) hr
/-- What was read whole, with others ahead of it. -/
theorem src_ok : ∀ (f : Nat) (ds : List Dl) (l : List (List UInt8)) (ds' : List Dl) (r : List (List UInt8)), srcLoop f ds l = .ok ds' r → r = [] ∧ ∃ new, ds' = ds ++ new ∧ (ds.length ≤ 64 → ds'.length ≤ 64) ∧
    ∀ es : List Dl, (es.length + new.length ≤ 64 → srcLoop f es l = .ok (es ++ new) []) ∧ (es.length ≤ 64 → 64 < es.length + new.length → ∃ p, srcLoop f es l = .err p 14)
  | 0, _, _, _, _, h => by cases h
  | f + 1, ds, l, ds', r, h => by
    rw [srcLoop] at h
    by_cases h1 : l = []
    · rw [if_pos h1] at h
      injection h with h2 h3
      subst h2
      subst h3
      refine ⟨h1, [], by simp, id, fun es => ⟨fun _ => by rw [srcLoop, if_pos h1, List.append_nil, h1], fun h4 h5 => by simp at h5; omega⟩⟩
    rw [if_neg h1] at h
    by_cases h2 : ds.length = 64
    · rw [if_pos h2] at h
      cases h
    rw [if_neg h2] at h
    obtain ⟨d, r1, h3, h4⟩ := PR.bind_get h
    obtain ⟨hr, new, e, hl, hk⟩ := src_ok f _ r1 ds' r h4
    refine ⟨hr, d :: new, by rw [e]; simp, fun h5 => hl (by rw [List.length_append]; simp; omega), fun es => ⟨fun h5 => ?_, fun h5 h6 => ?_⟩⟩
    · rw [List.length_cons] at h5
      rw [srcLoop, if_neg h1, if_neg (by omega), h3, PR.bind_ok, ((hk (es ++ [d])).1 (by rw [List.length_append]; simp; omega))]
      simp
    · rw [List.length_cons] at h6
      by_cases h7 : es.length = 64
      · exact ⟨_, by rw [srcLoop, if_neg h1, if_pos h7]⟩
      · obtain ⟨p, hp⟩ := (hk (es ++ [d])).2 (by rw [List.length_append]; simp; omega) (by rw [List.length_append]; simp; omega)
        exact ⟨p, by rw [srcLoop, if_neg h1, if_neg h7, h3, PR.bind_ok, hp]⟩
end Go.Proofs.Ytdacmogedchnaaa
