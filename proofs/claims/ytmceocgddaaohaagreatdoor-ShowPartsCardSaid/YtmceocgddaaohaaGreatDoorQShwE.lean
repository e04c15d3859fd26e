/- Package show: every right term is written as its text. -/
import Derived.Test.YtmceocgddaaohaaGreatDoorQShwD
namespace Go.Proofs.YtmceocgddaaohaaGreatDoor
open Go Go.RowKit
set_option maxRecDepth 100000
theorem right_deep {wo : List UInt8 → Bool} {p v deep : Int} : ∀ {t : Tm}, rightT wo p v deep t = true → deep ≤ 200
 | .mk k n s l a, h => by
  simp only [rightT, headT, Bool.and_eq_true, decide_eq_true_eq] at h
  exact h.1.1.1.1.1.1.1.1.2
/-- What is known of a right node. -/
structure RtN (d : Nat) (k n : Int) (s : List UInt8) (l : List Lv) (a : List Tm) : Prop where
 k1 : 1 ≤ k
 k9 : k ≤ 9
 deep : d ≤ 200
 args : a.length = argsOf k
 levels : (k = 3 → l.length = 1) ∧ (k = 4 → l.length ≤ 4) ∧ (¬ k = 3 → ¬ k = 4 → l.length = 0)
 lv : ∀ x ∈ l, rightL x = true
 word : (k = 4 ∨ k = 9 → wordB s = true) ∧ (¬ (k = 4 ∨ k = 9) → s = [])
 n0 : 0 ≤ n
 num : (k = 9 → n ≤ 31) ∧ (¬ k = 9 → ¬ k = 1 → n = 0)
 var : k = 1 → n < d
 parts : rightTs wordB 4 d d k 0 a = true
theorem right_node {d : Nat} {k n : Int} {s : List UInt8} {l : List Lv} {a : List Tm} (h : rightT wordB 4 d d (.mk k n s l a) = true) : RtN d k n s l a := by
 simp only [rightT, headT, Bool.and_eq_true, decide_eq_true_eq, List.all_eq_true, Bool.or_eq_true] at h
 obtain ⟨⟨⟨⟨⟨⟨⟨⟨⟨⟨h1, h2⟩, h3⟩, h4⟩, h5⟩, h6⟩, h7⟩, h8⟩, h9⟩, h10⟩, h11⟩ := h
 refine ⟨h1, h2, by omega, h4, ⟨fun e => ?_, fun e => ?_, fun e e2 => ?_⟩, fun x hx => (h6 x hx).1, ⟨fun e => ?_, fun e => ?_⟩, h8, ⟨fun e => ?_, fun e e2 => ?_⟩, fun e => ?_, h11⟩
 ·rw [if_pos e] at h5; simpa using h5
 ·rw [if_neg (by omega), if_pos e] at h5; simpa using h5
 ·rw [if_neg e, if_neg e2] at h5; simpa using h5
 ·rw [if_pos e] at h7; exact h7
 ·rw [if_neg e] at h7; simpa using h7
 ·rw [if_pos e] at h9; simpa using h9
 ·rw [if_neg e, if_neg e2] at h9; simpa using h9
 ·rcases h10 with h | h
  ·exact absurd e h
  ·omega
/-- One part in memory. -/
theorem tms1 {w : World} {t0 : Tm} {v : Value} (h : TmsAt [] w [t0] v) : ∃ pb po ac c0, v = .slice (some ⟨pb, po, none⟩) 1 ac ∧ pb < w.heap.size ∧ w.rangeAt pb (po + 5 * 0) c0 ∧ TmAt [] w t0 c0 := by
 rw [TmsAt] at h
 obtain ⟨cap, pb, po, h1, h2, -, h4, h5⟩ := h
 rw [TmRow] at h5
 obtain ⟨⟨c0, e0, f0⟩, -⟩ := h5
 exact ⟨pb, po, cap, c0, h1, h4, e0, f0⟩
theorem tms2 {w : World} {t0 t1 : Tm} {v : Value} (h : TmsAt [] w [t0, t1] v) : ∃ pb po ac c0 c1, v = .slice (some ⟨pb, po, none⟩) 2 ac ∧ pb < w.heap.size ∧ w.rangeAt pb (po + 5 * 0) c0 ∧ TmAt [] w t0 c0 ∧ w.rangeAt pb (po + 5 * 1) c1 ∧ TmAt [] w t1 c1 := by
 rw [TmsAt] at h
 obtain ⟨cap, pb, po, h1, h2, -, h4, h5⟩ := h
 rw [TmRow, TmRow] at h5
 obtain ⟨⟨c0, e0, f0⟩, ⟨c1, e1, f1⟩, -⟩ := h5
 exact ⟨pb, po, cap, c0, c1, h1, h4, e0, f0, e1, f1⟩
theorem tms3 {w : World} {t0 t1 t2 : Tm} {v : Value} (h : TmsAt [] w [t0, t1, t2] v) : ∃ pb po ac c0 c1 c2, v = .slice (some ⟨pb, po, none⟩) 3 ac ∧ pb < w.heap.size ∧ w.rangeAt pb (po + 5 * 0) c0 ∧ TmAt [] w t0 c0 ∧ w.rangeAt pb (po + 5 * 1) c1 ∧ TmAt [] w t1 c1 ∧ w.rangeAt pb (po + 5 * 2) c2 ∧ TmAt [] w t2 c2 := by
 rw [TmsAt] at h
 obtain ⟨cap, pb, po, h1, h2, -, h4, h5⟩ := h
 rw [TmRow, TmRow, TmRow] at h5
 obtain ⟨⟨c0, e0, f0⟩, ⟨c1, e1, f1⟩, ⟨c2, e2, f2⟩, -⟩ := h5
 exact ⟨pb, po, cap, c0, c1, c2, h1, h4, e0, f0, e1, f1, e2, f2⟩
theorem lvs1 {w : World} {l : Lv} {v : Value} (h : LvsOff [] w v [l]) : ∃ pb po lc, v = .slice (some ⟨pb, po, none⟩) 1 lc ∧ pb < w.heap.size ∧ w.rangeAt pb (po + 5 * 0) (ints .i64 l.zs) ∧ l.p.length = 4 := by
 obtain ⟨a, cap, h1, -, -, h4, h5⟩ := h
 obtain ⟨pb, po, e, -, hb, hr⟩ := h5 (by simp)
 exact ⟨pb, po, cap, by rw [h1, e]; rfl, hb, hr 0 l rfl, h4 l (by simp)⟩
theorem len1 {α : Type} {l : List α} (h : l.length = 1) : ∃ a, l = [a] := List.length_eq_one_iff.1 h
theorem len2 {α : Type} {l : List α} (h : l.length = 2) : ∃ a b, l = [a, b] := by
 match l, h with
 | [a, b], _ => exact ⟨a, b, rfl⟩
theorem len3 {α : Type} {l : List α} (h : l.length = 3) : ∃ a b c, l = [a, b, c] := by
 match l, h with
 | [a, b, c], _ => exact ⟨a, b, c, rfl⟩
section
variable (B : Nat) (w0 : World) (b : Nat) (nv : Value) (ns : List (List UInt8))
/-- A term written in each of its three roles. -/
structure WrAll (t : Tm) (cs : List Value) (d : Nat) : Prop where
 term : Writes B w0 b nv ns 48 #[.pointer (some ⟨b, 0, none⟩), .agg cs.toArray, .int .i64 (d : Int)] (txT ns d t)
 app : Writes B w0 b nv ns 82 #[.pointer (some ⟨b, 0, none⟩), .agg cs.toArray, .int .i64 (d : Int)] (apX t.kind (txT ns d t))
 atom : Writes B w0 b nv ns 105 #[.pointer (some ⟨b, 0, none⟩), .agg cs.toArray, .int .i64 (d : Int)] (atX t.kind (txT ns d t))
end
theorem writes_all (B : Nat) (w0 : World) (hB : w0.heap.size = B) (hT : TabW w0) (b : Nat) (nv : Value) (ns : List (List UInt8)) (hns : ns.length = 200) : ∀ (t : Tm) (cs : List Value) (d : Nat), TmAt [] w0 t cs → rightT wordB 4 d d t = true → WrAll B w0 b nv ns t cs d := by
 refine Tm.byParts fun k n s l a ih cs d ht hr => ?_
 have C5 := ht.len
 obtain ⟨lv, av, hc, hlv, hav⟩ := ht.open
 dsimp only [Tm.kind, Tm.n, Tm.name, Tm.levels, Tm.args] at hc hlv hav
 obtain ⟨k1, k9, hdeep, hargs, hlevels, hlvr, hword, n0, hnum, hvar, hparts⟩ := right_node hr
 clear ht hr
 have hkk : k = 1 ∨ k = 2 ∨ k = 3 ∨ k = 4 ∨ k = 5 ∨ k = 6 ∨ k = 7 ∨ k = 8 ∨ k = 9 := by omega
 -- a leaf, once it is written as an atom
 have leaf : (¬ k = 5 ∧ ¬ k = 6 ∧ ¬ k = 7 ∧ ¬ k = 8) → Writes B w0 b nv ns 105 #[.pointer (some ⟨b, 0, none⟩), .agg cs.toArray, .int .i64 (d : Int)] (txT ns d (.mk k n s l a)) → WrAll B w0 b nv ns (.mk k n s l a) cs d := fun hk hw => by
  have e1 : apX k (txT ns d (.mk k n s l a)) = txT ns d (.mk k n s l a) := by rw [apX, if_neg (by omega)]
  have e2 : atX k (txT ns d (.mk k n s l a)) = txT ns d (.mk k n s l a) := by rw [atX, if_neg (by omega)]
  have h2 := app_atom B w0 b d nv ns cs k _ C5 hc _ hk.1 hw
  exact ⟨term_app B w0 b d nv ns cs k _ C5 hc _ ⟨hk.2.1, hk.2.2.1, hk.2.2.2⟩ h2, by show Writes _ _ _ _ _ _ _ (apX k _); rw [e1]; exact h2, by show Writes _ _ _ _ _ _ _ (atX k _); rw [e2]; exact hw⟩
 have bind : (k = 6 ∨ k = 7 ∨ k = 8) → Writes B w0 b nv ns 48 #[.pointer (some ⟨b, 0, none⟩), .agg cs.toArray, .int .i64 (d : Int)] (txT ns d (.mk k n s l a)) → WrAll B w0 b nv ns (.mk k n s l a) cs d := fun hk hw => by
  have e1 : apX k (txT ns d (.mk k n s l a)) = [40] ++ (txT ns d (.mk k n s l a) ++ [41]) := by rw [apX, if_pos hk]
  have e2 : atX k (txT ns d (.mk k n s l a)) = [40] ++ (txT ns d (.mk k n s l a) ++ [41]) := by rw [atX, if_pos (.inr hk)]
  have h2 := atom_paren B w0 b d nv ns cs k _ C5 hc _ (by omega) hw
  exact ⟨hw, by show Writes _ _ _ _ _ _ _ (apX k _); rw [e1]; exact app_atom B w0 b d nv ns cs k _ C5 hc _ (by omega) h2, by show Writes _ _ _ _ _ _ _ (atX k _); rw [e2]; exact h2⟩
 rcases hkk with rfl | rfl | rfl | rfl | rfl | rfl | rfl | rfl | rfl
 ·-- variable
  have hv := hvar rfl
  refine leaf (by omega) ?_
  obtain ⟨v, rfl⟩ : ∃ v : Nat, n = (v : Int) := ⟨n.toNat, by omega⟩
  have hi : d - 1 - v < ns.length := by omega
  have h := atom_var B w0 b d v (d - 1 - v) (by omega) (by omega) nv ns _ hi rfl cs s lv av C5 hc
  have e : txT ns d (.mk 1 (v : Int) s l a) = ns.getD (d - 1 - v) [] := by rw [txT, ndX, if_pos rfl, Int.toNat_natCast]
  rw [e]
  exact h
 ·refine leaf (by omega) ?_
  have e : txT ns d (.mk 2 n s l a) = [80, 114, 111, 112] := by rw [txT, ndX, if_neg (by omega), if_pos rfl]
  rw [e]
  exact atom_prop B w0 b d nv ns cs n s lv av C5 hc
 ·refine leaf (by omega) ?_
  obtain ⟨x, rfl⟩ := len1 (hlevels.1 rfl)
  obtain ⟨lb, lo, lc, rfl, h1, h2, h3⟩ := lvs1 hlv
  have e : txT ns d (.mk 3 n s [x] a) = [84, 121, 112, 101, 32] ++ tlT x := by rw [txT, ndX, if_neg (by omega), if_neg (by omega), if_pos rfl]; rfl
  rw [e]
  exact atom_type B w0 hB hT b d nv ns cs n s av x lb lo lc h3 h2 (by omega) C5 hc
 ·refine leaf (by omega) ?_
  have e : txT ns d (.mk 4 n s l a) = s ++ lvsT l := by rw [txT, ndX, if_neg (by omega), if_neg (by omega), if_neg (by omega), if_pos rfl]
  rw [e]
  exact atom_const B w0 hB hT b d nv ns cs n s lv av C5 hc l hlv (hlevels.2.1 rfl)
 ·-- application
  obtain ⟨t0, t1, rfl⟩ := len2 (hargs.trans (by decide))
  obtain ⟨pb, po, ac, c0, c1, rfl, hpb, r0, f0, r1, f1⟩ := tms2 hav
  simp only [rightTs, Bool.and_eq_true, show moreT 5 0 = 0 by decide, show moreT 5 1 = 0 by decide, Nat.zero_add, Int.add_zero] at hparts
  have i0 := ih t0 (by simp) c0 d f0 hparts.1
  have i1 := ih t1 (by simp) c1 d f1 hparts.2.1
  have e : txT ns d (.mk 5 n s l [t0, t1]) = apX t0.kind (txT ns d t0) ++ ([32] ++ atX t1.kind (txT ns d t1)) := by
   rw [txT, ndX, if_neg (by omega), if_neg (by omega), if_neg (by omega), if_neg (by omega), if_pos rfl]
   rfl
  have h2 := app_app B w0 b d nv ns cs n s lv pb po ac C5 hc (by omega) c0 r0 f0.len _ c1 r1 f1.len _ i0.app i1.atom
  rw [← e] at h2
  have e1 : apX 5 (txT ns d (.mk 5 n s l [t0, t1])) = txT ns d (.mk 5 n s l [t0, t1]) := by rw [apX, if_neg (by omega)]
  have e2 : atX 5 (txT ns d (.mk 5 n s l [t0, t1])) = [40] ++ (txT ns d (.mk 5 n s l [t0, t1]) ++ [41]) := by rw [atX, if_pos (.inl rfl)]
  have h3 := term_app B w0 b d nv ns cs 5 _ C5 hc _ (by omega) h2
  exact ⟨h3, by show Writes _ _ _ _ _ _ _ (apX 5 _); rw [e1]; exact h2, by show Writes _ _ _ _ _ _ _ (atX 5 _); rw [e2]; exact atom_paren B w0 b d nv ns cs 5 _ C5 hc _ (by omega) h3⟩
 ·obtain ⟨t0, t1, rfl⟩ := len2 (hargs.trans (by decide))
  obtain ⟨pb, po, ac, c0, c1, rfl, hpb, r0, f0, r1, f1⟩ := tms2 hav
  simp only [rightTs, Bool.and_eq_true, show moreT 6 0 = 0 by decide, show moreT 6 1 = 1 by decide, Nat.zero_add, Int.add_zero] at hparts
  have i0 := ih t0 (by simp) c0 d f0 hparts.1
  have hd1 := right_deep hparts.2.1
  have i1 := ih t1 (by simp) c1 (d + 1) f1 (by rw [show ((d + 1 : Nat) : Int) = (d : Int) + 1 by omega]; exact hparts.2.1)
  have e : txT ns d (.mk 6 n s l [t0, t1]) = [102, 117, 110] ++ ([32, 40] ++ (ns.getD d [] ++ ([32, 58, 32] ++ (txT ns d t0 ++ ([41, 44, 32] ++ txT ns (d + 1) t1))))) := by
   rw [txT, ndX, if_neg (by omega), if_neg (by omega), if_neg (by omega), if_neg (by omega), if_neg (by omega), if_neg (by omega), if_neg (by omega)]
   rfl
  refine bind (.inl rfl) ?_
  rw [e]
  exact term_bind6 B w0 b d nv ns cs 6 _ C5 hc _ rfl (binder_writes B w0 b d nv ns _ (by omega) (by omega) rfl cs 6 n s lv pb po ac C5 hc (by omega) c0 r0 f0.len _ c1 r1 f1.len _ _ i0.term i1.term)
 ·obtain ⟨t0, t1, rfl⟩ := len2 (hargs.trans (by decide))
  obtain ⟨pb, po, ac, c0, c1, rfl, hpb, r0, f0, r1, f1⟩ := tms2 hav
  simp only [rightTs, Bool.and_eq_true, show moreT 7 0 = 0 by decide, show moreT 7 1 = 1 by decide, Nat.zero_add, Int.add_zero] at hparts
  have i0 := ih t0 (by simp) c0 d f0 hparts.1
  have hd1 := right_deep hparts.2.1
  have i1 := ih t1 (by simp) c1 (d + 1) f1 (by rw [show ((d + 1 : Nat) : Int) = (d : Int) + 1 by omega]; exact hparts.2.1)
  have e : txT ns d (.mk 7 n s l [t0, t1]) = [97, 108, 108] ++ ([32, 40] ++ (ns.getD d [] ++ ([32, 58, 32] ++ (txT ns d t0 ++ ([41, 44, 32] ++ txT ns (d + 1) t1))))) := by
   rw [txT, ndX, if_neg (by omega), if_neg (by omega), if_neg (by omega), if_neg (by omega), if_neg (by omega), if_neg (by omega), if_neg (by omega)]
   rfl
  refine bind (.inr (.inl rfl)) ?_
  rw [e]
  exact term_bind7 B w0 b d nv ns cs 7 _ C5 hc _ rfl (binder_writes B w0 b d nv ns _ (by omega) (by omega) rfl cs 7 n s lv pb po ac C5 hc (by omega) c0 r0 f0.len _ c1 r1 f1.len _ _ i0.term i1.term)
 ·obtain ⟨t0, t1, t2, rfl⟩ := len3 (hargs.trans (by decide))
  obtain ⟨pb, po, ac, c0, c1, c2, rfl, hpb, r0, f0, r1, f1, r2, f2⟩ := tms3 hav
  simp only [rightTs, Bool.and_eq_true, show moreT 8 0 = 0 by decide, show moreT 8 1 = 0 by decide, show moreT 8 2 = 1 by decide, Nat.zero_add, Int.add_zero, Nat.reduceAdd] at hparts
  have i0 := ih t0 (by simp) c0 d f0 hparts.1
  have i1 := ih t1 (by simp) c1 d f1 hparts.2.1
  have hd1 := right_deep hparts.2.2.1
  have i2 := ih t2 (by simp) c2 (d + 1) f2 (by rw [show ((d + 1 : Nat) : Int) = (d : Int) + 1 by omega]; exact hparts.2.2.1)
  have e : txT ns d (.mk 8 n s l [t0, t1, t2]) = [108, 101, 116, 32] ++ (ns.getD d [] ++ ([32, 58, 32] ++ (txT ns d t0 ++ ([32, 58, 61, 32] ++ (txT ns d t1 ++ ([32, 105, 110, 32] ++ txT ns (d + 1) t2)))))) := by
   rw [txT, ndX, if_neg (by omega), if_neg (by omega), if_neg (by omega), if_neg (by omega), if_neg (by omega), if_pos rfl]
   rfl
  refine bind (.inr (.inr rfl)) ?_
  rw [e]
  exact term_let B w0 b d nv ns cs 8 _ C5 hc _ rfl (let_writes B w0 b d nv ns _ (by omega) (by omega) rfl cs 8 n s lv pb po ac C5 hc (by omega) c0 r0 f0.len _ c1 r1 f1.len _ c2 r2 f2.len _ i0.term i1.term i2.term)
 ·obtain ⟨t0, rfl⟩ := len1 (hargs.trans (by decide))
  obtain ⟨pb, po, ac, c0, rfl, hpb, r0, f0⟩ := tms1 hav
  simp only [rightTs, Bool.and_eq_true, show moreT 9 0 = 0 by decide, Int.add_zero] at hparts
  have i0 := ih t0 (by simp) c0 d f0 hparts.1
  have e : txT ns d (.mk 9 n s l [t0]) = [91] ++ (Lib.itoa n ++ ([32, 111, 102, 32] ++ (s ++ ([32] ++ (atX t0.kind (txT ns d t0) ++ [93]))))) := by
   rw [txT, ndX, if_neg (by omega), if_neg (by omega), if_neg (by omega), if_neg (by omega), if_neg (by omega), if_neg (by omega), if_pos rfl]
   rfl
  have hn31 := hnum.1 rfl
  refine leaf (by omega) ?_
  rw [e]
  exact atom_proj B w0 hB hT b d nv ns cs n s lv pb po ac C5 hc n0 (by omega) (by omega) c0 r0 f0.len _ i0.atom
end Go.Proofs.YtmceocgddaaohaaGreatDoor
