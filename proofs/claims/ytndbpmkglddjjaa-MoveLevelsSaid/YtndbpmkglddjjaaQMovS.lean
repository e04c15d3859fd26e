/- Levels of a term at its own parameters, and at closed ones, plain. -/
import Derived.Test.YtndbpmkglddjjaaQMovI
import Derived.Test.YtndbpmkglddjjaaQMovR
namespace Go.Proofs.Ytndbpmkglddjjaa
open Go Go.RowKit
/-- The level of a parameter. -/
def parL (i : Nat) : Lv := ⟨0, [-1, -1, -1, -1].set i 0⟩
def own4 : List Lv := [parL 0, parL 1, parL 2, parL 3]
theorem parL_len (i : Nat) : (parL i).p.length = 4 := by simp [parL]
theorem parL_at {k i : Nat} (hk : k < 4) (hi : i < 4) : (parL k).p.getD i 0 = if i = k then 0 else -1 := by
  match k, hk, i, hi with
  | 0, _, 0, _ | 0, _, 1, _ | 0, _, 2, _ | 0, _, 3, _ | 1, _, 0, _ | 1, _, 1, _ | 1, _, 2, _ | 1, _, 3, _ | 2, _, 0, _ | 2, _, 1, _ | 2, _, 2, _ | 2, _, 3, _ | 3, _, 0, _ | 3, _, 1, _ | 3, _, 2, _ | 3, _, 3, _ => rfl
theorem own4_at {k : Nat} (hk : k < 4) : own4.getD k zeroL = parL k := by
  match k, hk with
  | 0, _ | 1, _ | 2, _ | 3, _ => rfl
theorem own4_right {k : Nat} (hk : k < 4) : rightL (parL k) = true := by
  match k, hk with
  | 0, _ | 1, _ | 2, _ | 3, _ => decide
theorem inst_own_up {l : Lv} (hl : l.p.length = 4) (hr : rightL l = true) : ∀ k, k ≤ 4 → ∃ r, instUp l own4 k = some r ∧ r.p.length = 4 ∧ r.b = l.b ∧ ∀ i, i < 4 → r.p.getD i 0 = if i < k then l.p.getD i 0 else -1
  | 0, _ => ⟨numL l.b, rfl, rfl, rfl, fun i hi => by rw [num_at l.b hi, if_neg (by omega)]⟩
  | k + 1, hk => by
    obtain ⟨r, h1, h2, h3, h4⟩ := inst_own_up hl hr k (by omega)
    have hb := right_b hr
    have hp := right_at hr (i := k) (by omega)
    rw [instUp, h1]
    simp only
    by_cases e : l.p.getD k 0 = -1
    · rw [if_pos e]
      refine ⟨r, rfl, h2, h3, fun i hi => ?_⟩
      rw [h4 i hi]
      by_cases ik : i < k
      · rw [if_pos ik, if_pos (by omega)]
      · rw [if_neg ik]
        by_cases ik2 : i = k
        · subst ik2
          rw [if_pos (by omega), e]
        · rw [if_neg (by omega)]
    · rw [if_neg e, own4_at (by omega)]
      have hu : upOk (parL k) (l.p.getD k 0) = true := by
        simp only [upOk, Bool.and_eq_true, decide_eq_true_eq]
        exact ⟨⟨own4_right (by omega), by omega, by omega⟩, by show 0 + _ ≤ (100 : Int); omega⟩
      rw [if_pos hu]
      refine ⟨_, rfl, max2_len h2 (upRaw_len (parL_len k)), ?_, fun i hi => ?_⟩
      · show max r.b (0 + l.p.getD k 0) = l.b
        rw [h3]
        omega
      · rw [max2_at h2 (upRaw_len (parL_len k)) hi, h4 i hi, upRaw_at (parL_len k) hi, parL_at (by omega) hi]
        have hpi := right_at hr (i := i) (by omega)
        by_cases ik : i = k
        · subst ik
          rw [if_neg (by omega), if_pos rfl, if_pos (by omega), upP, if_neg (by omega)]
          omega
        · rw [if_neg ik, upP, if_pos rfl]
          by_cases ik2 : i < k
          · rw [if_pos ik2, if_pos (by omega)]
            omega
          · rw [if_neg ik2, if_neg (by omega)]
            omega
theorem inst_own {l : Lv} (hl : l.p.length = 4) (hr : rightL l = true) : instL l own4 = some l := by
  have hw : widthL l ≤ 4 := widthUp_le l 4
  obtain ⟨r, h1, h2, h3, h4⟩ := inst_own_up hl hr (widthL l) hw
  rw [instL, if_pos (by rw [hr, decide_eq_true (show widthL l ≤ own4.length from hw)]; decide), h1]
  congr 1
  refine Lv.ext2 h2 hl h3 fun i hi => ?_
  rw [h4 i hi]
  by_cases e : i < widthL l
  · rw [if_pos e]
  · rw [if_neg e, widthUp_no l 4 i (by unfold widthL at e; omega) hi]
theorem all_own : ∀ (ls : List Lv), (∀ x ∈ ls, x.p.length = 4) → ls.all rightL = true → instAll own4 ls = some ls
  | [], _, _ => rfl
  | l :: ls, h, hr => by
    rw [List.all_cons, Bool.and_eq_true] at hr
    rw [instAll, inst_own (h l (by simp)) hr.1]
    simp only
    rw [all_own ls (fun x hx => h x (by simp [hx])) hr.2]
    rfl
mutual
/-- Every level of a term has four numbers. -/
def LvOk : Tm → Prop
  | .mk _ _ _ l a => (∀ x ∈ l, x.p.length = 4) ∧ LvOks a
def LvOks : List Tm → Prop
  | [] => True
  | t :: ts => LvOk t ∧ LvOks ts
end
mutual
theorem lvOk_of {F : List Nat} {w : World} : ∀ (t : Tm) (cs : List Value), TmAt F w t cs → LvOk t
  | .mk k n s l a, cs, h => by
    rw [TmAt] at h
    obtain ⟨lv, av, -, h2, h3⟩ := h
    obtain ⟨-, -, -, -, -, h4, -⟩ := h2
    rw [LvOk]
    exact ⟨h4, lvOks_of a av h3⟩
theorem lvOks_of {F : List Nat} {w : World} : ∀ (ts : List Tm) (v : Value), TmsAt F w ts v → LvOks ts
  | [], _, _ => by rw [LvOks]; trivial
  | t :: ts, v, h => by
    rw [TmsAt] at h
    obtain ⟨cap, pb, po, -, -, -, -, h5⟩ := h
    exact lvOksR_of (t :: ts) pb po h5
theorem lvOksR_of {F : List Nat} {w : World} : ∀ (ts : List Tm) (pb po : Nat), TmRow F w ts pb po → LvOks ts
  | [], _, _, _ => by rw [LvOks]; trivial
  | t :: ts, pb, po, h => by
    rw [TmRow] at h
    obtain ⟨⟨cs, -, h2⟩, h3⟩ := h
    rw [LvOks]
    exact ⟨lvOk_of t cs h2, lvOksR_of ts pb (po + 5) h3⟩
end
theorem head_lvs {p deep k n : Int} {s : List UInt8} {l : List Lv} {a : Nat} (h : headT wordB p deep k n s l a = true) : l.all rightL = true ∧ l.all (fun x => rightL x && decide ((widthL x : Int) ≤ p)) = true := by
  simp only [headT, Bool.and_eq_true] at h
  have h2 := h.1.1.1.2
  refine ⟨?_, h2⟩
  rw [List.all_eq_true] at h2 ⊢
  intro x hx
  have := h2 x hx
  rw [Bool.and_eq_true] at this
  exact this.1
theorem head_new {p p' deep k n : Int} {s : List UInt8} {l l' : List Lv} {a : Nat} (h : headT wordB p deep k n s l a = true) (hl : l'.length = l.length) (h' : l'.all (fun x => rightL x && decide ((widthL x : Int) ≤ p')) = true) : headT wordB p' deep k n s l' a = true := by
  simp only [headT, Bool.and_eq_true, hl] at h ⊢
  obtain ⟨⟨⟨⟨h1, h2⟩, h3⟩, h4⟩, h5⟩ := h
  exact ⟨⟨⟨⟨h1, h'⟩, h3⟩, h4⟩, h5⟩
mutual
theorem lev_id : ∀ (t : Tm) (d v deep : Int), rightT wordB 4 v deep t = true → LvOk t → rebT (levG own4) () d t = some ((), t)
  | .mk k n s l a, d, v, deep, h, hl => by
    obtain ⟨h1, h2, h3, h4⟩ := right_args h
    rw [LvOk] at hl
    have e : levG own4 () (.mk k n s l []) d = some ((), .mk k n s l []) := by
      show ((instAll own4 l).map fun ls => Tm.mk k n s ls []).map (fun r => ((), r)) = _
      rw [all_own l hl.1 (head_lvs h2).1]
      rfl
    rw [rebT, e]
    simp only
    by_cases ha : a.length = 0
    · rw [if_pos ha, List.eq_nil_of_length_eq_zero ha]
    · rw [if_neg ha, levs_id a d k a.length 0 0 v deep h4 hl.2]
      rfl
theorem levs_id : ∀ (ts : List Tm) (d k : Int) (N i j : Nat) (v deep : Int), rightTs wordB 4 v deep k j ts = true → LvOks ts → rebTs (levG own4) () d k N i ts = some ((), ts)
  | [], _, _, _, _, _, _, _, _, _ => by rw [rebTs]
  | t :: ts, d, k, N, i, j, v, deep, h, hl => by
    rw [rightTs, Bool.and_eq_true] at h
    rw [LvOks] at hl
    rw [rebTs, lev_id t _ _ _ h.1 hl.1]
    simp only
    rw [levs_id ts d k N (i + 1) (j + 1) v deep h.2 hl.2]
    rfl
end
theorem levels_own {t : Tm} (hr : rightP 4 1099511627776 t = true) (hl : LvOk t) : levelsO own4 t = some t := by
  unfold levelsO levO
  rw [if_pos hr, lev_id t 0 _ _ (rightP_parts hr).2.2 hl]
  rfl
/-- Closed levels make closed ones. -/
theorem inst_closed_up {l : Lv} {bs : List Lv} (hb : ∀ x ∈ bs, ∃ z, x = numL z) : ∀ k r, k ≤ bs.length → instUp l bs k = some r → r.p.length = 4 ∧ ∀ i, i < 4 → r.p.getD i 0 = -1
  | 0, r, _, h => by
    obtain rfl := Option.some.inj h
    exact ⟨rfl, fun i hi => num_at l.b hi⟩
  | k + 1, r, hk, h => by
    rw [instUp] at h
    split at h
    · cases h
    · next r0 h0 =>
      have i1 := inst_closed_up hb k r0 (by omega) h0
      split at h
      · obtain rfl := Option.some.inj h
        exact i1
      · split at h
        · obtain rfl := Option.some.inj h
          obtain ⟨z, hz⟩ := hb (bs.getD k zeroL) (by
            rw [List.getD_eq_getElem?_getD, List.getElem?_eq_getElem (by omega)]
            exact List.getElem_mem _)
          rw [hz]
          refine ⟨max2_len i1.1 (upRaw_len rfl), fun i hi => ?_⟩
          rw [max2_at i1.1 (upRaw_len rfl) hi, i1.2 i hi, upRaw_at rfl hi, num_at z hi, upP, if_pos rfl]
          rfl
        · cases h
theorem width_none {r : Lv} (h : ∀ i, i < 4 → r.p.getD i 0 = -1) : ∀ k, k ≤ 4 → widthUp r k = 0
  | 0, _ => rfl
  | k + 1, hk => by
    rw [widthUp, if_pos (h k (by omega))]
    exact width_none h k (by omega)
theorem inst_closed {l r : Lv} {bs : List Lv} (hb : ∀ x ∈ bs, ∃ z, x = numL z) (h : instL l bs = some r) : rightL r = true ∧ widthL r = 0 := by
  unfold instL at h
  split at h
  · next hc =>
    simp only [Bool.and_eq_true, decide_eq_true_eq] at hc
    have h4 : ∀ x ∈ bs, x.p.length = 4 := fun x hx => by
      obtain ⟨z, rfl⟩ := hb x hx
      rfl
    exact ⟨(instUp_right hc.1.1 h4 hc.2 _ _ hc.1.2 h).2, width_none (inst_closed_up hb _ _ hc.1.2 h).2 4 (Nat.le_refl _)⟩
  · cases h
theorem all_closed {bs : List Lv} (hb : ∀ x ∈ bs, ∃ z, x = numL z) : ∀ (ls rs : List Lv), instAll bs ls = some rs → rs.length = ls.length ∧ rs.all (fun x => rightL x && decide ((widthL x : Int) ≤ 0)) = true
  | [], rs, h => by
    obtain rfl := Option.some.inj h
    exact ⟨rfl, rfl⟩
  | l :: ls, rs, h => by
    rw [instAll] at h
    cases h1 : instL l bs with
    | none => rw [h1] at h; cases h
    | some r =>
      rw [h1] at h
      simp only at h
      cases h2 : instAll bs ls with
      | none => rw [h2] at h; cases h
      | some qs =>
        rw [h2] at h
        obtain rfl := Option.some.inj h
        have i1 := all_closed hb ls qs h2
        have i2 := inst_closed hb h1
        refine ⟨by simp [i1.1], ?_⟩
        rw [List.all_cons, i1.2, i2.1, i2.2]
        rfl
mutual
theorem lev_closed {bs : List Lv} (hb : ∀ x ∈ bs, ∃ z, x = numL z) : ∀ (t : Tm) (d v deep : Int) (y : Tm), rebT (levG bs) () d t = some ((), y) → rightT wordB 4 v deep t = true → rightT wordB 0 v deep y = true ∧ nodesT y = nodesT t
  | .mk k n s l a, d, v, deep, y, hy, h => by
    obtain ⟨h1, h2, h3, h4⟩ := right_args h
    rw [rebT] at hy
    have e : levG bs () (.mk k n s l []) d = (instAll bs l).map fun ls => ((), Tm.mk k n s ls []) := by
      show ((instAll bs l).map fun ls => Tm.mk k n s ls []).map (fun r => ((), r)) = _
      rw [Option.map_map]
      rfl
    rw [e] at hy
    cases h5 : instAll bs l with
    | none => rw [h5] at hy; cases hy
    | some ls =>
      rw [h5] at hy
      simp only [Option.map_some] at hy
      obtain ⟨c1, c2⟩ := all_closed hb l ls h5
      by_cases ha : a.length = 0
      · rw [if_pos ha] at hy
        cases hy
        obtain rfl := List.eq_nil_of_length_eq_zero ha
        refine ⟨?_, by rw [nodesT, nodesT, c1]⟩
        simp only [rightT, Bool.and_eq_true]
        refine ⟨⟨head_new h2 c1 c2, ?_⟩, by rw [rightTs]⟩
        by_cases hk : k = 1
        · simp [h3 hk]
        · simp [hk]
      · rw [if_neg ha] at hy
        cases h6 : rebTs (levG bs) () d k a.length 0 a with
        | none => rw [h6] at hy; cases hy
        | some p =>
          obtain ⟨u, ys⟩ := p
          rw [h6] at hy
          cases hy
          obtain ⟨c3, c4, c5⟩ := levs_closed hb a d k a.length 0 0 v deep ys h6 h4
          refine ⟨?_, by show nodesT (.mk k n s ls ys) = _; rw [nodesT, nodesT, c1, c4]⟩
          show rightT wordB 0 v deep (.mk k n s ls ys) = true
          simp only [rightT, Bool.and_eq_true, c5]
          refine ⟨⟨head_new h2 c1 c2, ?_⟩, c3⟩
          by_cases hk : k = 1
          · simp [h3 hk]
          · simp [hk]
theorem levs_closed {bs : List Lv} (hb : ∀ x ∈ bs, ∃ z, x = numL z) : ∀ (ts : List Tm) (d k : Int) (N i j : Nat) (v deep : Int) (ys : List Tm), rebTs (levG bs) () d k N i ts = some ((), ys) → rightTs wordB 4 v deep k j ts = true → rightTs wordB 0 v deep k j ys = true ∧ nodesTs ys = nodesTs ts ∧ ys.length = ts.length
  | [], _, _, _, _, _, _, _, ys, hy, _ => by
    rw [rebTs] at hy
    cases hy
    exact ⟨by rw [rightTs], rfl, rfl⟩
  | t :: ts, d, k, N, i, j, v, deep, ys, hy, h => by
    rw [rightTs, Bool.and_eq_true] at h
    rw [rebTs] at hy
    cases h1 : rebT (levG bs) () (d + moreD k i N) t with
    | none => rw [h1] at hy; cases hy
    | some p =>
      obtain ⟨u, x⟩ := p
      rw [h1] at hy
      simp only at hy
      cases h2 : rebTs (levG bs) u d k N (i + 1) ts with
      | none => rw [h2] at hy; cases hy
      | some p2 =>
        obtain ⟨u2, zs⟩ := p2
        rw [h2] at hy
        cases hy
        have i1 := lev_closed hb t _ _ _ x h1 h.1
        have i2 := levs_closed hb ts d k N (i + 1) (j + 1) v deep zs h2 h.2
        refine ⟨?_, ?_, ?_⟩
        · rw [rightTs, i1.1, i2.1]
          rfl
        · rw [nodesTs, nodesTs, i1.2, i2.2.1]
        · simp [i2.2.2]
end
theorem levels_closed {t y : Tm} {bs : List Lv} (hb : ∀ x ∈ bs, ∃ z, x = numL z) (h : levelsO bs t = some y) : rightP 0 1099511627776 y = true := by
  unfold levelsO at h
  split at h
  · next hr =>
    unfold levO at h
    cases h1 : rebT (levG bs) () 0 t with
    | none => rw [h1] at h; cases h
    | some p =>
      obtain ⟨u, x⟩ := p
      rw [h1] at h
      obtain rfl := Option.some.inj h
      obtain ⟨-, hn, hr0⟩ := rightP_parts hr
      have c := lev_closed hb t _ _ _ x h1 hr0
      unfold rightP
      simp only [Bool.and_eq_true, decide_eq_true_eq]
      exact ⟨by decide, by show nodesT x ≤ 3000; omega, c.1⟩
  · cases h
end Go.Proofs.Ytndbpmkglddjjaa
