/- Package vault: maps.DeleteFunc. -/
import Derived.Test.YtngpmilojfbpmaaDoorVltG
namespace Go.Proofs.YtngpmilojfbpmaaDoor
open Go Go.RowKit Go.ChangeMaps Go.MapKept
set_option maxRecDepth 100000

/-- Does the closure tell that an entry goes? -/
noncomputable def goesV (ks : List (List Int)) (v : Value) : Bool := @decide (¬ ∃ k ∈ ks, v = kval k) (Classical.propDecidable _)
theorem goesV_key (ks : List (List Int)) (k : List Int) : goesV ks (kval k) = !decide (k ∈ ks) := by
  unfold goesV
  by_cases h : k ∈ ks
  · rw [decide_eq_true h, @decide_eq_false _ (Classical.propDecidable _) (fun hc => hc ⟨k, h, rfl⟩)]; rfl
  · rw [decide_eq_false h, @decide_eq_true _ (Classical.propDecidable _) (fun ⟨k', h1, h2⟩ => h (by rw [kval_inj h2]; exact h1))]; rfl
/-- What is left of a map behind a round. -/
noncomputable def leftE (ks : List (List Int)) (seen : Array Nat) (es0 : List MapEntry) : List MapEntry := es0.filter (fun x => !(seen.contains x.born && goesV ks x.key))
def todoE (seen : Array Nat) (es0 : List MapEntry) : List MapEntry := es0.filter (fun x => !seen.contains x.born)
theorem born_inj {l : List MapEntry} (h : (l.map (·.born)).Nodup) {x y : MapEntry} (hx : x ∈ l) (hy : y ∈ l) (e : x.born = y.born) : x = y := by
  obtain ⟨i, hi⟩ := List.mem_iff_getElem?.1 hx
  obtain ⟨j, hj⟩ := List.mem_iff_getElem?.1 hy
  have : i = j := nodup_at h (x := x.born) (by rw [List.getElem?_map, hi]; rfl) (by rw [List.getElem?_map, hj, e]; rfl)
  subst this
  rw [hi] at hj
  exact Option.some.inj hj
theorem key_inj {l : List MapEntry} (h : (l.map (·.key)).Nodup) {x y : MapEntry} (hx : x ∈ l) (hy : y ∈ l) (e : x.key = y.key) : x = y := by
  obtain ⟨i, hi⟩ := List.mem_iff_getElem?.1 hx
  obtain ⟨j, hj⟩ := List.mem_iff_getElem?.1 hy
  have : i = j := nodup_at h (x := x.key) (by rw [List.getElem?_map, hi]; rfl) (by rw [List.getElem?_map, hj, e]; rfl)
  subst this
  rw [hi] at hj
  exact Option.some.inj hj
theorem erase_born {l : List MapEntry} (h : (l.map (·.born)).Nodup) {j : Nat} {e : MapEntry} (hj : l[j]? = some e) : l.eraseIdx j = l.filter (fun x => x.born != e.born) := by
  induction l generalizing j with
  | nil => simp at hj
  | cons y l ih =>
    rw [List.map_cons, List.nodup_cons] at h
    cases j with
    | zero =>
      obtain rfl : y = e := by simpa using hj
      rw [List.eraseIdx_zero, List.tail_cons, List.filter_cons, if_neg (by simp)]
      refine (List.filter_eq_self.2 fun x hx => ?_).symm
      simp only [bne_iff_ne, ne_eq]
      exact fun hc => h.1 (hc ▸ List.mem_map.2 ⟨x, hx, rfl⟩)
    | succ j =>
      have hm : e ∈ l := List.mem_of_getElem? (by simpa using hj)
      rw [List.eraseIdx_cons_succ, List.filter_cons, if_pos, ih h.2 (by simpa using hj)]
      simp only [bne_iff_ne, ne_eq]
      exact fun hc => h.1 (hc ▸ List.mem_map.2 ⟨e, hm, rfl⟩)
theorem contains_push (seen : Array Nat) (a b : Nat) : (seen.push a).contains b = (seen.contains b || (a == b)) := by
  rw [Array.contains_push]
  cases seen.contains b <;> simp [Bool.beq_comm]
theorem left_goes {ks : List (List Int)} {seen : Array Nat} {es0 : List MapEntry} (h : (es0.map (·.born)).Nodup) {e : MapEntry} (he : e ∈ es0) (hb : goesV ks e.key = true) : leftE ks (seen.push e.born) es0 = (leftE ks seen es0).filter (fun x => x.born != e.born) := by
  unfold leftE
  rw [List.filter_filter]
  refine List.filter_congr fun x hx => ?_
  rw [contains_push]
  by_cases hxe : x.born = e.born
  · obtain rfl := born_inj h hx he hxe
    simp [hb]
  · have : (e.born == x.born) = false := by simpa using fun hc => hxe hc.symm
    rw [this, Bool.or_false, show (x.born != e.born) = true by simpa using hxe, Bool.true_and]
theorem left_stays {ks : List (List Int)} {seen : Array Nat} {es0 : List MapEntry} (h : (es0.map (·.born)).Nodup) {e : MapEntry} (he : e ∈ es0) (hb : goesV ks e.key = false) : leftE ks (seen.push e.born) es0 = leftE ks seen es0 := by
  unfold leftE
  refine List.filter_congr fun x hx => ?_
  rw [contains_push]
  by_cases hxe : x.born = e.born
  · obtain rfl := born_inj h hx he hxe
    simp [hb]
  · have : (e.born == x.born) = false := by simpa using fun hc => hxe hc.symm
    rw [this, Bool.or_false]
theorem todo_of_left {ks : List (List Int)} {seen : Array Nat} {es0 : List MapEntry} : (leftE ks seen es0).filter (fun x => !seen.contains x.born) = todoE seen es0 := by
  unfold leftE todoE
  rw [List.filter_filter]
  refine List.filter_congr fun x _ => ?_
  cases seen.contains x.born <;> simp
theorem todo_less {seen : Array Nat} {es0 : List MapEntry} {e : MapEntry} (he : e ∈ todoE seen es0) : (todoE (seen.push e.born) es0).length < (todoE seen es0).length := by
  have h : todoE (seen.push e.born) es0 = (todoE seen es0).filter (fun x => x.born != e.born) := by
    unfold todoE
    rw [List.filter_filter]
    refine List.filter_congr fun x _ => ?_
    rw [contains_push]
    by_cases hxe : x.born = e.born
    · simp [hxe]
    · have : (e.born == x.born) = false := by simpa using fun hc => hxe hc.symm
      rw [this, Bool.or_false, show (x.born != e.born) = true by simpa using hxe, Bool.true_and]
  rw [h]
  exact List.length_filter_lt_length_iff_exists.2 ⟨e, he, by simp⟩
theorem left_end {ks : List (List Int)} {seen : Array Nat} {es0 : List MapEntry} (h : todoE seen es0 = []) : leftE ks seen es0 = es0.filter (fun x => !goesV ks x.key) := by
  unfold leftE
  refine List.filter_congr fun x hx => ?_
  have : seen.contains x.born = true := by
    cases hc : seen.contains x.born with
    | true => rfl
    | false =>
      have : x ∈ todoE seen es0 := List.mem_filter.2 ⟨hx, by rw [hc]; rfl⟩
      rw [h] at this
      simp at this
  rw [this, Bool.true_and]
theorem filter_keys {l : List MapEntry} {ks0 : List (List Int)} (h : l.map (·.key) = ks0.map kval) (ks : List (List Int)) : (l.filter (fun x => !goesV ks x.key)).map (·.key) = (keptD ks0 ks).map kval := by
  have e1 : (l.filter (fun x => !goesV ks x.key)).map (·.key) = (l.map (·.key)).filter (fun v => !goesV ks v) := by rw [List.filter_map]; rfl
  rw [e1, h, List.filter_map]
  unfold keptD
  congr 1
  refine List.filter_congr fun k _ => ?_
  simp only [Function.comp, goesV_key, Bool.not_not]
/-- An iterator r over the map mb, in the midst of a sweep. -/
structure Rg (w : World) (mb r c : Nat) (ks : List (List Int)) (es0 : List MapEntry) (seen : Array Nat) : Prop where
  hr : w.heap[r]? = some (.mapIter (some mb) c seen c)
  hb : ∃ es, w.heap[mb]? = some (.map es c) ∧ es.toList = leftE ks seen es0
theorem Rg.same {w w' : World} {mb r c : Nat} {ks : List (List Int)} {es0 : List MapEntry} {seen : Array Nat} (h : Rg w mb r c ks es0 seen) (h1 : w'.heap[r]? = w.heap[r]?) (h2 : w'.heap[mb]? = w.heap[mb]?) : Rg w' mb r c ks es0 seen := by
  obtain ⟨es, hb, he⟩ := h.hb
  exact ⟨h1.trans h.hr, es, h2.trans hb, he⟩
theorem Rg.rlt {w : World} {mb r c : Nat} {ks : List (List Int)} {es0 : List MapEntry} {seen : Array Nat} (h : Rg w mb r c ks es0 seen) : r < w.heap.size := (Array.getElem?_eq_some_iff.1 h.hr).1
theorem Rg.mlt {w : World} {mb r c : Nat} {ks : List (List Int)} {es0 : List MapEntry} {seen : Array Nat} (h : Rg w mb r c ks es0 seen) : mb < w.heap.size := by
  obtain ⟨es, hb, _⟩ := h.hb
  exact (Array.getElem?_eq_some_iff.1 hb).1
theorem Rg.below {w w' : World} {mb r c : Nat} {ks : List (List Int)} {es0 : List MapEntry} {seen : Array Nat} (h : Rg w mb r c ks es0 seen) (hb : Below w.heap.size w w') : Rg w' mb r c ks es0 seen := h.same (hb.block r h.rlt) (hb.block mb h.mlt)
def rgLeft (es0 : List MapEntry) (r : Nat) (w : World) : Nat := match w.heap[r]? with | some (.mapIter _ _ seen _) => (todoE seen es0).length | _ => 0
theorem Rg.left {w : World} {mb r c : Nat} {ks : List (List Int)} {es0 : List MapEntry} {seen : Array Nat} (h : Rg w mb r c ks es0 seen) : rgLeft es0 r w = (todoE seen es0).length := by
  unfold rgLeft
  rw [h.hr]
/-- The step of the iterator. -/
theorem Rg.next {w : World} {mb r c : Nat} {ks : List (List Int)} {es0 : List MapEntry} {seen : Array Nat} (h : Rg w mb r c ks es0 seen) (hs : Stamped es0.toArray c) (ty : TypeId) :
    (todoE seen es0 = [] ∧ (Instr.next (.pointer (some ⟨r, 0, none⟩)) false ty).run Tryd.prog w = .ok (.tuple #[.bool false]) w) ∨
    ∃ e w2, e ∈ todoE seen es0 ∧ e ∈ es0 ∧ (Instr.next (.pointer (some ⟨r, 0, none⟩)) false ty).run Tryd.prog w = .ok (.tuple #[.bool true, e.key, e.val]) w2 ∧ w2.heap[r]? = some (.mapIter (some mb) c (seen.push e.born) c) ∧ (∃ es, w2.heap[mb]? = some (.map es c) ∧ es.toList = leftE ks seen es0) ∧ (Instr.entry (.pointer (some ⟨r, 0, none⟩))).run Tryd.prog w2 = .ok (.tuple #[e.key, e.val]) w2 ∧ Upd r w w2 ∧ w2.heap.size = w.heap.size := by
  obtain ⟨es, hb, he⟩ := h.hb
  have hsub : ∀ x ∈ es.toList, x ∈ es0 := fun x hx => by rw [he] at hx; exact (List.mem_filter.1 hx).1
  have hlo : (leftOf es seen).toList = todoE seen es0 := by
    unfold leftOf
    rw [Array.toList_filter, he, todo_of_left]
  have hnd : (es.toList.map (·.born)).Nodup := by
    rw [he]
    exact List.Nodup.sublist ((List.filter_sublist).map _) hs.2.1
  rcases run_next_at (P := Tryd.prog) w ty r mb c c seen es c h.hr hb (fun x hx => hs.1 x (hsub x hx)) (Nat.le_refl _) with ⟨h1, h2⟩ | ⟨e, hem, w1, hw1, h2⟩
  · left
    refine ⟨?_, h2⟩
    rw [← hlo]
    exact List.eq_nil_of_length_eq_zero (by rw [Array.length_toList]; exact h1)
  · right
    rw [hlo] at hem
    have hin : e ∈ es.toList := by rw [he, ]; exact List.mem_filter.2 ⟨(List.mem_filter.1 hem).1, by have := (List.mem_filter.1 hem).2; simp at this; simp [this]⟩
    have hh : w1.heap = w.heap := by rcases hw1 with rfl | rfl <;> rfl
    have hos : w1.os = w.os ∧ w1.tape = w.tape ∧ w1.output = w.output := by rcases hw1 with rfl | rfl <;> exact ⟨rfl, rfl, rfl⟩
    have hr1 : r < w.heap.size := h.rlt
    have hne : r ≠ mb := fun hc => by
      have := h.hr
      rw [hc, hb] at this
      cases this
    have hR : (setBlock w1 r (.mapIter (some mb) c (seen.push e.born) c)).heap[r]? = some (.mapIter (some mb) c (seen.push e.born) c) := by simp [setBlock, hh, hr1]
    have hM : (setBlock w1 r (.mapIter (some mb) c (seen.push e.born) c)).heap[mb]? = some (.map es c) := by
      simp [setBlock, hh, hne]
      simpa using hb
    exact ⟨e, _, hem, hsub e hin, h2, hR, ⟨es, hM, he⟩, run_entry_at _ r mb c seen es c e hR hM hin hnd, ⟨hos.1, hos.2.1, hos.2.2, by simp [setBlock, hh], fun x hx hxr => by simp [setBlock, hh, Ne.symm hxr]⟩, by simp [setBlock, hh]⟩
theorem good_keys {l : List MapEntry} : (∀ e ∈ l, ∃ k, e.key = kval k ∧ goodK k) → ∃ ks : List (List Int), l.map (·.key) = ks.map kval ∧ ∀ k ∈ ks, goodK k := by
  induction l with
  | nil => exact fun _ => ⟨[], rfl, fun k hk => by simp at hk⟩
  | cons e l ih =>
    intro h
    obtain ⟨ks, h1, h2⟩ := ih (fun x hx => h x (List.mem_cons_of_mem _ hx))
    obtain ⟨k, hk1, hk2⟩ := h e (by simp)
    exact ⟨k :: ks, by simp [h1, hk1], fun x hx => by rcases List.mem_cons.1 hx with rfl | hx; exact hk2; exact h2 x hx⟩
/-- The entry that came is struck. -/
theorem Rg.strike {w : World} {mb r c : Nat} {ks : List (List Int)} {es0 : List MapEntry} {seen : Array Nat} {e : MapEntry} (hr : w.heap[r]? = some (.mapIter (some mb) c (seen.push e.born) c)) (hb : ∃ es, w.heap[mb]? = some (.map es c) ∧ es.toList = leftE ks seen es0) (hs : Stamped es0.toArray c) (hg : ∀ e ∈ es0, ∃ k, e.key = kval k ∧ goodK k)
    (hm : e ∈ todoE seen es0) {k : List Int} (hk : e.key = kval k) (hkg : goodK k) (hgo : goesV ks e.key = true) :
    ∃ w2, (Builtin.delete_ #[71, 35] 0 #[.map (some mb), kval k]).run Tryd.prog w = .ok (.tuple #[]) w2 ∧ Rg w2 mb r c ks es0 (seen.push e.born) ∧ Upd mb w w2 := by
  obtain ⟨es, hb, he⟩ := hb
  have he0 : e ∈ es0 := (List.mem_filter.1 hm).1
  have hin : e ∈ es.toList := by rw [he]; exact List.mem_filter.2 ⟨he0, by have := (List.mem_filter.1 hm).2; simp at this; simp [this]⟩
  have hsub : ∀ x ∈ es.toList, x ∈ es0 := fun x hx => by rw [he] at hx; exact (List.mem_filter.1 hx).1
  obtain ⟨kc, hk1, hk2⟩ := good_keys (l := es.toList) (fun x hx => hg x (hsub x hx))
  have hbn : (es.toList.map (·.born)).Nodup := by rw [he]; exact List.Nodup.sublist ((List.filter_sublist).map _) hs.2.1
  have hkn : (es.toList.map (·.key)).Nodup := by rw [he]; exact List.Nodup.sublist ((List.filter_sublist).map _) hs.2.2
  obtain ⟨l, hl⟩ := kval_key hkg
  have hne : r ≠ mb := fun hc => by
    rw [hc, hb] at hr
    cases hr
  rcases Mp.find hk1 rfl hk2 hkg w with ⟨_, h5, _⟩ | ⟨j, v, h4, h5, h6⟩
  · exfalso
    apply h5
    have : kval k ∈ es.toList.map (·.key) := List.mem_map.2 ⟨e, hin, hk⟩
    rw [hk1] at this
    obtain ⟨k', h7, h8⟩ := List.mem_map.1 this
    rwa [← kval_inj h8]
  · have hje : es.toList[j]? = some e := by
      cases hx : es.toList[j]? with
      | none =>
        rw [List.getElem?_map, hx] at h6
        cases h6
      | some x =>
        have : x.key = kval k := by
          have h9 : (es.toList.map (·.key))[j]? = some x.key := by rw [List.getElem?_map, hx]; rfl
          rw [hk1, List.getElem?_map, h5] at h9
          exact (Option.some.inj h9).symm
        rw [key_inj hkn (List.mem_of_getElem? hx) hin (this.trans hk.symm)]
    have hjl : j < es.size := by have := (List.getElem?_eq_some_iff.1 hje).1; simpa using this
    have hel : (es.eraseIdxIfInBounds j).toList = leftE ks (seen.push e.born) es0 := by
      rw [left_goes hs.2.1 he0 hgo, ← he, ← erase_born hbn hje, Array.eraseIdxIfInBounds, dif_pos hjl, Array.toList_eraseIdx]
    refine ⟨setBlock w mb (.map (es.eraseIdxIfInBounds j) c), by simp [Builtin.delete_, run_underlying Tryd.underlying71, MapKept.run_getObj_map hb, digKeyed.check w _ hl, h4, MapKept.run_setObj_map _ hb, Result.andThen, setBlock], ⟨?_, ⟨_, heap_setBlock_same hb _, hel⟩⟩, upd_setBlock _ hb⟩
    rw [heap_setBlock_other hb _ hne]
    exact hr
end Go.Proofs.YtngpmilojfbpmaaDoor
/- Package vault: maps.DeleteFunc, Keep. -/
namespace Go.Proofs.YtngpmilojfbpmaaDoor
open Go Go.RowKit Go.ChangeMaps Go.MapKept
set_option maxRecDepth 100000

def keepV (gb : Nat) : Value := .func (.func 46) #[] #[.pointer (some ⟨gb, 0, none⟩)]
def MdPost (mb : Nat) (ks ks0 : List (List Int)) (vs0 : List Value) (w : World) (e : Ending) (w' : World) : Prop :=
  e = .returned (.tuple #[]) ∧ ∃ vs', Mp w' mb (keptD ks0 ks) vs' ∧ (∀ R : List Int → Value → Prop, (∀ (i : Nat) k v, ks0[i]? = some k → vs0[i]? = some v → R k v) → ∀ (i : Nat) k v, (keptD ks0 ks)[i]? = some k → vs'[i]? = some v → R k v) ∧ Upd mb w w'
theorem swept {w : World} {mb c : Nat} {ks ks0 : List (List Int)} {es0 : Array MapEntry} {vs0 : List Value} (hs : Stamped es0 c) (h2 : es0.toList.map (·.key) = ks0.map kval) (h3 : es0.toList.map (·.val) = vs0) (hg : ∀ k ∈ ks0, goodK k) {es : Array MapEntry} (hb : w.heap[mb]? = some (.map es c)) (he : es.toList = es0.toList.filter (fun x => !goesV ks x.key)) :
    ∃ vs', Mp w mb (keptD ks0 ks) vs' ∧ (∀ R : List Int → Value → Prop, (∀ (i : Nat) k v, ks0[i]? = some k → vs0[i]? = some v → R k v) → ∀ (i : Nat) k v, (keptD ks0 ks)[i]? = some k → vs'[i]? = some v → R k v) := by
  have hk := filter_keys h2 ks
  rw [← he] at hk
  refine ⟨es.toList.map (·.val), ⟨es, c, hb, ⟨fun x hx => hs.1 x ?_, ?_, ?_⟩, hk, rfl, fun k hk => hg k (List.mem_filter.1 hk).1⟩, fun R hR i k v hi hv => ?_⟩
  · rw [he] at hx; exact (List.mem_filter.1 hx).1
  · rw [he]; exact List.Nodup.sublist ((List.filter_sublist).map _) hs.2.1
  · rw [he]; exact List.Nodup.sublist ((List.filter_sublist).map _) hs.2.2
  · rw [List.getElem?_map] at hv
    cases hx : es.toList[i]? with
    | none => rw [hx] at hv; cases hv
    | some x =>
      rw [hx] at hv
      obtain rfl : x.val = v := by simpa using hv
      have hxk : x.key = kval k := by
        have h9 : (es.toList.map (·.key))[i]? = some x.key := by rw [List.getElem?_map, hx]; rfl
        rw [hk, List.getElem?_map, hi] at h9
        exact (Option.some.inj h9).symm
      have hin : x ∈ es0.toList := by have := List.mem_of_getElem? hx; rw [he] at this; exact (List.mem_filter.1 this).1
      obtain ⟨j, hj⟩ := List.mem_iff_getElem?.1 hin
      refine hR j k x.val ?_ (by rw [← h3, List.getElem?_map, hj]; rfl)
      have h9 : (es0.toList.map (·.key))[j]? = some x.key := by rw [List.getElem?_map, hj]; rfl
      rw [h2, List.getElem?_map, hxk] at h9
      cases hkj : ks0[j]? with
      | none => rw [hkj] at h9; cases h9
      | some k' => rw [hkj] at h9; rw [kval_inj (Option.some.inj h9)]
set_option maxHeartbeats 4000000 in
theorem mapdel_walk {w : World} {mb sb qm gb : Nat} {ks ks0 : List (List Int)} {vs0 : List Value} (h : Mp w mb ks0 vs0) (hset : SetAt w sb qm ks) (hgb : Blk w gb 81 [predV sb]) (hqm : qm ≠ mb) : Calls Tryd.prog 45 #[.map (some mb), keepV gb] w (MdPost mb ks ks0 vs0 w) := by
  obtain ⟨es0, c, hmb, hst, h2, h3, hg0⟩ := h
  have gbm : gb ≠ mb := Mp.notcells ⟨es0, c, hmb, hst, h2, h3, hg0⟩ hgb
  have sbm : sb ≠ mb := Mp.notcells ⟨es0, c, hmb, hst, h2, h3, hg0⟩ hset.1
  obtain ⟨R, hR⟩ : ∃ R, Hid (w.heap.size = R) := ⟨_, rfl⟩
  have MB := Lib.hid hmb
  have ST : Hid (Stamped es0 c) := hst
  have H2 := Lib.hid h2
  have H3 := Lib.hid h3
  have HG0 := Lib.hid hg0
  have HS := Lib.hid hset
  have HGB := Lib.hid hgb
  have GA : Hid (∀ e ∈ es0.toList, ∃ k, e.key = kval k ∧ goodK k) := fun e he => by
    have : e.key ∈ ks0.map kval := by rw [← h2]; exact List.mem_map.2 ⟨e, he, rfl⟩
    obtain ⟨k, hk, e1⟩ := List.mem_map.1 this
    exact ⟨k, e1.symm, hg0 k hk⟩
  have MBL : mb < w.heap.size := (Array.getElem?_eq_some_iff.1 hmb).1
  clear hmb hst h2 h3 hg0 hset hgb
  go_enter Tryd.func45, Tryd.ntmps45
  go_upto_region 0 with (fail)
  refine lin_begin (opsOf Tryd.f45 0) (by kernel_rfl) ?_
  refine lin_now 0 (.map (some mb)) (some 6) (by kernel_rfl) (by kernel_rfl) (by kernel_rfl) ?_
  have hrg := run_range_map (P := Tryd.prog) w 71 35 22 mb es0 c Tryd.underlying71 MB.out
  have hr1 : (w.alloc (.mapIter (some mb) c #[] c)).heap[w.heap.size]? = some (.mapIter (some mb) c #[] c) := heap_alloc_last w _
  have hb1 : (w.alloc (.mapIter (some mb) c #[] c)).heap[mb]? = some (.map es0 c) := by rw [((Below.refl w.heap.size w).alloc (Nat.le_refl _) (.mapIter (some mb) c #[] c)).block mb MBL]; exact MB.out
  have B1 : Hid (Below w.heap.size w (w.alloc (.mapIter (some mb) c #[] c))) := (Below.refl _ _).alloc (Nat.le_refl _) _
  rw [hR.out] at hrg hr1
  generalize w.alloc (.mapIter (some mb) c #[] c) = w1 at hrg hr1 hb1 B1
  refine lin_value 1 (.pointer (some ⟨R, 0, none⟩)) (some 7) w1 (by kernel_rfl) (by kernel_rfl) (exec_of (Instr.range 71 (.map (some mb))) _ (by kernel_rfl) hrg) ?_
  refine lin_done 2 (by kernel_rfl) ?_
  have G1 : Hid (Rg w1 mb R c ks es0.toList #[]) := ⟨hr1, es0, hb1, (List.filter_eq_self.2 (fun x _ => by simp)).symm⟩
  clear hrg hr1 hb1
  generalize hact : Act.put _ (some 7) _ = act
  simp only [Act.put, List.setIfInBounds_toArray, List.set_cons_succ, List.set_cons_zero] at hact
  subst hact
  go_wp2
  go_loopw [4, 5] (fun _ _ wr => ∃ seen, Rg wr mb R c ks es0.toList seen ∧ Upd mb w wr) (fun _ _ wr => rgLeft es0.toList R wr)
  case atStart => exact ⟨#[], G1.out, Upd.of_below B1.out (Nat.le_refl _)⟩
  case round =>
    obtain ⟨seen, hrg, hup⟩ := hrel
    have RG := Lib.hid hrg
    have UW := Lib.hid hup
    clear hrg hup G1 B1
    rcases RG.out.next ST.out 0 with ⟨ht, hn⟩ | ⟨⟨ek, ev, eb⟩, w2, hm, hin, hn, hr2, hb2, hen, hu2, hs2⟩
    · go_upto_region 1 with (fail)
      refine lin_begin (opsOf Tryd.f45 1) (by kernel_rfl) ?_
      refine lin_now 0 (.tuple #[.bool false]) (some 8) (by kernel_rfl) (by kernel_rfl) (exec_of (Instr.next (.pointer (some ⟨R, 0, none⟩)) false 0) _ (by kernel_rfl) hn) ?_
      refine lin_now 1 (.bool false) (some 9) (by kernel_rfl) (by kernel_rfl) (by kernel_rfl) ?_
      refine lin_done 2 (by kernel_rfl) ?_
      have HT := Lib.hid ht
      clear ht hn
      generalize hact : Act.put _ (some 9) _ = act
      simp only [Act.put, List.setIfInBounds_toArray, List.set_cons_succ, List.set_cons_zero] at hact
      subst hact
      go_wp2
      go_end0
      obtain ⟨es, hb, he⟩ := RG.out.hb
      rw [left_end HT.out] at he
      obtain ⟨vs', h1, h2⟩ := swept ST.out H2.out H3.out HG0.out hb he
      exact ⟨rfl, vs', h1, h2, UW.out⟩
    · obtain ⟨k, hk, hkg⟩ := GA.out _ hin
      simp only at hk
      subst hk
      have HM := Lib.hid hm
      have HR2 := Lib.hid hr2
      have HB2 := Lib.hid hb2
      have GK := Lib.hid hkg
      have KS : Hid ((Tryd.prog.info? 35).map (·.size) = some (ints .u8 k).length) := blk_goodK hkg.1
      have U2 : Hid (Upd mb w w2) := ⟨hu2.os.trans UW.out.os, hu2.tape.trans UW.out.tape, hu2.output.trans UW.out.output, Nat.le_trans UW.out.size hu2.size, fun x hx hxm => (hu2.block x (Nat.lt_of_lt_of_le hx UW.out.size) (by have := hR.out; omega)).trans (UW.out.block x hx hxm)⟩
      have RL : Hid (R < w2.heap.size) := (Array.getElem?_eq_some_iff.1 hr2).1
      clear hm hin hr2 hb2 hkg hu2 hs2
      go_upto_region 1 with (fail)
      refine lin_begin (opsOf Tryd.f45 1) (by kernel_rfl) ?_
      refine lin_value 0 (.tuple #[.bool true, kval k, ev]) (some 8) w2 (by kernel_rfl) (by kernel_rfl) (exec_of (Instr.next (.pointer (some ⟨R, 0, none⟩)) false 0) _ (by kernel_rfl) hn) ?_
      refine lin_now 1 (.bool true) (some 9) (by kernel_rfl) (by kernel_rfl) (by kernel_rfl) ?_
      refine lin_done 2 (by kernel_rfl) ?_
      clear hn
      generalize hact : Act.put _ (some 9) _ = act
      simp only [Act.put, List.setIfInBounds_toArray, List.set_cons_succ, List.set_cons_zero] at hact
      subst hact
      obtain ⟨q, hq⟩ : ∃ q, Hid (w2.heap.size = q) := ⟨_, rfl⟩
      go_upto_region 2 with (fail)
      refine lin_begin (opsOf Tryd.f45 2) (by kernel_rfl) ?_
      refine lin_now 0 (.tuple #[kval k, ev]) (some 10) (by kernel_rfl) (by kernel_rfl) (exec_of (Instr.entry (.pointer (some ⟨R, 0, none⟩))) _ (by kernel_rfl) hen) ?_
      refine lin_now 1 (.agg (ints .u8 k).toArray) (some 11) (by kernel_rfl) (by kernel_rfl) (by kernel_rfl) ?_
      refine lin_now 2 (ev) (some 12) (by kernel_rfl) (by kernel_rfl) (by kernel_rfl) ?_
      refine lin_alloc 3 35 (ints .u8 z32) (q) (some 4) (by kernel_rfl) (by kernel_rfl) (by kernel_rfl) zeroDig hq ?_
      intro w3 b3 be3 hs3
      refine lin_put 4 35 (.tmp 4) (.tmp 11) (q) _ (ints .u8 z32) (ints .u8 k) (by kernel_rfl) (by kernel_rfl) (by kernel_rfl) (by kernel_rfl) (by kernel_rfl) b3 ((by simp only [ints_length, GK.out.1, z32_length])) KS.out (ints_oneCell _ _) ?_
      intro w4 b4 u4
      refine lin_now 5 (ev) (some 5) (by kernel_rfl) (by kernel_rfl) (by kernel_rfl) ?_
      refine lin_done 6 (by kernel_rfl) ?_
      have X4 := Lib.hid b4
      have BW4 : Hid (Below w2.heap.size w2 w4) := u4.below (by rw [hq.out]; exact be3) (by rw [hq.out]; exact Nat.le_refl _) (by rw [hs3.out, hq.out]; omega)
      have U4 : Hid (Upd mb w w4) := U2.out.trans (Upd.of_below BW4.out (Nat.le_refl _))
      clear b3 be3 hs3 b4 u4 hen
      generalize hact : Act.put _ (some 5) _ = act
      simp only [Act.put, List.setIfInBounds_toArray, List.set_cons_succ, List.set_cons_zero] at hact
      subst hact
      have S4 : Hid (SetAt w4 sb qm ks) := HS.out.step (F := [mb]) (F' := [mb]) (Step.of_upd U4.out (by simp)) (by simpa using sbm) (by simpa using hqm)
      have GB4 : Hid (Blk w4 gb 81 [predV sb]) := U4.out.blk HGB.out gbm
      obtain ⟨b, hb⟩ : ∃ b, Hid ((!decide (k ∈ ks)) = b) := ⟨_, rfl⟩
      go_upto_region 3 with (fail)
      refine lin_begin (opsOf Tryd.f45 3) (by kernel_rfl) ?_
      refine lin_now 0 (keepV gb) (some 13) (by kernel_rfl) (by kernel_rfl) (by kernel_rfl) ?_
      refine lin_now 1 (.agg (ints .u8 k).toArray) (some 14) (by kernel_rfl) (by kernel_rfl) (exec_load_mid 35 (.tmp 4) (by kernel_rfl) q 0 (by kernel_rfl) (ints .u8 k) _ X4.out.whole digUnder rfl KS.out) ?_
      refine lin_now 2 (ev) (some 15) (by kernel_rfl) (by kernel_rfl) (by kernel_rfl) ?_
      refine lin_call 3 46 #[.agg (ints .u8 k).toArray, ev, .pointer (some ⟨gb, 0, none⟩)] (some 16) _ (by kernel_rfl) (by kernel_rfl) (by kernel_rfl) (keep1_walk S4.out GB4.out GK.out ev b hb.out) ?_
      rintro e w5 ⟨rfl, hb5⟩
      have BW5 : Hid (Below w2.heap.size w2 w5) := BW4.out.trans (hb5.mono BW4.out.size)
      have U5 : Hid (Upd mb w w5) := U4.out.trans (Upd.of_below hb5 (Nat.le_refl _))
      have X5 : Hid (Blk w5 q 35 (ints .u8 k)) := X4.out.below hb5 X4.out.lt
      clear hb5 S4 GB4 X4 BW4 U4
      refine ⟨_, rfl, ?_⟩
      refine lin_done 4 (by kernel_rfl) ?_
      have R5 : Hid (w5.heap[R]? = some (.mapIter (some mb) c (seen.push eb) c)) := (BW5.out.block R RL.out).trans HR2.out
      have M5 : Hid (∃ es, w5.heap[mb]? = some (.map es c) ∧ es.toList = leftE ks seen es0.toList) := by
        obtain ⟨es, h1, h2⟩ := HB2.out
        exact ⟨es, (BW5.out.block mb (Array.getElem?_eq_some_iff.1 h1).1).trans h1, h2⟩
      have LESS : Hid ((todoE (seen.push eb) es0.toList).length < rgLeft es0.toList R wr) := by unfold Hid; rw [RG.out.left]; exact todo_less HM.out
      have HE0 : Hid (({ key := kval k, val := ev, born := eb } : MapEntry) ∈ es0.toList) := (List.mem_filter.1 HM.out).1
      clear HR2 HB2 RL
      generalize hact : Act.put _ (some 16) _ = act
      simp only [Act.put, List.setIfInBounds_toArray, List.set_cons_succ, List.set_cons_zero] at hact
      subst hact
      cases b with
      | true =>
        obtain ⟨w6, hd6, hrg6, hu6⟩ := Rg.strike R5.out M5.out ST.out GA.out HM.out rfl GK.out (by rw [goesV_key]; exact hb.out)
        have R6 := Lib.hid hrg6
        have U6 : Hid (Upd mb w w6) := U5.out.trans hu6
        clear hrg6 hu6
        go_upto_region 4 with (fail)
        refine lin_begin (opsOf Tryd.f45 4) (by kernel_rfl) ?_
        refine lin_now 0 (.map (some mb)) (some 17) (by kernel_rfl) (by kernel_rfl) (by kernel_rfl) ?_
        refine lin_now 1 (.agg (ints .u8 k).toArray) (some 18) (by kernel_rfl) (by kernel_rfl) (exec_load_mid 35 (.tmp 4) (by kernel_rfl) q 0 (by kernel_rfl) (ints .u8 k) _ X5.out.whole digUnder rfl KS.out) ?_
        refine lin_value 2 (.tuple #[]) none w6 (by kernel_rfl) (by kernel_rfl) (exec_of (Builtin.delete_ #[71, 35] 0 #[.map (some mb), kval k]) _ (by kernel_rfl) hd6) ?_
        refine lin_done 3 (by kernel_rfl) ?_
        clear hd6
        generalize hact : Act.put _ none _ = act
        simp only [Act.put, List.setIfInBounds_toArray, List.set_cons_succ, List.set_cons_zero] at hact
        subst hact
        go_wp2
        exact ⟨⟨seen.push eb, R6.out, U6.out⟩, by rw [R6.out.left]; exact LESS.out⟩
      | false =>
        have R6 : Hid (Rg w5 mb R c ks es0.toList (seen.push eb)) := ⟨R5.out, by
          obtain ⟨es, h1, h2⟩ := M5.out
          exact ⟨es, h1, by rw [h2]; exact (left_stays ST.out.2.1 HE0.out (by rw [goesV_key]; exact hb.out)).symm⟩⟩
        go_wp2
        exact ⟨⟨seen.push eb, R6.out, U5.out⟩, by rw [R6.out.left]; exact LESS.out⟩
end Go.Proofs.YtngpmilojfbpmaaDoor
/- Package vault: Keep. -/
namespace Go.Proofs.YtngpmilojfbpmaaDoor
open Go Go.RowKit
set_option maxRecDepth 100000

theorem Vm.more {w : World} {G G' : List Nat} {vb d : Nat} {ap : Option Addr} {kv : Value} {mb : Nat} {es : List Ent} (h : Vm w G vb d ap kv mb es) (hs : ∀ k ∈ G', k ∈ G ∨ w.heap.size ≤ k) : Vm w G' vb d ap kv mb es := by
  obtain ⟨vs, h1, h2⟩ := h.hm
  refine ⟨h.hb, h.hk, ⟨vs, h1, fun i v e hv he => ⟨(h2 i v e hv he).1.more (fun k hk => ?_), (h2 i v e hv he).2⟩⟩, h.n1, fun k hk hc => ?_, h.sh⟩
  · rcases List.mem_append.1 hk with h3 | h3
    · exact .inl (List.mem_append_left _ h3)
    · rcases hs k h3 with h4 | h4
      · exact .inl (List.mem_append_right _ h4)
      · exact .inr h4
  · rcases hs k hc with h4 | h4
    · exact h.n2 k hk h4
    · have := h.lt k hk; omega
def keepE (es : List Ent) (ks : List (List Int)) : List Ent := es.filter (fun e => decide (e.1 ∈ ks))
theorem keepE_keys (es : List Ent) (ks : List (List Int)) : (keepE es ks).map (·.1) = keptD (es.map (·.1)) ks := by
  unfold keepE keptD
  rw [List.filter_map]
  rfl
theorem keepE_recs {es : List Ent} (h : (es.map (·.1)).Nodup) (ks : List (List Int)) : (keptD (es.map (·.1)) ks).map (recOf es) = (keepE es ks).map packE := by
  rw [← keepE_keys, List.map_map]
  refine List.map_congr_left fun e he => ?_
  obtain ⟨j, hj⟩ := List.mem_iff_getElem?.1 (List.mem_filter.1 he).1
  simp only [Function.comp, recOf, packE, valOf_some h hj rfl, Option.getD_some]
theorem BeginPost.ok {E F : List Nat} {d sz : Nat} {seen dur : List Int} {pend : List Wr} {left : Int} {gen : Nat} {zss : List (List Int)} {w : World} {ab : Nat} {w' : World} (h : BeginPost E F d sz seen dur pend left gen zss w (.returned (.tuple #[.pointer (some ⟨ab, 0, none⟩), .int .i64 0])) w') :
    gen ≤ 4294967295 ∧ cntK zss zss.length ≤ sz / 2 - 1 ∧ ∃ f, FreshAt seen (sz / 2) f ∧ doneN left (cntK zss zss.length) = cntK zss zss.length ∧ leftK left (cntK zss zss.length) ≠ 0 ∧ ∃ A' F', Ar w' A' (E ++ F') ab d f (sz / 2) gen (1 + cntK zss zss.length) false zss ∧
      Dk w' F' d sz (putB (putsK seen (f + 1) (rowsK gen 1 zss zss.length) (cntK zss zss.length)) f (headL gen (cntK zss zss.length))) (applyK (applyK dur (pend ++ wrsAt (f + 1) (rowsK gen 1 zss zss.length) (cntK zss zss.length)) (pend ++ wrsAt (f + 1) (rowsK gen 1 zss zss.length) (cntK zss zss.length)).length) [(f, headL gen (cntK zss zss.length))] 1) [] (leftK left (cntK zss zss.length + 1)) ∧ Step F w (A' ++ F') w' := by
  rcases h with ⟨_, h, _⟩ | ⟨h1, h2, f, h3, ⟨_, h, _⟩ | ⟨_, _, h, _⟩ | ⟨h4, h5, ab', h, A', F', h6, h7, h8⟩⟩
  · cases h
  · cases h
  · cases h
  · obtain rfl : ab = ab' := by cases h; rfl
    exact ⟨h1, h2, f, h3, h4, h5, A', F', h6, h7, h8⟩
/-- Just the entries of some keys are left. -/
theorem Vm.kept {w1 w2 w4 : World} {G : List Nat} {vb d : Nat} {ap : Option Addr} {kv kv' : Value} {mb : Nat} {es : List Ent} {ks : List (List Int)} (h : Vm w1 (kv'.ownBlock.toList ++ G) vb d ap kv mb es) (ho : OwnD w1 0 kv' (keptD (es.map (·.1)) ks)) (hvb : ∀ g, kv'.ownBlock = some g → g ≠ vb) (hG : ∀ g, kv'.ownBlock = some g → g ∉ G)
    (hu : Upd vb w1 w2) (hb2 : Blk w2 vb 73 (vcells d ap kv' mb)) {vs : List Value} (hvs : Mp w1 mb (es.map (·.1)) vs) (hve : ∀ (i : Nat) (v : Value) (e : Ent), vs[i]? = some v → es[i]? = some e → BytesOff (vfoot vb mb kv ++ (kv'.ownBlock.toList ++ G)) w1 v e.2 ∧ NilOk v) {e : Ending} (hmd : MdPost mb ks (es.map (·.1)) vs w2 e w4) :
    Vm w4 G vb d ap kv' mb (keepE es ks) ∧ Step [vb, mb] w1 [vb, mb] w4 := by
  obtain ⟨-, vs', m4, hR, u4⟩ := hmd
  have vmb : vb ≠ mb := hvs.notcells h.hb
  have kmb : ∀ g, kv'.ownBlock = some g → g ≠ mb := hvs.notrow ho
  have sA : Step [vb, mb] w1 [vb, mb] w4 := (Step.of_upd hu (by simp)).trans (Step.of_upd u4 (by simp))
  have sB : Step (vfoot vb mb kv ++ (kv'.ownBlock.toList ++ G)) w1 (vfoot vb mb kv ++ (kv'.ownBlock.toList ++ G)) w4 := (Step.of_upd hu (by simp [vfoot])).trans (Step.of_upd u4 (by simp [vfoot]))
  refine ⟨⟨u4.blk hb2 vmb, ?_, ⟨vs', by rw [keepE_keys]; exact m4, fun i v e hv he => ?_⟩, hvb, fun k hk hc => ?_, fun e he => h.sh e (List.mem_filter.1 he).1⟩, sA⟩
  · have o2 := own_upd (own_upd ho hu hvb) u4 kmb
    have e1 : (keepE es ks).length = (keptD (es.map (·.1)) ks).length := by rw [← keepE_keys, List.length_map]
    have e2 : keysF (keepE es ks) = (keptD (es.map (·.1)) ks).flatten := by unfold keysF; rw [keepE_keys]
    rw [e1, e2]
    exact o2
  · have hin : e ∈ es := (List.mem_filter.1 (List.mem_of_getElem? he)).1
    have hkk : (keptD (es.map (·.1)) ks)[i]? = some e.1 := by rw [← keepE_keys, List.getElem?_map, he]; rfl
    have := hR (fun k v => ∀ e ∈ es, e.1 = k → BytesOff (vfoot vb mb kv ++ (kv'.ownBlock.toList ++ G)) w1 v e.2 ∧ NilOk v) (fun j k v hk hv e' he' ek => by
      obtain ⟨j', hj'⟩ := List.mem_iff_getElem?.1 he'
      have : j' = j := nodup_at h.nodup (x := k) (by rw [List.getElem?_map, hj']; simp [ek]) hk
      subst this
      exact hve j' v e' hv hj') i e.1 v hkk hv e hin rfl
    refine ⟨(this.1.step sB).sub (fun k hk => ?_), this.2⟩
    rcases List.mem_append.1 hk with h1 | h1
    · simp only [vfoot, List.mem_cons] at h1
      rcases h1 with rfl | rfl | h1
      · simp [vfoot]
      · simp [vfoot]
      · exact List.mem_append_right _ (List.mem_append_left _ h1)
    · exact List.mem_append_right _ (List.mem_append_right _ h1)
  · simp only [vfoot, List.mem_cons, Option.mem_toList] at hk
    rcases hk with rfl | rfl | hk
    · exact h.n2 _ (by simp [vfoot]) (List.mem_append_right _ hc)
    · exact h.n2 _ (by simp [vfoot]) (List.mem_append_right _ hc)
    · exact hG k hk hc
def VkPost (A F : List Nat) (vb d sz : Nat) (kv : Value) (mb : Nat) (es : List Ent) (ks : List (List Int)) (seen dur : List Int) (pend : List Wr) (left : Int) (gen : Nat) (zss : List (List Int)) (w : World) (e : Ending) (w' : World) : Prop :=
  (e = .returned (.int .i64 15) ∧ ∃ E w0, Below w.heap.size w w0 ∧ BeginPost E F d sz seen dur pend left gen zss w0 nil15 w') ∨
  (e = .returned (.int .i64 0) ∧ gen ≤ 4294967295 ∧ cntK zss zss.length ≤ sz / 2 - 1 ∧ ∃ (f ab : Nat) (A' F' : List Nat) (kv' : Value), FreshAt seen (sz / 2) f ∧ doneN left (cntK zss zss.length) = cntK zss zss.length ∧ leftK left (cntK zss zss.length) ≠ 0 ∧
    Vm w' (A' ++ F') vb d (some ⟨ab, 0, none⟩) kv' mb (keepE es ks) ∧ Ar w' A' (vfoot vb mb kv' ++ F') ab d f (sz / 2) gen (1 + cntK zss zss.length) false zss ∧
    Dk w' F' d sz (putB (putsK seen (f + 1) (rowsK gen 1 zss zss.length) (cntK zss zss.length)) f (headL gen (cntK zss zss.length))) (applyK (applyK dur (pend ++ wrsAt (f + 1) (rowsK gen 1 zss zss.length) (cntK zss zss.length)) (pend ++ wrsAt (f + 1) (rowsK gen 1 zss zss.length) (cntK zss zss.length)).length) [(f, headL gen (cntK zss zss.length))] 1) [] (leftK left (cntK zss zss.length + 1)) ∧
    Step (vfoot vb mb kv ++ (A ++ F)) w (vfoot vb mb kv' ++ (A' ++ F')) w')
theorem own_base' {w : World} {base base' n s : Nat} {t : TypeId} {v : Value} {xs : List Value} (h : w.ownsRow base t s v n xs) (hb : base' ≤ base) : w.ownsRow base' t s v n xs := by
  refine ⟨h.1, ?_⟩
  rcases h.2 with h1 | ⟨g, cap, cur, e, h2, h3⟩
  · exact .inl h1
  · exact .inr ⟨g, cap, cur, e, Nat.le_trans hb h2, h3⟩
set_option maxHeartbeats 8000000 in
theorem vkeep_walk (A F : List Nat) (vb d sz : Nat) (seen dur : List Int) (pend : List Wr) (left : Int) (ap : Option Addr) (kv : Value) (mb : Nat) (es : List Ent) (u : Value) (ks : List (List Int)) (w : World) (h : Vm w (A ++ F) vb d ap kv mb es) (hd : Dk w F d sz seen dur pend left) (hu : DsIn w u ks) (hg : ∀ k ∈ ks, goodK k) (hkl : ks.length ≤ 1000000) (hes : es.length ≤ 5000)
    (h4 : 4 ≤ sz) (hby : isBytes seen) (hK : KW w) (hKF : 4 ∉ F) (hlm : left ≤ 9223372036854775807) (hpm : pend.length ≤ 400000) :
    Calls Tryd.prog 12 #[.pointer (some ⟨vb, 0, none⟩), u] w (VkPost A F vb d sz kv mb es ks seen dur pend left ((highK seen sz).toNat + 1) ((keepE es ks).map packE) w) := by
  have HV := Lib.hid h
  have HD := Lib.hid hd
  have HU := Lib.hid hu
  have HG := Lib.hid hg
  have HBY := Lib.hid hby
  have HK := Lib.hid hK
  have HKF := Lib.hid hKF
  have HES := Lib.hid hes
  have HVF : Hid (vb ∉ F) := fun hc => h.n2 vb (by simp [vfoot]) (List.mem_append_right _ hc)
  have VBL : Hid (vb < w.heap.size) := h.hb.lt
  have MBL : Hid (mb < w.heap.size) := h.mlt
  have FB : Hid (∀ k ∈ F, k < w.heap.size) := hd.lt
  have GE : Hid (∀ k ∈ es.map (·.1), goodK k) := fun k hk => by
    obtain ⟨e, he, rfl⟩ := List.mem_map.1 hk
    exact h.good e he
  have RE : Hid ((keptD (es.map (·.1)) ks).map (recOf es) = (keepE es ks).map packE) := keepE_recs h.nodup ks
  have KL : Hid ((keptD (es.map (·.1)) ks).length ≤ 5000) := by unfold Hid; have h1 := List.length_filter_le (fun d => decide (d ∈ ks)) (es.map (·.1)); rw [List.length_map] at h1; unfold keptD; omega
  obtain ⟨ua, uc, eu, -, -⟩ := id hu
  obtain ⟨nk, hnk⟩ : ∃ n, Hid (ks.length = n) := ⟨_, rfl⟩
  rw [hnk.out] at eu
  subst eu
  obtain ⟨zss, hzss⟩ : ∃ zss, Hid ((keepE es ks).map packE = zss) := ⟨_, rfl⟩
  rw [hzss.out] at RE ⊢
  clear h hd hu hg hby hK hKF hes
  go_enter Tryd.func12, Tryd.ntmps12
  go_upto_region 1 with (fail)
  refine lin_begin (opsOf Tryd.f12 1) (by kernel_rfl) ?_
  refine lin_now 0 (.slice ua nk uc) (some 7) (by kernel_rfl) (by kernel_rfl) (by kernel_rfl) ?_
  refine lin_call 1 42 #[.slice ua nk uc] (some 8) _ (by kernel_rfl) (by kernel_rfl) (by kernel_rfl) (noneof_walk _ ks _ HU.out HG.out hkl) ?_
  rintro e w1 ⟨sb, qm, rfl, hs1, hb1, hsb, hqm⟩
  have S1 := Lib.hid hs1
  have B1 := Lib.hid hb1
  have SBN : Hid (w.heap.size ≤ sb) := hsb
  have QMN : Hid (w.heap.size ≤ qm) := hqm
  clear hs1 hb1 hsb hqm
  refine ⟨_, rfl, ?_⟩
  obtain ⟨gb, hgb⟩ : ∃ q, Hid (w1.heap.size = q) := ⟨_, rfl⟩
  have b2 : Blk (w1.alloc (.cells Value.nilFunc.cells 81)) w1.heap.size 81 [.nilFunc] := Blk.new _ _ _
  have be2 : Below w1.heap.size w1 (w1.alloc (.cells Value.nilFunc.cells 81)) := (Below.refl _ _).alloc (Nat.le_refl _) _
  have S2 : Hid ((w1.alloc (.cells Value.nilFunc.cells 81)).heap.size = gb + 1) := by unfold Hid; simp [hgb.out]
  obtain ⟨w2, hw2⟩ : ∃ w2, Hid (w1.alloc (.cells Value.nilFunc.cells 81) = w2) := ⟨_, rfl⟩
  rw [hw2.out] at b2 be2 S2
  rw [hgb.out] at b2 be2
  refine lin_value 2 (.pointer (some ⟨gb, 0, none⟩)) (some 5) w2 (by kernel_rfl) (by kernel_rfl) (by rw [← hw2.out, ← hgb.out]; exact exec_alloc 81 (by kernel_rfl) .nilFunc (by kernel_rfl)) ?_
  have b3 : Blk (w2.setCell ⟨gb, 0, none⟩ (predV sb)) gb 81 [predV sb] := b2.set 0 _
  have u3 : Upd gb w2 (w2.setCell ⟨gb, 0, none⟩ (predV sb)) := (Upd.refl gb w2).setCell 0 _
  refine lin_store 3 (w2.setCell ⟨gb, 0, none⟩ (predV sb)) (by kernel_rfl) (by kernel_rfl) (exec_store_cell 81 (.tmp 5) (.tmp 8) (by kernel_rfl) gb 0 _ (by kernel_rfl) (by kernel_rfl) _ _ b2 (by simp) (by kernel_rfl) rfl rfl) ?_
  refine lin_done 4 (by kernel_rfl) ?_
  generalize w2.setCell ⟨gb, 0, none⟩ (predV sb) = w3 at b3 u3 ⊢
  have G3 := Lib.hid b3
  have B13 : Hid (Below w1.heap.size w1 w3) := u3.below (by rw [hgb.out]; exact be2) (by rw [hgb.out]; exact Nat.le_refl _) (by rw [S2.out, hgb.out]; omega)
  have B3 : Hid (Below w.heap.size w w3) := B1.out.trans (B13.out.mono B1.out.size)
  have S3 : Hid (SetAt w3 sb qm ks) := S1.out.below B13.out
  have GBN : Hid (w.heap.size ≤ gb) := by unfold Hid; rw [← hgb.out]; exact B1.out.size
  clear b2 be2 S2 b3 u3 hw2 S1
  generalize hact : Act.put _ none undef = act
  simp only [Act.put, List.setIfInBounds_toArray, List.set_cons_succ, List.set_cons_zero] at hact
  subst hact
  go_upto_region 2 with (fail)
  refine region_begin (opsOf Tryd.f12 2) (fun w => w.cell? ⟨vb, 2, none⟩ = some kv ∧ Blk w gb 81 [predV sb]) (by kernel_rfl) (by kernel_rfl) 8 (by kernel_rfl) ?_
  intro Q' hQN hN
  have BX : Hid (Below w.heap.size w w3.drew) := B3.out.drew
  have X : w3.drew.cell? ⟨vb, 2, none⟩ = some kv ∧ Blk w3.drew gb 81 [predV sb] := ⟨(HV.out.below BX.out).c2, G3.out.drew⟩
  have S4 : Hid (SetAt w3.drew sb qm ks) := S3.out.below (Below.refl w3.heap.size w3).drew
  generalize w3.drew = w4 at BX X S4 ⊢
  refine reg_now 0 (.pointer (some ⟨vb, 0, none⟩)) (some 9) hQN X (by kernel_rfl) (by kernel_rfl) (fun w => by kernel_rfl) ?_
  refine reg_now 1 (.pointer (some ⟨vb, 0, none⟩)) (some 10) hQN X (by kernel_rfl) (by kernel_rfl) (fun w => by kernel_rfl) ?_
  refine reg_now 2 (.pointer (some ⟨vb, 2, none⟩)) (some 11) hQN X (by kernel_rfl) (by kernel_rfl) (fun w => by kernel_rfl) ?_
  refine reg_nowIf 3 (kv) (some 12) hQN X (by kernel_rfl) (by kernel_rfl) (fun w hw => exec_load_cell 33 (.tmp 11) (by kernel_rfl) vb 2 (by kernel_rfl) _ hw.1 _ Tryd.underlying33 rfl) ?_
  refine reg_nowIf 5 (predV sb) (some 14) hQN X (by kernel_rfl) (by kernel_rfl) (fun w hw => exec_load_cell 81 (.tmp 5) (by kernel_rfl) gb 0 (by kernel_rfl) _ (hw.2.cell rfl) _ Tryd.underlying81 rfl) ?_
  have V4 := HV.out.below BX.out
  refine reg_call 4 44 #[kv] (some 13) _ (by kernel_rfl) (by kernel_rfl) (by kernel_rfl) (dclone_walk kv (es.map (·.1)) _ V4.own.in V4.own.nilok (fun k hk => (GE.out k hk).1) (by rw [List.length_map]; have := HES.out; omega)) ?_
  rintro e w5 ⟨cv, rfl, ho5, hb5⟩
  have X5 : w5.cell? ⟨vb, 2, none⟩ = some kv ∧ Blk w5 gb 81 [predV sb] := ⟨(HV.out.below (BX.out.trans (hb5.mono BX.out.size))).c2, X.2.below hb5 X.2.lt⟩
  refine ⟨_, rfl, X5, ?_⟩
  refine reg_call 6 43 #[cv, predV sb] (some 15) _ (by kernel_rfl) (by kernel_rfl) (by kernel_rfl) (ddel_walk (base := w4.heap.size) cv (es.map (·.1)) (S4.out.below hb5) ho5 hb5.size GE.out (by rw [List.length_map]; have := HES.out; omega)) ?_
  rintro e w6 ⟨kv', rfl, ho6, hb6⟩
  have B46 : Below w4.heap.size w4 w6 := hb5.trans hb6
  have X6 : w6.cell? ⟨vb, 2, none⟩ = some kv ∧ Blk w6 gb 81 [predV sb] := ⟨(HV.out.below (BX.out.trans (B46.mono BX.out.size))).c2, X.2.below B46 X.2.lt⟩
  refine ⟨_, rfl, X6, ?_⟩
  refine reg_now 7 (kv') (some 6) hQN X6 (by kernel_rfl) (by kernel_rfl) (fun w => by kernel_rfl) ?_
  refine reg_done (by kernel_rfl) (hN _ _ ?_)
  have B6 : Hid (Below w.heap.size w w6) := BX.out.trans (B46.mono BX.out.size)
  have O6 : Hid (OwnD w6 0 kv' (keptD (es.map (·.1)) ks)) := own_base' ho6 (Nat.zero_le _)
  have OL6 : Hid (∀ g, kv'.ownBlock = some g → w.heap.size ≤ g ∧ g < w6.heap.size) := fun g hg => ⟨Nat.le_trans BX.out.size (ho6.lt g hg).1, (ho6.lt g hg).2⟩
  have S6 : Hid (SetAt w6 sb qm ks) := S4.out.below B46
  have G6 := Lib.hid X6.2
  obtain ⟨ka, kc, ekv⟩ := row_slice ho6
  obtain ⟨nn, hnn⟩ : ∃ n, Hid ((keptD (es.map (·.1)) ks).length = n) := ⟨_, rfl⟩
  rw [hnn.out] at ekv
  subst ekv
  clear ho5 hb5 ho6 hb6 X5 X6 X V4 B46 hQN hN S4 BX B3 S3 G3 B1 B13
  generalize hact : Act.put _ (some 6) _ = act
  simp only [Act.put, List.setIfInBounds_toArray, List.set_cons_succ, List.set_cons_zero] at hact
  subst hact
  have V6 := Lib.hid (HV.out.below B6.out)
  have D6 : Hid (Dk w6 F d sz seen dur pend left) := HD.out.below B6.out
  have EL : Hid (∀ k ∈ vfoot vb mb (.slice ka nn kc), k < w6.heap.size) := fun k hk => by
    simp only [vfoot, List.mem_cons, Option.mem_toList] at hk
    rcases hk with rfl | rfl | hk
    · exact Nat.lt_of_lt_of_le VBL.out B6.out.size
    · exact Nat.lt_of_lt_of_le MBL.out B6.out.size
    · exact (OL6.out k hk).2
  go_upto_region 3 with (fail)
  refine lin_begin (opsOf Tryd.f12 3) (by kernel_rfl) ?_
  refine lin_now 0 (.pointer (some ⟨vb, 0, none⟩)) (some 16) (by kernel_rfl) (by kernel_rfl) (by kernel_rfl) ?_
  refine lin_now 1 (.slice ka nn kc) (some 17) (by kernel_rfl) (by kernel_rfl) (by kernel_rfl) ?_
  refine lin_call 2 36 #[.pointer (some ⟨vb, 0, none⟩), .slice ka nn kc] (some 18) _ (by kernel_rfl) (by kernel_rfl) (by kernel_rfl) (vbegin_walk (vfoot vb mb (.slice ka nn kc)) F (A ++ F) vb d sz seen dur pend left ap kv mb es _ (keptD (es.map (·.1)) ks) _ V6.out HVF.out D6.out O6.out.in (fun k hk => GE.out k (List.mem_filter.1 hk).1) KL.out EL.out h4 HBY.out (HK.out.below B6.out HK.out.lt) HKF.out hlm hpm) ?_
  rintro e w7 ⟨w0, hb0, ⟨rfl, hp⟩ | ⟨rfl, ab, w1', hp, rfl⟩⟩
  · rw [RE.out] at hp
    have P7 := Lib.hid hp
    have B0 : Hid (Below w.heap.size w w0) := B6.out.trans (hb0.mono B6.out.size)
    clear hp hb0
    refine ⟨_, rfl, ?_⟩
    refine lin_now 3 (.bool true) (some 19) (by kernel_rfl) (by kernel_rfl) (by kernel_rfl) ?_
    refine lin_done 4 (by kernel_rfl) ?_
    generalize hact : Act.put _ (some 19) _ = act
    simp only [Act.put, List.setIfInBounds_toArray, List.set_cons_succ, List.set_cons_zero] at hact
    subst hact
    go_wp2
    go_ret
    exact .inl ⟨rfl, _, w0, B0.out, P7.out⟩
  · rw [RE.out] at hp
    obtain ⟨hgen, hcnt, f, hfr, hdn, hlf, A', F', har, hdk, hst⟩ := hp.ok
    clear hp
    refine ⟨_, rfl, ?_⟩
    refine lin_now 3 (.bool false) (some 19) (by kernel_rfl) (by kernel_rfl) (by kernel_rfl) ?_
    refine lin_done 4 (by kernel_rfl) ?_
    have OF : ∀ g, (Value.slice ka nn kc).ownBlock = some g → g ∉ F := fun g hg hc => by have := (OL6.out g hg).1; have := FB.out g hc; omega
    have OV : ∀ g, (Value.slice ka nn kc).ownBlock = some g → g ≠ vb := fun g hg e => by have := (OL6.out g hg).1; have := VBL.out; omega
    have OG : ∀ g, (Value.slice ka nn kc).ownBlock = some g → g ∉ A' ++ F' := fun g hg => hst.off (Nat.lt_of_lt_of_le (OL6.out g hg).2 hb0.size) (OF g hg)
    have V0 : Vm w0 ((Value.slice ka nn kc).ownBlock.toList ++ F) vb d ap kv mb es := (HV.out.more (fun k hk => by
      rcases List.mem_append.1 hk with h | h
      · exact .inr (OL6.out k (by simpa using h)).1
      · exact .inl (List.mem_append_right _ h))).below (B6.out.trans (hb0.mono B6.out.size))
    have V1 : Vm w1' ((Value.slice ka nn kc).ownBlock.toList ++ (A' ++ F')) vb d ap kv mb es := V0.step hst.left
    have V1s := Lib.hid (V1.setArea (some ⟨ab, 0, none⟩))
    have O1 : OwnD w1' 0 (.slice ka nn kc) (keptD (es.map (·.1)) ks) := own_step (O6.out.below hb0) hst OF
    have us : Upd vb w1' (w1'.setCell ⟨vb, 1, none⟩ (.pointer (some ⟨ab, 0, none⟩))) := (Upd.refl vb w1').setCell 1 _
    have O1s : Hid (OwnD (w1'.setCell ⟨vb, 1, none⟩ (.pointer (some ⟨ab, 0, none⟩))) 0 (.slice ka nn kc) (keptD (es.map (·.1)) ks)) := own_upd O1 us OV
    have S1s : Hid (SetAt (w1'.setCell ⟨vb, 1, none⟩ (.pointer (some ⟨ab, 0, none⟩))) sb qm ks) := ((S6.out.below hb0).step hst (fun hc => by have := FB.out sb hc; have := SBN.out; omega) (fun hc => by have := FB.out qm hc; have := QMN.out; omega)).step (F := [vb]) (F' := [vb]) (Step.of_upd us (by simp)) (by have := VBL.out; have := SBN.out; simp; omega) (by have := VBL.out; have := QMN.out; simp; omega)
    have G1s : Hid (Blk (w1'.setCell ⟨vb, 1, none⟩ (.pointer (some ⟨ab, 0, none⟩))) gb 81 [predV sb]) := us.blk (hst.blk (G6.out.below hb0 G6.out.lt) (fun hc => by have := FB.out gb hc; have := GBN.out; omega)) (by have := VBL.out; have := GBN.out; omega)
    have A1s : Hid (Ar (w1'.setCell ⟨vb, 1, none⟩ (.pointer (some ⟨ab, 0, none⟩))) A' (vfoot vb mb (.slice ka nn kc) ++ F') ab d f (sz / 2) ((highK seen sz).toNat + 1) (1 + cntK zss zss.length) false zss) := har.disk (Step.of_upd us (by simp [vfoot]))
    have nF : vb ∉ A' ++ F' := fun hc => V1.n2 vb (by simp [vfoot]) (List.mem_append_right _ hc)
    have D1s := Lib.hid (hdk.step (G := [vb]) (G' := [vb]) (Step.of_upd us (by simp)) (fun x hx hc => by
      obtain rfl : x = vb := by simpa using hc
      exact nF (List.mem_append_right _ hx)))
    have ST1 : Hid (Step (vfoot vb mb kv ++ (A ++ F)) w (vfoot vb mb (.slice ka nn kc) ++ (A' ++ F')) (w1'.setCell ⟨vb, 1, none⟩ (.pointer (some ⟨ab, 0, none⟩)))) := by
      have b0 := B6.out.trans (hb0.mono B6.out.size)
      refine ⟨us.os.trans (hst.os.trans b0.os), us.tape.trans (hst.tape.trans b0.tape), us.output.trans (hst.output.trans b0.output), Nat.le_trans b0.size (Nat.le_trans hst.size us.size), fun k hk hkF => ?_, fun k hk => ?_⟩
      · have n1 : k ≠ vb := fun e => hkF (by simp [vfoot, e])
        have n2 : k ∉ F := fun hc => hkF (List.mem_append_right _ (List.mem_append_right _ hc))
        have l0 : k < w0.heap.size := Nat.lt_of_lt_of_le hk b0.size
        rw [us.block k (Nat.lt_of_lt_of_le l0 hst.size) n1, hst.block k l0 n2, b0.block k hk]
      · rcases List.mem_append.1 hk with h | h
        · simp only [vfoot, List.mem_cons, Option.mem_toList] at h
          rcases h with rfl | rfl | h
          · exact .inl (by simp [vfoot])
          · exact .inl (by simp [vfoot])
          · exact .inr (OL6.out k h).1
        · rcases hst.fresh k h with h2 | h2
          · exact .inl (List.mem_append_right _ (List.mem_append_right _ h2))
          · exact .inr (Nat.le_trans b0.size h2)
    have OV' := Lib.hid OV
    have OG' := Lib.hid OG
    have NF := Lib.hid nF
    have HFR := Lib.hid hfr
    have HDN := Lib.hid hdn
    have HLF := Lib.hid hlf
    have HGEN := Lib.hid hgen
    have HCNT := Lib.hid hcnt
    clear V0 V1 O1 us har hdk hst OF OV OG nF hb0 hfr hdn hlf hgen hcnt
    generalize w1'.setCell ⟨vb, 1, none⟩ (.pointer (some ⟨ab, 0, none⟩)) = w8 at V1s O1s S1s G1s A1s D1s ST1 ⊢
    generalize hact : Act.put _ (some 19) _ = act
    simp only [Act.put, List.setIfInBounds_toArray, List.set_cons_succ, List.set_cons_zero] at hact
    subst hact
    have VB8 := Lib.hid V1s.out.hb
    go_upto_region 5 with (fail)
    refine lin_begin (opsOf Tryd.f12 5) (by kernel_rfl) ?_
    refine lin_now 0 (.pointer (some ⟨vb, 0, none⟩)) (some 20) (by kernel_rfl) (by kernel_rfl) (by kernel_rfl) ?_
    refine lin_now 1 (.slice ka nn kc) (some 21) (by kernel_rfl) (by kernel_rfl) (by kernel_rfl) ?_
    refine lin_now 2 (.pointer (some ⟨vb, 0, none⟩)) (some 22) (by kernel_rfl) (by kernel_rfl) (by kernel_rfl) ?_
    refine lin_now 3 (.pointer (some ⟨vb, 2, none⟩)) (some 23) (by kernel_rfl) (by kernel_rfl) (by kernel_rfl) ?_
    have b9 : Blk (w8.setCell ⟨vb, 2, none⟩ (.slice ka nn kc)) vb 73 (vcells d (some ⟨ab, 0, none⟩) (.slice ka nn kc) mb) := VB8.out.set 2 _
    have u9 : Upd vb w8 (w8.setCell ⟨vb, 2, none⟩ (.slice ka nn kc)) := (Upd.refl vb w8).setCell 2 _
    refine lin_store 4 (w8.setCell ⟨vb, 2, none⟩ (.slice ka nn kc)) (by kernel_rfl) (by kernel_rfl) (exec_store_cell 33 (.tmp 23) (.tmp 21) (by kernel_rfl) vb 2 _ (by kernel_rfl) (by kernel_rfl) _ _ VB8.out (by simp [vcells]) (by kernel_rfl) rfl rfl) ?_
    refine lin_done 5 (by kernel_rfl) ?_
    generalize w8.setCell ⟨vb, 2, none⟩ (.slice ka nn kc) = w9 at b9 u9 ⊢
    have B9 := Lib.hid b9
    have U9 := Lib.hid u9
    clear b9 u9
    generalize hact : Act.put _ none undef = act
    simp only [Act.put, List.setIfInBounds_toArray, List.set_cons_succ, List.set_cons_zero] at hact
    subst hact
    obtain ⟨vs, hvs, hve⟩ := V1s.out.hm
    have HVS := Lib.hid hvs
    have HVE := Lib.hid hve
    have M9 : Hid (Mp w9 mb (es.map (·.1)) vs) := hvs.same (U9.out.block mb hvs.lt (Ne.symm (hvs.notcells V1s.out.hb)))
    have S9 : Hid (SetAt w9 sb qm ks) := S1s.out.step (F := [vb]) (F' := [vb]) (Step.of_upd U9.out (by simp)) (by have := VBL.out; have := SBN.out; simp; omega) (by have := VBL.out; have := QMN.out; simp; omega)
    have G9 : Hid (Blk w9 gb 81 [predV sb]) := U9.out.blk G1s.out (by have := VBL.out; have := GBN.out; omega)
    have QM : qm ≠ mb := by have := MBL.out; have := QMN.out; omega
    have c3 := B9.out.cell (j := 3) rfl
    clear hvs hve
    go_upto_region 6 with (fail)
    refine lin_begin (opsOf Tryd.f12 6) (by kernel_rfl) ?_
    refine lin_now 0 (.pointer (some ⟨vb, 0, none⟩)) (some 24) (by kernel_rfl) (by kernel_rfl) (by kernel_rfl) ?_
    refine lin_now 1 (.pointer (some ⟨vb, 0, none⟩)) (some 25) (by kernel_rfl) (by kernel_rfl) (by kernel_rfl) ?_
    refine lin_now 2 (.pointer (some ⟨vb, 3, none⟩)) (some 26) (by kernel_rfl) (by kernel_rfl) (by kernel_rfl) ?_
    refine lin_now 3 (.map (some mb)) (some 27) (by kernel_rfl) (by kernel_rfl) (exec_load_cell 71 (.tmp 26) (by kernel_rfl) vb 3 (by kernel_rfl) _ c3 _ Tryd.underlying71 rfl) ?_
    refine lin_now 4 (keepV gb) (some 28) (by kernel_rfl) (by kernel_rfl) (by kernel_rfl) ?_
    refine lin_call 5 45 #[.map (some mb), keepV gb] (some 29) _ (by kernel_rfl) (by kernel_rfl) (by kernel_rfl) (mapdel_walk M9.out S9.out G9.out QM) ?_
    intro e w10 hmd
    obtain rfl : e = .returned (.tuple #[]) := hmd.1
    obtain ⟨hvm, hst2⟩ := Vm.kept V1s.out O1s.out OV'.out OG'.out U9.out B9.out HVS.out HVE.out hmd
    have VF := Lib.hid hvm
    have S3 : Step (vfoot vb mb (.slice ka nn kc)) w8 (vfoot vb mb (.slice ka nn kc)) w10 := ⟨hst2.os, hst2.tape, hst2.output, hst2.size, fun k hk hkF => hst2.block k hk (fun hc => hkF (by simp at hc; rcases hc with rfl | rfl <;> simp [vfoot])), fun k hk => .inl hk⟩
    have AF := Lib.hid (A1s.out.disk S3.right)
    have DF := Lib.hid (D1s.out.step S3 (fun x hx hc => hvm.n2 x hc (List.mem_append_right _ hx)))
    have SF := Lib.hid (ST1.out.trans S3.right)
    clear hmd hvm hst2 S3 c3
    refine ⟨_, rfl, ?_⟩
    refine lin_done 6 (by kernel_rfl) ?_
    generalize hact : Act.put _ (some 29) _ = act
    simp only [Act.put, List.setIfInBounds_toArray, List.set_cons_succ, List.set_cons_zero] at hact
    subst hact
    go_wp2
    go_ret
    exact .inr ⟨rfl, HGEN.out, HCNT.out, f, ab, A', F', _, HFR.out, HDN.out, HLF.out, VF.out, AF.out, DF.out, SF.out⟩
end Go.Proofs.YtngpmilojfbpmaaDoor
/- Package vault: what holds behind every call: a vault, its area and its disk; Put, Keep, Flush, a crash, Open. -/
namespace Go.Proofs.YtngpmilojfbpmaaDoor
open Go Go.RowKit
set_option maxRecDepth 100000

/-- How many sectors entries need. -/
def cntE (es : List Ent) : Nat := cntK (es.map packE) es.length
theorem cntE_len (es : List Ent) : cntK (es.map packE) (es.map packE).length = cntE es := by rw [List.length_map]; rfl
theorem packE_len {e : Ent} (h : goodK e.1) : (packE e).length = 32 + e.2.length := by unfold packE; rw [List.length_append, h.1]
theorem cntK_ge' (all : List (List Int)) : ∀ k, k ≤ cntK all k
  | 0 => Nat.le_refl _
  | k + 1 => by have := cntK_ge' all k; have := needN_pos (rowAt all k).length; rw [cntK]; omega
theorem cnt_snoc (zss : List (List Int)) (zs : List Int) : cntK (zss ++ [zs]) (zss.length + 1) = cntK zss zss.length + needN zs.length := by
  rw [cntK, cntK_app _ _ _ (Nat.le_refl _)]
  congr 2
  unfold rowAt
  simp
theorem cntE_snoc (es : List Ent) (k zs : List Int) (hk : k.length = 32) : cntE (es ++ [(k, zs)]) = cntE es + needN (32 + zs.length) := by
  unfold cntE
  rw [List.map_append, List.length_append]
  have := cnt_snoc (es.map packE) (packE (k, zs))
  rw [List.length_map] at this
  show cntK (es.map packE ++ [packE (k, zs)]) (es.length + 1) = _
  rw [this]
  unfold packE
  rw [List.length_append, hk]
theorem cntE_filter (p : Ent → Bool) : ∀ es : List Ent, cntE (es.filter p) ≤ cntE es := fun es => by
  have hs : ∀ l : List Ent, cntE l = (l.map (fun e => needN (packE e).length)).sum := fun l => by
    have : ∀ n, ∀ l : List Ent, l.length = n → cntE l = (l.map (fun e => needN (packE e).length)).sum := by
      intro n
      induction n with
      | zero => intro l hl; rw [List.eq_nil_of_length_eq_zero hl]; rfl
      | succ n ih =>
        intro l hl
        obtain ⟨l', e, rfl⟩ : ∃ l' e, l = l' ++ [e] := ⟨l.dropLast, l.getLast (fun h => by rw [h] at hl; simp at hl), (List.dropLast_concat_getLast _).symm⟩
        have hl' : l'.length = n := by simp at hl; omega
        have := cnt_snoc (l'.map packE) (packE e)
        rw [List.length_map] at this
        rw [List.map_append, List.sum_append, ← ih l' hl']
        unfold cntE
        rw [List.map_append, List.length_append]
        show cntK (l'.map packE ++ [packE e]) (l'.length + 1) = _
        rw [this]
        simp
    exact this _ l rfl
  rw [hs, hs]
  induction es with
  | nil => exact Nat.le_refl _
  | cons e es ih =>
    rw [List.filter_cons]
    split
    · simp only [List.map_cons, List.sum_cons]; omega
    · simp only [List.map_cons, List.sum_cons]; omega
/-- A vault, its area and its disk. -/
structure Vx (B : Nat) (w0 w : World) (d sz vb c P : Nat) (A F : List Nat) (ap : Option Addr) (kv : Value) (mb : Nat) (es : List Ent) (first g : Nat) (seen dur : List Int) (pend : List Wr) (left : Int) (all : List (List Int)) (tp m0 sure : Nat) : Prop where
  vm : Vm w (A ++ F) vb d ap kv mb es
  ar : ∀ ab : Nat, ap = some ⟨ab, 0, none⟩ → Ar w A (vfoot vb mb kv ++ F) ab d first (sz / 2) g (1 + cntE es) false (es.map packE)
  aw : ap = none ∨ ∃ ab : Nat, ap = some ⟨ab, 0, none⟩
  al : ∀ k ∈ A, k < w.heap.size
  st : ap ≠ none → all = es.map packE
  tk : all.take es.length = es.map packE
  dk : Dk w F d sz seen dur pend left
  iv : Inv sz first g seen dur pend all es.length tp m0 sure c
  lf : left ≤ 9223372036854775807
  pl : pend.length ≤ P
  ge : ∀ k ∈ vfoot vb mb kv ++ (A ++ F), B ≤ k
  be : Below B w0 w
  s0 : B ≤ w0.heap.size
/-- .. whose blocks are T. -/
def VS (B : Nat) (w0 : World) (d sz vb c P : Nat) (es : List Ent) (sure : Nat) (s : Bool) (left : Int) (T : List Nat) (w : World) : Prop :=
  ∃ A F ap kv mb first g seen dur pend all tp m0, T = vfoot vb mb kv ++ (A ++ F) ∧ ap.isSome = s ∧ Vx B w0 w d sz vb c P A F ap kv mb es first g seen dur pend left all tp m0 sure
section
variable {B : Nat} {w0 w w' : World} {d sz vb c P : Nat} {A F : List Nat} {ap : Option Addr} {kv : Value} {mb : Nat} {es : List Ent} {first g : Nat} {seen dur : List Int} {pend : List Wr} {left : Int} {all : List (List Int)} {tp m0 sure : Nat}
theorem Vx.sb (h : Vx B w0 w d sz vb c P A F ap kv mb es first g seen dur pend left all tp m0 sure) : B ≤ w.heap.size := Nat.le_trans h.s0 h.be.size
theorem Vx.lt (h : Vx B w0 w d sz vb c P A F ap kv mb es first g seen dur pend left all tp m0 sure) : ∀ k ∈ vfoot vb mb kv ++ (A ++ F), k < w.heap.size := fun k hk => by
  rcases List.mem_append.1 hk with h1 | h1
  · exact h.vm.lt k h1
  · rcases List.mem_append.1 h1 with h2 | h2
    · exact h.al k h2
    · exact h.dk.lt k h2
theorem Vx.below (h : Vx B w0 w d sz vb c P A F ap kv mb es first g seen dur pend left all tp m0 sure) (hb : Below w.heap.size w w') : Vx B w0 w' d sz vb c P A F ap kv mb es first g seen dur pend left all tp m0 sure :=
  ⟨h.vm.below hb, fun ab e => (h.ar ab e).below hb, h.aw, fun k hk => Nat.lt_of_lt_of_le (h.al k hk) hb.size, h.st, h.tk, h.dk.below hb, h.iv, h.lf, h.pl, h.ge, h.be.trans (hb.mono h.sb), h.s0⟩
theorem Vx.kw (h : Vx B w0 w d sz vb c P A F ap kv mb es first g seen dur pend left all tp m0 sure) (hK : KW w0) (hKB : 4 < B) : KW w ∧ 4 ∉ F :=
  ⟨hK.below h.be hKB, fun hc => by have := h.ge _ (List.mem_append_right _ (List.mem_append_right _ hc)); omega⟩
theorem Vx.cnt (h : Vx B w0 w d sz vb c P A F ap kv mb es first g seen dur pend left all tp m0 sure) : cntK all es.length = cntE es := by
  rw [← cntK_take all (K := es.length) es.length (Nat.le_refl _), h.tk]
  rfl
theorem Vx.fits (h : Vx B w0 w d sz vb c P A F ap kv mb es first g seen dur pend left all tp m0 sure) : 1 + cntE es ≤ sz / 2 ∧ es.length ≤ cntE es := by
  have h1 := h.cnt
  have h2 := h.iv.t1
  have h3 := h.iv.th
  have h4 := cntK_ge' all es.length
  omega
theorem Vx.vs (h : Vx B w0 w d sz vb c P A F ap kv mb es first g seen dur pend left all tp m0 sure) : VS B w0 d sz vb c P es sure ap.isSome left (vfoot vb mb kv ++ (A ++ F)) w := ⟨A, F, ap, kv, mb, first, g, seen, dur, pend, all, tp, m0, rfl, rfl, h⟩
theorem Vx.more (h : Vx B w0 w d sz vb c P A F ap kv mb es first g seen dur pend left all tp m0 sure) {c' P' : Nat} (hc : c ≤ c') (hc2 : c' ≤ 255) (hP : P ≤ P') : Vx B w0 w d sz vb c' P' A F ap kv mb es first g seen dur pend left all tp m0 sure :=
  { h with iv := { h.iv with toBase := h.iv.toBase.mono hc hc2, gc := Nat.le_trans h.iv.gc hc }, pl := Nat.le_trans h.pl hP }
theorem Vx.frame (h : Vx B w0 w d sz vb c P A F ap kv mb es first g seen dur pend left all tp m0 sure) {T' : List Nat} (hs : Step (vfoot vb mb kv ++ (A ++ F)) w T' w') : (∀ k ∈ T', B ≤ k) ∧ Below B w0 w' := ⟨hs.ge h.ge h.sb, hs.blow h.ge h.sb h.be⟩
end
theorem VS.below {B : Nat} {w0 w w' : World} {d sz vb c P : Nat} {es : List Ent} {sure : Nat} {s : Bool} {left : Int} {T : List Nat} (h : VS B w0 d sz vb c P es sure s left T w) (hb : Below w.heap.size w w') : VS B w0 d sz vb c P es sure s left T w' := by
  obtain ⟨A, F, ap, kv, mb, first, g, seen, dur, pend, all, tp, m0, hT, hs, hx⟩ := h
  exact ⟨A, F, ap, kv, mb, first, g, seen, dur, pend, all, tp, m0, hT, hs, hx.below hb⟩
theorem VS.more {B : Nat} {w0 w : World} {d sz vb c P : Nat} {es : List Ent} {sure : Nat} {s : Bool} {left : Int} {T : List Nat} (h : VS B w0 d sz vb c P es sure s left T w) {c' P' : Nat} (hc : c ≤ c') (hc2 : c' ≤ 255) (hP : P ≤ P') : VS B w0 d sz vb c' P' es sure s left T w := by
  obtain ⟨A, F, ap, kv, mb, first, g, seen, dur, pend, all, tp, m0, hT, hs, hx⟩ := h
  exact ⟨A, F, ap, kv, mb, first, g, seen, dur, pend, all, tp, m0, hT, hs, hx.more hc hc2 hP⟩
theorem VS.lt {B : Nat} {w0 w : World} {d sz vb c P : Nat} {es : List Ent} {sure : Nat} {s : Bool} {left : Int} {T : List Nat} (h : VS B w0 d sz vb c P es sure s left T w) : ∀ k ∈ T, k < w.heap.size := by
  obtain ⟨A, F, ap, kv, mb, first, g, seen, dur, pend, all, tp, m0, rfl, hs, hx⟩ := h
  exact hx.lt
theorem leftK_max {left : Int} {n : Nat} (h : left ≤ 9223372036854775807) : leftK left n ≤ 9223372036854775807 := by unfold leftK; split <;> omega
/-- What Put comes to. -/
def PutOut (B : Nat) (w0 : World) (d sz vb c P : Nat) (es : List Ent) (sure : Nat) (s : Bool) (left : Int) (T : List Nat) (k zs : List Int) (w : World) (e : Ending) (w' : World) : Prop :=
  ∃ (n : Int) (T' : List Nat), e = .returned (.int .i64 n) ∧ Step T w T' w' ∧
    ((1000 < zs.length ∧ n = 10 ∧ VS B w0 d sz vb c P es sure s left T' w') ∨
    (zs.length ≤ 1000 ∧ ((∃ old, valOf es k = some old ∧ n = (if decide (old = zs) then 0 else 13) ∧ VS B w0 d sz vb c P es sure s left T' w') ∨
      (valOf es k = none ∧ ((s = false ∧ n = 15 ∧ VS B w0 d sz vb c P es sure false left T' w') ∨
        (s = true ∧ sz / 2 - (1 + cntE es) < needN (32 + zs.length) ∧ n = 15 ∧ VS B w0 d sz vb c P es sure true left T' w') ∨
        (s = true ∧ needN (32 + zs.length) ≤ sz / 2 - (1 + cntE es) ∧ doneN left (needN (32 + zs.length)) < needN (32 + zs.length) ∧ n = 15 ∧ ∃ left', VS B w0 d sz vb c (P + 4096) es sure false left' T' w') ∨
        (s = true ∧ needN (32 + zs.length) ≤ sz / 2 - (1 + cntE es) ∧ doneN left (needN (32 + zs.length)) = needN (32 + zs.length) ∧ n = 0 ∧ VS B w0 d sz vb c (P + 4096) (es ++ [(k, zs)]) sure true (leftK left (needN (32 + zs.length))) T' w'))))))
theorem vs_put {B : Nat} {w0 w : World} {d sz vb c P : Nat} {es : List Ent} {sure : Nat} {s : Bool} {left : Int} {T : List Nat} (h : VS B w0 d sz vb c P es sure s left T w) (hK : KW w0) (hKB : 4 < B) (hP : P ≤ 300000) {k zs : List Int} (u : Value) (hk : goodK k) (hu : BytesOff T w u zs) (hnl : NilOk u) (hzb : isBytes zs) :
    Calls Tryd.prog 11 #[.pointer (some ⟨vb, 0, none⟩), kval k, u] w (PutOut B w0 d sz vb c P es sure s left T k zs w) := by
  obtain ⟨A, F, ap, kv, mb, first, g, seen, dur, pend, all, tp, m0, rfl, rfl, hx⟩ := h
  have hfr := hx.fits
  have hbig := hx.iv.big
  have hg2 := hx.iv.g2
  have hc255 := hx.iv.c255
  have same : ∀ {w' : World}, Below w.heap.size w w' → Step (vfoot vb mb kv ++ (A ++ F)) w (vfoot vb mb kv ++ (A ++ F)) w' := fun hb => Step.of_below hb (Nat.le_refl _)
  obtain ⟨ua, uc, eu, -⟩ := id hu
  by_cases hz : 1000 < zs.length
  · rw [eu]
    refine (vput_long vb ua zs.length uc hk hz).mono ?_
    rintro e w' ⟨rfl, hb⟩
    exact ⟨10, _, rfl, same hb, .inl ⟨hz, rfl, (hx.below hb).vs⟩⟩
  · have hz' : zs.length ≤ 1000 := by omega
    cases hval : valOf es k with
    | some old =>
      refine (vput_there u hx.vm hk hu.in hz' hzb hval).mono ?_
      rintro e w' ⟨rfl, hb⟩
      exact ⟨_, _, rfl, same hb, .inr ⟨hz', .inl ⟨old, hval, rfl, (hx.below hb).vs⟩⟩⟩
    | none =>
      rcases hx.aw with rfl | ⟨ab, rfl⟩
      · rw [eu]
        refine (vput_unsound ua zs.length uc hx.vm hk hz' hval).mono ?_
        rintro e w' ⟨rfl, hb⟩
        exact ⟨15, _, rfl, same hb, .inr ⟨hz', .inr ⟨hval, .inl ⟨rfl, rfl, (hx.below hb).vs⟩⟩⟩⟩
      · have ha := hx.ar ab rfl
        have hkw := hx.kw hK hKB
        have hall := hx.st (by simp)
        have hh := hx.iv.half
        by_cases hfit : sz / 2 - (1 + cntE es) < needN (32 + zs.length)
        · refine (vput_full u hx.vm ha hk hu hnl hz' hval hkw.1 hx.iv.g1 (by omega) hfr.1 hbig (fun x hx' => hx.lt x (List.mem_append_right _ hx')) hfit).mono ?_
          rintro e w' ⟨rfl, hb⟩
          exact ⟨15, _, rfl, same hb, .inr ⟨hz', .inr ⟨hval, .inr (.inl ⟨rfl, hfit, rfl, (hx.below hb).vs⟩)⟩⟩⟩
        · have hfit' : needN (32 + zs.length) ≤ sz / 2 - (1 + cntE es) := by omega
          have hpl : pend.length ≤ 900000 := by have := hx.pl; omega
          have hrl : (k ++ zs).length = 32 + zs.length := by rw [List.length_append, hk.1]
          have hrb : isBytes (k ++ zs) := fun x hx' => by rcases List.mem_append.1 hx' with h | h; exact hk.2 x h; exact hzb x h
          have hlen : all.length = es.length := by rw [hall, List.length_map]
          have hcnt : cntK all all.length = cntE es := by rw [hlen]; exact hx.cnt
          have htp : tp = cntK all all.length := by
            have h1 := hx.iv.t1
            have h2 := hx.iv.tn
            rw [← hlen] at h1
            omega
          have hin := hx.iv
          rw [htp, ← hlen] at hin
          have hn40 : needN (32 + zs.length) ≤ 4096 := by omega
          by_cases hdn : doneN left (needN (32 + zs.length)) = needN (32 + zs.length)
          · refine (vput_ok u hx.vm ha hk hu hnl hz' hval hkw.1 hx.iv.g1 (by omega) hfr.1 hbig hx.dk hh hx.lf hpl hfit' hdn hzb (by omega)).mono ?_
            rintro e w' ⟨rfl, A', F', kv', hvm, har, hdk, hst⟩
            obtain ⟨f1, f2⟩ := hx.frame hst
            have hi2 := hin.add (rec := k ++ zs) (j := needN (k ++ zs).length) (nr' := all.length + 1) (by rw [hrl]; omega) hrb (Nat.le_refl _) (by rw [hrl, hcnt]; omega) (.inl ⟨rfl, rfl⟩)
            rw [hcnt, hrl, hlen] at hi2
            refine ⟨0, _, rfl, hst, .inr ⟨hz', .inr ⟨hval, .inr (.inr (.inr ⟨rfl, hfit', hdn, rfl, ⟨A', F', some ⟨ab, 0, none⟩, kv', mb, first, g, _, dur, _, all ++ [k ++ zs], _, m0, rfl, rfl, ⟨hvm, fun ab' e => ?_, .inr ⟨ab, rfl⟩, fun x hx' => har.lt x hx', fun _ => by rw [hall, List.map_append]; rfl, ?_, hdk, by rw [List.length_append]; exact hi2, leftK_max hx.lf, by rw [List.length_append, wrsAt_length]; have := hx.pl; omega, f1, f2, hx.s0⟩⟩⟩))⟩⟩⟩
            · obtain rfl : ab = ab' := by simpa using e
              rw [cntE_snoc es k zs hk.1, List.map_append, ← Nat.add_assoc]
              exact har
            · rw [List.take_of_length_le (by rw [List.length_append, List.length_append, hlen]; simp), hall, List.map_append]
              rfl
          · have hdl : doneN left (needN (32 + zs.length)) < needN (32 + zs.length) := by have := doneN_le left (needN (32 + zs.length)); omega
            refine (vput_stop u hx.vm ha hk hu hnl hz' hval hkw.1 hx.iv.g1 (by omega) hfr.1 hbig hx.dk hh hx.lf hpl hfit' hdl).mono ?_
            rintro e w' ⟨rfl, F', hvm, hdk, hst⟩
            obtain ⟨f1, f2⟩ := hx.frame hst
            have hi2 := hin.add (rec := k ++ zs) (j := doneN left (needN (k ++ zs).length)) (nr' := all.length) (by rw [hrl]; omega) hrb (doneN_le _ _) (by rw [hrl, hcnt]; omega) (.inr ⟨by rw [hrl]; exact hdl, rfl⟩)
            rw [hcnt, hrl, hlen] at hi2
            refine ⟨15, _, rfl, hst, .inr ⟨hz', .inr ⟨hval, .inr (.inr (.inl ⟨rfl, hfit', hdl, rfl, _, ⟨A, F', none, kv, mb, first, g, _, dur, _, all ++ [k ++ zs], _, m0, rfl, rfl, ⟨hvm, fun ab' e => (by cases e), .inl rfl, fun x hx' => Nat.lt_of_lt_of_le (hx.al x hx') hst.size, fun e => absurd rfl e, ?_, hdk, hi2, leftK_max hx.lf, by rw [List.length_append, wrsAt_length]; have := hx.pl; omega, f1, f2, hx.s0⟩⟩⟩))⟩⟩⟩
            rw [List.take_append_of_le_length (by omega)]
            exact hx.tk
end Go.Proofs.YtngpmilojfbpmaaDoor
/- Package vault: what holds behind Keep, Flush, Limit, Crash, Open. -/
namespace Go.Proofs.YtngpmilojfbpmaaDoor
open Go Go.RowKit
set_option maxRecDepth 100000

/-- What Keep comes to. -/
def KeepOut (B : Nat) (w0 : World) (d sz vb c P : Nat) (es : List Ent) (sure : Nat) (s : Bool) (left : Int) (T : List Nat) (ks : List (List Int)) (w : World) (e : Ending) (w' : World) : Prop :=
  ∃ (n : Int) (T' : List Nat), e = .returned (.int .i64 n) ∧ Step T w T' w' ∧
    ((n = 15 ∧ 0 ≤ left ∧ ∃ left', VS B w0 d sz vb (c + 1) (P + 4096) es sure s left' T' w') ∨
     (n = 0 ∧ VS B w0 d sz vb (c + 1) (P + 4096) (keepE es ks) (keepE es ks).length true (leftK left (cntE (keepE es ks) + 1)) T' w'))
theorem vs_keep {B : Nat} {w0 w : World} {d sz vb c P : Nat} {es : List Ent} {sure : Nat} {s : Bool} {left : Int} {T : List Nat} (h : VS B w0 d sz vb c P es sure s left T w) (hK : KW w0) (hKB : 4 < B) (hP : P ≤ 300000) (hc : c + 1 ≤ 255) (u : Value) (ks : List (List Int)) (hu : DsIn w u ks) (hg : ∀ k ∈ ks, goodK k) (hkl : ks.length ≤ 1000000) :
    Calls Tryd.prog 12 #[.pointer (some ⟨vb, 0, none⟩), u] w (KeepOut B w0 d sz vb c P es sure s left T ks w) := by
  obtain ⟨A, F, ap, kv, mb, first, g, seen, dur, pend, all, tp, m0, rfl, rfl, hx⟩ := h
  have hfr := hx.fits
  have hbig := hx.iv.big
  have hh4 := hx.iv.h4
  have hinv := hx.iv
  have hhigh := hinv.toBase.high
  have hkw := hx.kw hK hKB
  refine (vkeep_walk A F vb d sz seen dur pend left ap kv mb es u ks w hx.vm hx.dk hu hg hkl (by omega) hh4 hinv.bs hkw.1 hkw.2 hx.lf (by have := hx.pl; omega)).mono ?_
  intro e w' hp
  have hcnt : cntK ((keepE es ks).map packE) ((keepE es ks).map packE).length = cntE (keepE es ks) := cntE_len _
  have hcle : cntE (keepE es ks) ≤ cntE es := cntE_filter _ es
  have hgood : ∀ e ∈ keepE es ks, e ∈ es := fun e he => (List.mem_filter.1 he).1
  have zsh : ∀ zs ∈ (keepE es ks).map packE, zs.length ≤ 2000 := fun zs hz => by
    obtain ⟨e, he, rfl⟩ := List.mem_map.1 hz
    rw [packE_len (hx.vm.good e (hgood e he))]
    have := (hx.vm.sh e (hgood e he)).1
    omega
  have zby : ∀ zs ∈ (keepE es ks).map packE, isBytes zs := fun zs hz => by
    obtain ⟨e, he, rfl⟩ := List.mem_map.1 hz
    intro x hx'
    rcases List.mem_append.1 hx' with h | h
    · exact (hx.vm.good e (hgood e he)).2 x h
    · exact (hx.vm.sh e (hgood e he)).2 x h
  obtain ⟨zss, hzss⟩ : ∃ zss, (keepE es ks).map packE = zss := ⟨_, rfl⟩
  obtain ⟨Tn, hTn⟩ : ∃ Tn, cntE (keepE es ks) = Tn := ⟨_, rfl⟩
  obtain ⟨g', hg'⟩ : ∃ g', (highK seen sz).toNat + 1 = g' := ⟨_, rfl⟩
  have hzl : zss.length = (keepE es ks).length := by rw [← hzss, List.length_map]
  unfold VkPost BeginPost BegStop BegHead BegOk at hp
  rw [hcnt, hg', hzss] at hp
  rw [hzss, hTn] at hcnt
  rw [hzss] at zsh zby
  rw [hTn] at hcle hp
  have hgc : g' ≤ c + 1 := by omega
  have hRl : (rowsK g' 1 zss zss.length).length = 64 * Tn := by rw [rowsK_length, hcnt]
  have hRb := rowsK_bytes g' 1 zby zss.length
  have hRs : ∀ q, q < Tn → Small (c + 1) (getB (rowsK g' 1 zss zss.length) q) := fun q hq => rows_small hgc (by omega) (by omega)
  have ml : ∀ j, leftK left j ≤ 9223372036854775807 := fun j => leftK_max hx.lf
  rcases hp with ⟨rfl, E, wx, hb, hp⟩ | ⟨rfl, _, hfit, f, ab, A', F', kv', hfre, hdn, hlf, hvm, har, hdk, hst⟩
  · have stp : ∀ {F' : List Nat}, Step F wx F' w' → Step (A ++ F) w (A ++ F') w' := fun hs => (Step.of_below hb (Nat.le_refl _)).trans hs.left
    rcases hp with ⟨h1, _⟩ | ⟨_, _, f, hfre, ⟨h1, _, F', h3, h4⟩ | ⟨h1, h2, _, F', h4, h5⟩ | ⟨_, _, ab, h3, _⟩⟩
    · rcases h1 with h1 | h1 <;> omega
    · have hff := hinv.now.fresh hinv.hf (by omega) hfre
      rw [hff] at h3
      have h0 : 0 ≤ left := by
        unfold doneN at h1
        by_cases h0 : left < 0
        · rw [if_pos h0] at h1; omega
        · omega
      have sT : Step (vfoot vb mb kv ++ (A ++ F)) w (vfoot vb mb kv ++ (A ++ F')) w' := (stp h4).left
      obtain ⟨f1, f2⟩ := hx.frame sT
      have hin := hinv.other hRl (doneN_le left Tn) (by omega) hRb (fun q hq => hRs q (by have := doneN_le left Tn; omega)) hc
      exact ⟨15, _, rfl, sT, .inl ⟨rfl, h0, _, A, F', ap, kv, mb, first, g, _, dur, _, all, tp, m0, rfl, rfl, ⟨hx.vm.step (stp h4), fun ab e => ((hx.ar ab e).below hb).disk h4.left, hx.aw, fun x hx' => Nat.lt_of_lt_of_le (hx.al x hx') sT.size, hx.st, hx.tk, h3, hin, ml _, by rw [List.length_append, wrsAt_length]; have := hx.pl; have := doneN_le left Tn; omega, f1, f2, hx.s0⟩⟩⟩
    · have hff := hinv.now.fresh hinv.hf (by omega) hfre
      rw [hff] at h4
      have h0 : 0 ≤ left := by
        unfold leftK at h2
        by_cases h0 : left < 0
        · rw [if_pos h0] at h2; omega
        · omega
      have sT : Step (vfoot vb mb kv ++ (A ++ F)) w (vfoot vb mb kv ++ (A ++ F')) w' := (stp h5).left
      obtain ⟨f1, f2⟩ := hx.frame sT
      have hin := hinv.other hRl (Nat.le_refl Tn) (by omega) hRb hRs hc
      rw [← hin.eq] at h4
      exact ⟨15, _, rfl, sT, .inl ⟨rfl, h0, _, A, F', ap, kv, mb, first, g, _, _, [], all, tp, m0, rfl, rfl, ⟨hx.vm.step (stp h5), fun ab e => ((hx.ar ab e).below hb).disk h5.left, hx.aw, fun x hx' => Nat.lt_of_lt_of_le (hx.al x hx') sT.size, hx.st, hx.tk, h4, hin.flushed.sure' hinv.m0s hinv.sr, by omega, by simp, f1, f2, hx.s0⟩⟩⟩
    · cases h3
  · obtain ⟨f1, f2⟩ := hx.frame hst
    have hin := inv_begun hinv.toBase hc (fresh_at hfre) zsh zby hg' hcnt hfit
    obtain ⟨S1, hS1⟩ : ∃ s, putB (putsK seen (f + 1) (rowsK g' 1 zss zss.length) Tn) f (headL g' Tn) = s := ⟨_, rfl⟩
    obtain ⟨D1, hD1⟩ : ∃ s, applyK (applyK dur (pend ++ wrsAt (f + 1) (rowsK g' 1 zss zss.length) Tn) (pend ++ wrsAt (f + 1) (rowsK g' 1 zss zss.length) Tn).length) [(f, headL g' Tn)] 1 = s := ⟨_, rfl⟩
    rw [hS1, hD1] at hin hdk
    rw [hzl] at hin
    refine ⟨0, _, rfl, hst, .inr ⟨rfl, A', F', some ⟨ab, 0, none⟩, kv', mb, f, g', S1, D1, [], zss, Tn, (keepE es ks).length, rfl, rfl, ⟨hvm, fun ab' e => ?_, .inr ⟨ab, rfl⟩, fun x hx' => har.lt x hx', fun _ => hzss.symm, ?_, ?_, hin, ml _, by simp, f1, f2, hx.s0⟩⟩⟩
    · obtain rfl : ab = ab' := by simpa using e
      rw [hTn, hzss]
      exact har
    · rw [List.take_of_length_le (by omega)]; exact hzss.symm
    · rw [hTn]; exact hdk
/-- What Flush comes to. -/
theorem vs_flush {B : Nat} {w0 w : World} {d sz vb c P : Nat} {es : List Ent} {sure : Nat} {s : Bool} {left : Int} {T : List Nat} (h : VS B w0 d sz vb c P es sure s left T w) (hP : P ≤ 300000) :
    Calls Tryd.prog 25 #[.pointer (some ⟨vb, 0, none⟩)] w fun e w' => e = .returned (.int .i64 0) ∧ ∃ T', Step T w T' w' ∧ VS B w0 d sz vb c P es (if s then es.length else sure) s left T' w' := by
  obtain ⟨A, F, ap, kv, mb, first, g, seen, dur, pend, all, tp, m0, rfl, rfl, hx⟩ := h
  rcases hx.aw with rfl | ⟨ab, rfl⟩
  · refine (vflush_none hx.vm).mono ?_
    rintro e w' ⟨rfl, rfl⟩
    exact ⟨rfl, _, Step.refl _ _, hx.vs⟩
  · have ha := hx.ar ab rfl
    refine (vflush_some hx.vm ha hx.dk (by have := hx.pl; omega)).mono ?_
    rintro e w' ⟨rfl, F', hd, hs⟩
    have sT : Step (vfoot vb mb kv ++ (A ++ F)) w (vfoot vb mb kv ++ (A ++ F')) w' := (hs.left (A := A)).left
    obtain ⟨f1, f2⟩ := hx.frame sT
    rw [← hx.iv.eq] at hd
    exact ⟨rfl, _, sT, A, F', some ⟨ab, 0, none⟩, kv, mb, first, g, seen, seen, [], all, tp, m0, rfl, rfl, ⟨hx.vm.step hs.left, fun ab' e => (hx.ar ab' e).disk hs.left, hx.aw, fun x hx' => Nat.lt_of_lt_of_le (hx.al x hx') hs.size, hx.st, hx.tk, hd, hx.iv.flushed, hx.lf, by simp, f1, f2, hx.s0⟩⟩
/-- Entries as they may be. -/
structure GoodE (sz : Nat) (es : List Ent) : Prop where
  g : ∀ e ∈ es, goodK e.1 ∧ e.2.length ≤ 1000 ∧ isBytes e.2
  nd : (es.map (·.1)).Nodup
  fit : 1 + cntE es ≤ sz / 2
theorem cntE_take (es : List Ent) (K : Nat) (hK : K ≤ es.length) : cntE (es.take K) ≤ cntE es := by
  unfold cntE
  rw [List.map_take, List.length_take, cntK_take _ _ (by omega)]
  exact cntK_mono _ (by omega)
theorem GoodE.take {sz : Nat} {es : List Ent} (h : GoodE sz es) {K : Nat} (hK : K ≤ es.length) : GoodE sz (es.take K) := ⟨fun e he => h.g e (List.mem_of_mem_take he), by rw [List.map_take]; exact h.nd.sublist (List.take_sublist _ _), by have := h.fit; have := cntE_take es K hK; omega⟩
theorem Vx.good {B : Nat} {w0 w : World} {d sz vb c P : Nat} {A F : List Nat} {ap : Option Addr} {kv : Value} {mb : Nat} {es : List Ent} {first g : Nat} {seen dur : List Int} {pend : List Wr} {left : Int} {all : List (List Int)} {tp m0 sure : Nat} (h : Vx B w0 w d sz vb c P A F ap kv mb es first g seen dur pend left all tp m0 sure) : GoodE sz es :=
  ⟨fun e he => ⟨h.vm.good e he, h.vm.sh e he⟩, h.vm.nodup, h.fits.1⟩
theorem ents_pack {sz : Nat} {es : List Ent} (h : GoodE sz es) : ∀ k, k ≤ es.length → entsK (es.map packE) k = es.take k
  | 0, _ => by rw [List.take_zero]; rfl
  | k + 1, hk => by
    obtain ⟨e, he⟩ : ∃ e, es[k]? = some e := ⟨_, List.getElem?_eq_getElem (by omega)⟩
    have hr : rowAt (es.map packE) k = packE e := by
      unfold rowAt
      rw [List.getD_eq_getElem?_getD, List.getElem?_map, he]
      rfl
    have hm := List.mem_of_getElem? he
    obtain ⟨g1, g2, _⟩ := h.g e hm
    have e1 : (packE e).take 32 = e.1 := by unfold packE; rw [← g1.1, List.take_left]
    have e2 : (packE e).drop 32 = e.2 := by unfold packE; rw [← g1.1, List.drop_left]
    rw [entsK, ents_pack h k (by omega), hr]
    unfold addEnt
    have hnot : e.1 ∉ (es.take k).map (·.1) := fun hc => by
      obtain ⟨e', he', ek⟩ := List.mem_map.1 hc
      obtain ⟨j, hj⟩ := List.mem_iff_getElem?.1 he'
      rw [List.getElem?_take] at hj
      split at hj
      · have := nodup_at h.nd (x := e.1) (i := j) (j := k) (by rw [List.getElem?_map, hj]; simp [ek]) (by rw [List.getElem?_map, he]; rfl)
        omega
      · cases hj
    rw [e1, e2, packE_len g1, if_pos ⟨by omega, by omega, hnot⟩, List.take_add_one, he]
    rfl
/-- A disk whose current area has just these entries, all of which last; there are no limits. -/
structure Ds (B : Nat) (w0 : World) (d sz c : Nat) (es : List Ent) (F : List Nat) (w : World) : Prop where
  dk : ∃ D, Dk w F d sz D D [] (-1) ∧ Base sz D D [] c ∧ ∀ zss, OpAs D (sz / 2) zss → zss = es.map packE
  ge : ∀ k ∈ F, B ≤ k
  be : Below B w0 w
  s0 : B ≤ w0.heap.size
  gd : GoodE sz es
theorem Ds.below {B : Nat} {w0 : World} {d sz c : Nat} {es : List Ent} {F : List Nat} {w w' : World} (h : Ds B w0 d sz c es F w) (hb : Below w.heap.size w w') : Ds B w0 d sz c es F w' := by
  obtain ⟨D, h1, h2, h3⟩ := h.dk
  exact ⟨⟨D, h1.below hb, h2, h3⟩, h.ge, h.be.trans (hb.mono (Nat.le_trans h.s0 h.be.size)), h.s0, h.gd⟩
/-- What a crash comes to: the old vault is as it was in memory. -/
theorem vs_crash {B : Nat} {w0 w : World} {d sz vb c P : Nat} {es : List Ent} {sure : Nat} {s : Bool} {left : Int} {T : List Nat} (h : VS B w0 d sz vb c P es sure s left T w) (hP : P ≤ 300000) (u : Value) (picks : List Int) (hu : BytesOff T w u picks) (hpb : isBytes picks) (hpl : picks.length ≤ 1000000000) :
    Calls Tryd.prog 13 #[.pointer (some ⟨d, 0, none⟩), u] w fun e w' => (∃ n : Int, e = .returned (.int .i64 n)) ∧ ∃ K F F' A ap kv mb, sure ≤ K ∧ K ≤ es.length ∧ (∀ k ∈ F, k ∈ T) ∧ (∀ k ∈ vfoot vb mb kv ++ (A ++ F), k ∈ T) ∧ Step F w F' w' ∧ Vm w' (A ++ F') vb d ap kv mb es ∧ Ds B w0 d sz c (es.take K) F' w' := by
  obtain ⟨A, F, ap, kv, mb, first, g, seen, dur, pend, all, tp, m0, rfl, rfl, hx⟩ := h
  refine (crash_walk d sz F seen dur pend left u picks w hx.dk (by have := hx.pl; omega) (hu.sub (fun k hk => List.mem_append_right _ (List.mem_append_right _ hk))) hpb hpl).mono ?_
  rintro e w' ⟨rfl, F', hd, hs⟩
  have hinv := hx.iv
  have hh4 := hinv.h4
  have hsc := seen_crash hinv.ld hinv.ok hpb
  rw [← hinv.eq] at hsc
  rw [hsc] at hd
  obtain ⟨K, hK1, hK2, hop⟩ := hinv.crashed hpb
  have sT : Step (vfoot vb mb kv ++ (A ++ F)) w (vfoot vb mb kv ++ (A ++ F')) w' := (hs.left (A := A)).left
  obtain ⟨f1, f2⟩ := hx.frame sT
  refine ⟨⟨_, rfl⟩, K, F, F', A, ap, kv, mb, hK1, hK2, fun k hk => List.mem_append_right _ (List.mem_append_right _ hk), fun k hk => hk, hs, hx.vm.step hs.left, ⟨⟨_, hd, hinv.toBase.crash hpb, fun zss ho => ?_⟩, fun k hk => f1 k (List.mem_append_right _ (List.mem_append_right _ hk)), f2, hx.s0, hx.good.take hK2⟩⟩
  rw [hop.recs (by omega) ho, List.map_take, ← hx.tk, List.take_take, Nat.min_eq_left hK2]
/-- What Open comes to. -/
theorem vs_open {B : Nat} {w0 w : World} {d sz c : Nat} {es : List Ent} {F : List Nat} (P : Nat) (h : Ds B w0 d sz c es F w) (hK : KW w0) (hKB : 4 < B) (hc : c + 1 ≤ 255) :
    Calls Tryd.prog 10 #[.pointer (some ⟨d, 0, none⟩)] w fun e w' => ∃ vb T', e = .returned (.tuple #[.pointer (some ⟨vb, 0, none⟩), .int .i64 0]) ∧ Step F w T' w' ∧ VS B w0 d sz vb (c + 1) P es es.length true (-1) T' w' := by
  obtain ⟨⟨D, hd, hB, hop⟩, hge, hbe, hs0, hgd⟩ := h
  have hh4 := hB.h4
  have hhigh := hB.high
  refine (vopen_walk d sz F D D [] (-1) w hd hB.bs hh4 (hK.below hbe hKB) (fun hc => by have := hge _ hc; omega) (by omega) (by simp)).mono ?_
  rintro e w' ⟨vb, mb, kv, es2, zss, wv, b, rfl, ho, hes2, hvm, hbv, hft, hvb⟩
  have hzss := hop zss ho
  subst hzss
  have hes : es2 = es := by rw [hes2, List.length_map, ents_pack hgd _ (Nat.le_refl _), List.take_length]
  subst hes
  have hcnt : cntK (es2.map packE) (es2.map packE).length = cntE es2 := cntE_len _
  have hfit := hgd.fit
  obtain ⟨wx, hbx, hp⟩ := hvb
  rcases hp with ⟨h1, hp⟩ | ⟨h1, ab, w1, hp, rfl⟩
  · exfalso
    unfold BeginPost BegStop BegHead BegOk at hp
    rw [hcnt] at hp
    rcases hp with ⟨h1, _⟩ | ⟨_, _, f, _, ⟨h1, _⟩ | ⟨_, h2, _⟩ | ⟨_, _, ab, h3, _⟩⟩
    · rcases h1 with h1 | h1 <;> omega
    · rw [done_neg] at h1; omega
    · rw [left_neg] at h2; omega
    · cases h3
  · obtain ⟨_, hcf, f, hfre, hdn, hlf, A', F', har, hdk, hst⟩ := hp.ok
    obtain ⟨g', hg'⟩ : ∃ g', (highK D sz).toNat + 1 = g' := ⟨_, rfl⟩
    rw [hcnt] at hcf hdn hlf har hdk
    rw [hg'] at har hdk
    have hin := inv_begun hB hc (fresh_at hfre) (fun zs hz => by
      obtain ⟨e, he, rfl⟩ := List.mem_map.1 hz
      rw [packE_len (hgd.g e he).1]
      have := (hgd.g e he).2.1
      omega) (fun zs hz => by
      obtain ⟨e, he, rfl⟩ := List.mem_map.1 hz
      intro x hx'
      rcases List.mem_append.1 hx' with h | h
      · exact (hgd.g e he).1.2 x h
      · exact (hgd.g e he).2.2 x h) hg' hcnt hcf
    have b0 : Below w.heap.size w wx := hbv.trans (hbx.mono hbv.size)
    have us : Upd vb w1 (w1.setCell ⟨vb, 1, none⟩ (.pointer (some ⟨ab, 0, none⟩))) := (Upd.refl vb w1).setCell 1 _
    have V1 : Vm w1 (A' ++ F') vb d none kv mb es2 := (hvm.below hbx).step hst
    have V2 := V1.setArea (some ⟨ab, 0, none⟩)
    have nF : vb ∉ A' ++ F' := V1.n2 vb (by simp [vfoot])
    have vbw := hft vb (by simp [vfoot])
    have sT : Step F w (vfoot vb mb kv ++ (A' ++ F')) (w1.setCell ⟨vb, 1, none⟩ (.pointer (some ⟨ab, 0, none⟩))) := by
      refine ⟨us.os.trans (hst.os.trans b0.os), us.tape.trans (hst.tape.trans b0.tape), us.output.trans (hst.output.trans b0.output), Nat.le_trans b0.size (Nat.le_trans hst.size us.size), fun k hk hkF => ?_, fun k hk => ?_⟩
      · have l0 : k < wx.heap.size := Nat.lt_of_lt_of_le hk b0.size
        rw [us.block k (Nat.lt_of_lt_of_le l0 hst.size) (by omega), hst.block k l0 hkF, b0.block k hk]
      · rcases List.mem_append.1 hk with h | h
        · exact .inr (hft k h)
        · rcases hst.fresh k h with h2 | h2
          · exact .inl h2
          · exact .inr (Nat.le_trans b0.size h2)
    have hsw : B ≤ w.heap.size := Nat.le_trans hs0 hbe.size
    obtain ⟨S1, hS1⟩ : ∃ s, putB (putsK D (f + 1) (rowsK g' 1 (es2.map packE) (es2.map packE).length) (cntE es2)) f (headL g' (cntE es2)) = s := ⟨_, rfl⟩
    obtain ⟨D1, hD1⟩ : ∃ s, applyK (applyK D ([] ++ wrsAt (f + 1) (rowsK g' 1 (es2.map packE) (es2.map packE).length) (cntE es2)) ([] ++ wrsAt (f + 1) (rowsK g' 1 (es2.map packE) (es2.map packE).length) (cntE es2)).length) [(f, headL g' (cntE es2))] 1 = s := ⟨_, rfl⟩
    rw [hS1, hD1] at hin hdk
    rw [show leftK (-1) (cntE es2 + 1) = -1 from rfl] at hdk
    rw [List.length_map] at hin
    have hdk2 := hdk.step (G := [vb]) (G' := [vb]) (Step.of_upd us (by simp)) (fun x hx hc => by
      obtain rfl : x = vb := by simpa using hc
      exact nF (List.mem_append_right _ hx))
    refine ⟨vb, _, rfl, sT, A', F', some ⟨ab, 0, none⟩, kv, mb, f, g', S1, D1, [], es2.map packE, cntE es2, es2.length, rfl, rfl, ⟨V2, fun ab' e => ?_, .inr ⟨ab, rfl⟩, fun x hx' => Nat.lt_of_lt_of_le (har.lt x hx') us.size, fun _ => rfl, by rw [List.take_of_length_le (by rw [List.length_map]; exact Nat.le_refl _)], hdk2, hin, by omega, by simp, sT.ge hge hsw, sT.blow hge hsw hbe, hs0⟩⟩
    obtain rfl : ab = ab' := by simpa using e
    exact har.disk (Step.of_upd us (by simp [vfoot]))
/-- A new disk. -/
theorem ds_new {B : Nat} {w0 w : World} {d sz : Nat} {F : List Nat} (h : Dk w F d sz (zeros (64 * sz)) (zeros (64 * sz)) [] (-1)) (h4 : 4 ≤ sz) (hb : sz ≤ 4096) (hge : ∀ k ∈ F, B ≤ k) (hbe : Below B w0 w) (hs0 : B ≤ w0.heap.size) : Ds B w0 d sz 0 [] F w :=
  ⟨⟨_, h, base_new h4 hb, fun zss ho => by rw [ho.none (base_new h4 hb)]; rfl⟩, hge, hbe, hs0, ⟨fun e he => by simp at he, by simp, by show 1 + 0 ≤ sz / 2; omega⟩⟩
end Go.Proofs.YtngpmilojfbpmaaDoor
