/- A term that came in as an argument: it has no more nodes than its reading's bulk. -/
import Derived.Test.YtndbpmkglddjjaaQTrmT
import Derived.Test.YtndbpmkglddjjaaQTrmM
import Derived.Test.YtndbpmkglddjjaaRows
namespace Go.Proofs.Ytndbpmkglddjjaa
open Go.ChangeShapes Go.WideShapes Go.ChangeAt Go.RowKit Go.Deep
set_option maxRecDepth 100000
theorem bulk_one {H : Type} (d : DataW H) : 1 ≤ Rows.uptoBulk d := by
  cases d with
  | lit l => cases l <;> simp [Rows.uptoBulk]
  | _ => simp [Rows.uptoBulk]
theorem bulk_len {H : Type} : ∀ (l : List (DataW H)), l.length ≤ Rows.uptoBulkAll l
  | [] => Nat.zero_le _
  | x :: r => by
    have := bulk_one x
    have := bulk_len r
    simp only [Rows.uptoBulkAll, List.length_cons]
    omega
theorem bulk_sum {H : Type} {β : Type} {d : DataW H × β} : ∀ (f : Nat → Tm) (es : List (DataW H × β)), (∀ i, i < es.length → nodesT (f i) ≤ Rows.uptoBulk (es.getD i d).1) → nodesTs ((List.range es.length).map f) ≤ Rows.uptoBulkAll (es.map (·.1))
  | f, [], _ => by simp [nodesTs]
  | f, e :: es, h => by
    have h0 := h 0 (by simp)
    have h1 := bulk_sum (d := d) (fun i => f (i + 1)) es (fun i hi => by have := h (i + 1) (by simpa using hi); simpa using this)
    rw [List.length_cons, List.range_succ_eq_map, List.map_cons, List.map_map, nodesTs, List.map_cons, Rows.uptoBulkAll]
    have h2 : (List.range es.length).map (f ∘ Nat.succ) = (List.range es.length).map fun i => f (i + 1) := rfl
    rw [h2]
    simp only [List.getD_cons_zero] at h0
    omega
theorem bulk_five {H : Type} {β : Type} : ∀ (xs : List (DataW H × β)) (h : xs.length = 5), Rows.uptoBulk (xs[3]'(by omega)).1 + Rows.uptoBulk (xs[4]'(by omega)).1 ≤ Rows.uptoBulkAll (xs.map (·.1))
  | [y0, y1, y2, y3, y4], _ => by
    simp only [Rows.uptoBulkAll, List.map_cons, List.map_nil, List.getElem_cons_succ, List.getElem_cons_zero]
    omega
section
variable {H : Type} {enc : TypeId × Value → H} {P : Program} {ti tstr tlv tlvs tt tts : TypeId}
theorem row_fiveB {W : World} {e : TypeId} {x : Addr} {len n : Nat} {D : Nat → DataW H × List MemPlace} (ce : P.cellsOf e = 5) {C : Nat → List Value → Prop} (hC : ∀ i cs, i < len → DataW.trod enc P W 0 (fun _ => true) true n e cs = some (D i) → cs.length = 5 ∧ C i cs)
    (h : ∀ i, i < len → (W.cells? 0 (x.add (i * P.cellsOf e)) (P.cellsOf e)).bind (DataW.trod enc P W 0 (fun _ => true) true n e) = some (D i)) (hp : 0 < len) :
    x = ⟨x.block, x.off, none⟩ ∧ x.block < W.heap.size ∧ ∀ i, i < len → ∃ cs, C i cs ∧ W.rangeAt x.block (x.off + 5 * i) cs := by
  have each : ∀ i, i < len → ∃ cs, cs.length = 5 ∧ C i cs ∧ ∀ (j : Nat) (u : Value), cs[j]? = some u → W.cell? ((x.add (i * 5)).add j) = some u := fun i hi => by
    have h1 := h i hi
    rw [ce] at h1
    obtain ⟨cs, h2, h3⟩ := Option.bind_eq_some_iff.1 h1
    obtain ⟨h4, h5⟩ := hC i cs hi h3
    exact ⟨cs, h4, h5, cells_at h2 h4⟩
  obtain ⟨cs0, l0, -, r0⟩ := each 0 hp
  obtain ⟨u0, hu0⟩ : ∃ u, cs0[0]? = some u := ⟨_, List.getElem?_eq_getElem (by omega)⟩
  have hx : x = ⟨x.block, x.off, none⟩ := addr_plain (v := u0) (by have := r0 0 u0 hu0; rw [add_add] at this; simpa using this)
  have hb : x.block < W.heap.size := by
    have := r0 0 u0 hu0
    rw [add_add, hx, Addr.add_mid] at this
    exact block_lt_of_cell (a := ⟨x.block, x.off + (0 * 5 + 0), none⟩) this
  refine ⟨hx, hb, fun i hi => ?_⟩
  obtain ⟨cs, h1, h2, h3⟩ := each i hi
  refine ⟨cs, h2, fun j u hu => ?_⟩
  have := h3 j u hu
  rw [hx, Addr.add_mid, Addr.add_mid] at this
  rw [← this, Nat.mul_comm 5 i]
theorem termB_of_trod (T : TermTy H enc P ti tstr tlv tlvs tt tts) {W : World} : ∀ (fuel : Nat) (cs : List Value) (x : DataW H × List MemPlace), DataW.trod enc P W 0 (fun _ => true) true fuel tt cs = some x → (∀ n ∈ x.1.weights P tt, n ≤ reachBytes) → ∃ t, TmAt [] W t cs ∧ SmT t ∧ nodesT t ≤ Rows.uptoBulk x.1 := by
  intro fuel
  induction fuel using Nat.strongRecOn with
  | ind fuel ih =>
    intro cs x h hsz
    obtain ⟨fs, hu, hty, hof⟩ := T.fs
    obtain ⟨xs, n, hfu, hxe, hlen, hxl, hf⟩ := DataW.trod_struct hu h
    have field : ∀ i t o, (fs.toList.map (·.type))[i]? = some t → (fs.toList.map (·.offset))[i]? = some o → DataW.trod enc P W 0 (fun _ => true) true n t ((cs.drop o).take (P.cellsOf t)) = xs[i]? := fun i t o ht ho => by
      rw [List.getElem?_map, Option.map_eq_some_iff] at ht ho
      obtain ⟨f, hf1, rfl⟩ := ht
      obtain ⟨f', hf2, rfl⟩ := ho
      obtain rfl : f = f' := Option.some.inj (hf1.symm.trans hf2)
      exact hf i f (by simpa using hf1)
    have h5 : xs.length = 5 := by rw [hxl, ← Array.length_toList, ← List.length_map (f := fun f : Field => f.type), hty]; rfl
    rw [hty, hof] at field
    have g0 := field 0 ti 0 rfl rfl
    have g1 := field 1 ti 1 rfl rfl
    have g2 := field 2 tstr 2 rfl rfl
    have g3 := field 3 tlvs 3 rfl rfl
    have g4 := field 4 tts 4 rfl rfl
    have hws : ∀ (i : Nat) (t : TypeId) (y : DataW H × List MemPlace), [ti, ti, tstr, tlvs, tts][i]? = some t → xs[i]? = some y → ∀ n ∈ y.1.weights P t, n ≤ reachBytes := fun i t y ht hy n hn => by
      refine hsz n ?_
      rw [hxe]
      have hm : n ∈ DataW.weightsEach P [ti, ti, tstr, tlvs, tts] (xs.map (·.1)) := DataW.weights_mem_each (j := i) (t := t) (d := y.1) ht (by rw [List.getElem?_map, hy]; rfl) n hn
      simpa [DataW.weights, hu, hty] using hm
    have w2 := hws 2 tstr _ rfl (List.getElem?_eq_getElem (by omega))
    have w3 := hws 3 tlvs _ rfl (List.getElem?_eq_getElem (by omega))
    have w4 := hws 4 tts _ rfl (List.getElem?_eq_getElem (by omega))
    rw [List.getElem?_eq_getElem (by omega)] at g0 g1 g2 g3 g4
    rw [T.ci] at g0 g1
    rw [T.cs] at g2
    rw [T.cls] at g3
    rw [T.cts] at g4
    rw [T.ct] at hlen
    obtain ⟨k, e0, -, -⟩ := DataW.trod_int T.i g0
    obtain ⟨m, e1, -, -⟩ := DataW.trod_int T.i g1
    obtain ⟨s, e2, e2x, -⟩ := DataW.trod_string T.s g2
    have hs2 : s.data.toList.length ≤ reachBytes := w2 _ (by rw [e2x]; simp [DataW.weights])
    have one : ∀ o, o < 5 → ∃ pv, (cs.drop o).take 1 = [pv] := fun o ho => by
      have hl : ((cs.drop o).take 1).length = 1 := by rw [List.length_take, List.length_drop, hlen]; omega
      match (cs.drop o).take 1, hl with
      | [v], _ => exact ⟨v, rfl⟩
    obtain ⟨lv, e3⟩ := one 3 (by omega)
    obtain ⟨av, e4⟩ := one 4 (by omega)
    rw [e3] at g3
    rw [e4] at g4
    obtain ⟨ls, hls, hlw⟩ := levels_of_trod T g3 w3
    have hlb : ls.length ≤ Rows.uptoBulk (xs[3]'(by omega)).1 := by
      obtain ⟨a9, c9, hv9, -⟩ := hls
      rcases DataW.trod_slice T.ls g3 with ⟨e, -⟩ | ⟨a, len, cap, elems, rest, n', hn', e, hxe3, -, hl, hm, hlen2, hel, -, -⟩
      · have e1 := (List.cons.inj e).1
        rw [hv9] at e1
        injection e1 with _ e2 _
        rw [e2]
        exact Nat.zero_le _
      · have e1 := (List.cons.inj e).1
        rw [hv9] at e1
        injection e1 with _ e2 _
        rw [e2, hxe3, ← hlen2]
        simp only [Rows.uptoBulk]
        have := bulk_len (elems.map (·.1))
        rw [List.length_map] at this
        omega
    have hargs : ∃ ts, TmsAt [] W ts av ∧ ts.length * 80 ≤ reachBytes ∧ SmTs ts ∧ nodesTs ts ≤ Rows.uptoBulk (xs[4]'(by omega)).1 := by
      rcases DataW.trod_slice T.ts g4 with ⟨e, -⟩ | ⟨a, len, cap, elems, rest, n', hn', e, hxe4, -, hl, hm, hlen2, hel, -, -⟩
      · obtain rfl := (List.cons.inj e).1
        exact ⟨[], TmsAt.nil _ _ _ _, by simp, by simp [SmTs], by rw [nodesTs]; exact Nat.zero_le _⟩
      · obtain rfl := (List.cons.inj e).1
        have hwt : len * 80 ≤ reachBytes := by
          have hr : reachBytes = 140737488351232 := rfl
          have h0 := w4 ((elems.length + rest.length) * 80) (by rw [hxe4]; simp [DataW.weights, T.ts, T.bt])
          have h1 : elems.length * 80 ≤ (elems.length + rest.length) * 80 := Nat.mul_le_mul_right _ (by omega)
          rw [hlen2] at h1
          rw [hlen2] at h0
          omega
        have hwe : ∀ i, i < len → ∀ n ∈ (elems.getD i (.nil, [])).1.weights P tt, n ≤ reachBytes := fun i hi n hn => by
          refine w4 n ?_
          rw [hxe4]
          simp only [DataW.weights, T.ts, List.mem_cons, List.mem_append]
          exact Or.inr (Or.inl (weights_in (d := (elems.getD i (.nil, [])).1) (by rw [List.getD_eq_getElem?_getD, List.getElem?_eq_getElem (by omega)]; exact List.mem_map.2 ⟨_, List.getElem_mem _, rfl⟩) n hn))
        by_cases hp : 0 < len
        · have hrow := row_fiveB (e := tt) (x := a) (len := len) (n := n') (D := fun i => elems.getD i (.nil, [])) T.ct (C := fun i cs => ∃ t, TmAt [] W t cs ∧ SmT t ∧ nodesT t ≤ Rows.uptoBulk (elems.getD i (.nil, [])).1) (fun i cs hi hy => by
            obtain ⟨t, ht, hs, hb⟩ := ih n' (by omega) cs _ hy (hwe i hi)
            exact ⟨ht.len, t, ht, hs, hb⟩) (fun i hi => by
            rw [hel i hi, List.getD_eq_getElem?_getD, List.getElem?_eq_getElem (by omega)]
            rfl) hp
          obtain ⟨hx, hb, hr⟩ := hrow
          have each : ∀ i, ∃ t : Tm, i < len → (∃ cs, W.rangeAt a.block (a.off + 5 * i) cs ∧ TmAt [] W t cs) ∧ SmT t ∧ nodesT t ≤ Rows.uptoBulk (elems.getD i (.nil, [])).1 := fun i => by
            by_cases hi : i < len
            · obtain ⟨cs, ⟨t, ht, hs, hb⟩, hc⟩ := hr i hi
              exact ⟨t, fun _ => ⟨⟨cs, hc, ht⟩, hs, hb⟩⟩
            · exact ⟨.mk 0 0 [] [] [], fun h => absurd h hi⟩
          refine ⟨(List.range len).map fun i => (each i).choose, ?_, by simpa using hwt, SmTs.of fun t ht => ?_, ?_⟩
          rotate_left
          · obtain ⟨i, hi, rfl⟩ := List.mem_map.1 ht
            exact ((each i).choose_spec (List.mem_range.1 hi)).2.1
          · rw [hxe4]
            have := bulk_sum (fun i => (each i).choose) elems (fun i hi => ((each i).choose_spec (by omega)).2.2)
            rw [hlen2] at this
            simp only [Rows.uptoBulk]
            omega
          have hL : ((List.range len).map fun i => (each i).choose).length = len := by simp
          have := TmsAt.of (F := []) (w := W) (ts := (List.range len).map fun i => (each i).choose) (pb := a.block) (po := a.off) (c := cap) (by rw [hL]; exact hl) (by simp) hb (fun i t hi => by
            rw [List.getElem?_map, Option.map_eq_some_iff] at hi
            obtain ⟨r, hr1, rfl⟩ := hi
            obtain ⟨hj, rfl⟩ : i < len ∧ i = r := by simpa using (List.getElem?_eq_some_iff.1 hr1)
            exact ((each i).choose_spec hj).1)
          rw [hL, ← hx] at this
          exact this
        · obtain rfl : len = 0 := by omega
          exact ⟨[], TmsAt.nil _ _ _ _, by simp, by simp [SmTs], by rw [nodesTs]; exact Nat.zero_le _⟩
    obtain ⟨ts, hts, hta, htb, htn⟩ := hargs
    refine ⟨.mk k m s.data.toList ls ts, ?_, by rw [SmT]; exact ⟨hs2, hlw, hta, htb⟩, ?_⟩
    rotate_left
    · rw [hxe, nodesT]
      have h9 := bulk_five xs h5
      simp only [Rows.uptoBulk]
      omega
    rw [TmAt]
    exact ⟨lv, av, five_of hlen (seg_at e0) (seg_at e1) (seg_at e2) (seg_at e3) (seg_at e4), hls, hts⟩
end
theorem open_termB {H : Type} {enc : TypeId × Value → H} {W : World} {base : Nat} {v : Value} {d : DataW H} {p : List MemPlace} (hval : Value.okWide Try.prog W .any base 25 v)
    (h : DataW.Trod enc Try.prog W 0 (fun _ => true) true 25 v d p) (hsz : ∀ n ∈ d.weights Try.prog 25, n ≤ reachBytes) : (∃ (t : Tm) (cs : List Value), v = .agg cs.toArray ∧ TmAt [] W t cs ∧ SmT t ∧ nodesT t ≤ Rows.uptoBulk d) ∧ ∀ x ∈ p, x.block < W.heap.size := by
  obtain ⟨cs, rfl, -⟩ := okWide_struct Try.underlying25 hval
  obtain ⟨m, hm⟩ := h
  refine ⟨?_, DataW.trod_lt m _ _ _ hm⟩
  obtain ⟨t, h1, h2, h3⟩ := termB_of_trod termTy m _ _ hm hsz
  exact ⟨t, cs.toList, by simp, h1, h2, h3⟩
end Go.Proofs.Ytndbpmkglddjjaa
