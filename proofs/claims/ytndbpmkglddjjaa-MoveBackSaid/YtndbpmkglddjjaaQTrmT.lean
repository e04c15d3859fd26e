/- A term that came in as an argument of a law. -/
import Derived.Test.YtndbpmkglddjjaaQTrmO
import Derived.Test.YtndbpmkglddjjaaQTrmM
namespace Go.Proofs.Ytndbpmkglddjjaa
open Go.ChangeShapes Go.WideShapes Go.ChangeAt Go.RowKit
set_option maxRecDepth 100000
theorem cellsInt8 : Try.prog.cellsOf 3 = 1 := by kernel_rfl
theorem cellsArr8 : Try.prog.cellsOf 47 = 4 := by kernel_rfl
theorem cellsLv8 : Try.prog.cellsOf 49 = 5 := by kernel_rfl
theorem level_of_trodT {H : Type} {enc : TypeId × Value → H} {W : World} {base : Nat} {spare : Nat → Bool} {held : Bool} {fuel : Nat} {cs : List Value} {x : DataW H × List MemPlace} (h : DataW.trod enc Try.prog W base spare held fuel 49 cs = some x) :
    ∃ l : Lv, cs = ints .i64 l.zs ∧ l.p.length = 4 := by
  obtain ⟨y0, y1, n, -, hl, h0, h1⟩ := trod_struct2 Try.underlying49 h
  have h0' : DataW.trod enc Try.prog W base spare held n 3 ((cs.drop 0).take (Try.prog.cellsOf 3)) = some y0 := h0
  have h1' : DataW.trod enc Try.prog W base spare held n 47 ((cs.drop 1).take (Try.prog.cellsOf 47)) = some y1 := h1
  rw [cellsInt8] at h0'
  rw [cellsArr8] at h1'
  rw [cellsLv8] at hl
  obtain ⟨z, e0, -, -⟩ := DataW.trod_int Try.underlying3 h0'
  obtain ⟨zs, e1, e2, -⟩ := ints_of_array' Try.underlying47 Try.underlying3 cellsInt8 cellsArr8 h1'
  refine ⟨⟨z, zs⟩, ?_, e2⟩
  match cs, hl with
  | [c0, c1, c2, c3, c4], _ =>
    have a0 : [c0] = [Value.int .i64 z] := e0
    have a1 : [c1, c2, c3, c4] = ints .i64 zs := e1
    show c0 :: [c1, c2, c3, c4] = _
    rw [a1, (List.cons.inj a0).1]
    rfl
theorem termTy {H : Type} {enc : TypeId × Value → H} : TermTy H enc Try.prog 3 9 49 22 25 23 where
  fs := ⟨_, Try.underlying25, by kernel_rfl, by kernel_rfl⟩
  i := Try.underlying3
  s := Try.underlying9
  ls := Try.underlying22
  ts := Try.underlying23
  ci := by kernel_rfl
  cs := by kernel_rfl
  cls := by kernel_rfl
  cts := by kernel_rfl
  cl := by kernel_rfl
  ct := by kernel_rfl
  bl := by kernel_rfl
  bt := by kernel_rfl
  lv := fun _ _ _ _ h => level_of_trodT h
theorem open_term {H : Type} {enc : TypeId × Value → H} {W : World} {base : Nat} {v : Value} {d : DataW H} {p : List MemPlace} (hval : Value.okWide Try.prog W .any base 25 v)
    (h : DataW.Trod enc Try.prog W 0 (fun _ => true) true 25 v d p) (hsz : ∀ n ∈ d.weights Try.prog 25, n ≤ reachBytes) : (∃ (t : Tm) (cs : List Value), v = .agg cs.toArray ∧ TmAt [] W t cs ∧ SmT t) ∧ ∀ x ∈ p, x.block < W.heap.size := by
  obtain ⟨cs, rfl, -⟩ := okWide_struct Try.underlying25 hval
  obtain ⟨m, hm⟩ := h
  refine ⟨?_, DataW.trod_lt m _ _ _ hm⟩
  obtain ⟨t, h1, h2⟩ := term_of_trod termTy m _ _ hm hsz
  exact ⟨t, cs.toList, by simp, h1, h2⟩
theorem terms_of_trod {H : Type} {enc : TypeId × Value → H} {P : Program} {ti tstr tlv tlvs tt tts : TypeId} (T : TermTy H enc P ti tstr tlv tlvs tt tts) {W : World} (fuel : Nat) (av : Value) (x4 : DataW H × List MemPlace) (g4 : DataW.trod enc P W 0 (fun _ => true) true fuel tts [av] = some x4) (w4 : ∀ n ∈ x4.1.weights P tts, n ≤ reachBytes) :
    ∃ ts, TmsAt [] W ts av ∧ ts.length * 80 ≤ reachBytes ∧ SmTs ts := by
  rcases DataW.trod_slice T.ts g4 with ⟨e, -⟩ | ⟨a, len, cap, elems, rest, n', hn', e, hx4, -, hl, hm, hlen2, hel, -, -⟩
  · obtain rfl := (List.cons.inj e).1
    exact ⟨[], TmsAt.nil _ _ _ _, by simp, by simp [SmTs]⟩
  · obtain rfl := (List.cons.inj e).1
    have hwt : len * 80 ≤ reachBytes := by
      have hr : reachBytes = 140737488351232 := rfl
      have h0 := w4 ((elems.length + rest.length) * 80) (by rw [hx4]; simp [DataW.weights, T.ts, T.bt])
      have h1 : elems.length * 80 ≤ (elems.length + rest.length) * 80 := Nat.mul_le_mul_right _ (by omega)
      rw [hlen2] at h1
      rw [hlen2] at h0
      omega
    have hwe : ∀ i, i < len → ∀ n ∈ (elems.getD i (.nil, [])).1.weights P tt, n ≤ reachBytes := fun i hi n hn => by
      refine w4 n ?_
      rw [hx4]
      simp only [DataW.weights, T.ts, List.mem_cons, List.mem_append]
      exact Or.inr (Or.inl (weights_in (d := (elems.getD i (.nil, [])).1) (by rw [List.getD_eq_getElem?_getD, List.getElem?_eq_getElem (by omega)]; exact List.mem_map.2 ⟨_, List.getElem_mem _, rfl⟩) n hn))
    by_cases hp : 0 < len
    · have hrow := row_five (e := tt) (x := a) (len := len) (n := n') (D := fun i => elems.getD i (.nil, [])) T.ct (C := fun cs => ∃ t, TmAt [] W t cs ∧ SmT t) (fun i cs hi hy => by
        obtain ⟨t, ht, hs⟩ := term_of_trod T n' cs _ hy (hwe i hi)
        exact ⟨ht.len, t, ht, hs⟩) (fun i hi => by
        rw [hel i hi, List.getD_eq_getElem?_getD, List.getElem?_eq_getElem (by omega)]
        rfl) hp
      obtain ⟨hx, hb, hr⟩ := hrow
      have each : ∀ i, ∃ t : Tm, i < len → (∃ cs, W.rangeAt a.block (a.off + 5 * i) cs ∧ TmAt [] W t cs) ∧ SmT t := fun i => by
        by_cases hi : i < len
        · obtain ⟨cs, ⟨t, ht, hs⟩, hc⟩ := hr i hi
          exact ⟨t, fun _ => ⟨⟨cs, hc, ht⟩, hs⟩⟩
        · exact ⟨.mk 0 0 [] [] [], fun h => absurd h hi⟩
      refine ⟨(List.range len).map fun i => (each i).choose, ?_, by simpa using hwt, SmTs.of fun t ht => ?_⟩
      rotate_left
      · obtain ⟨i, hi, rfl⟩ := List.mem_map.1 ht
        exact ((each i).choose_spec (List.mem_range.1 hi)).2
      have hL : ((List.range len).map fun i => (each i).choose).length = len := by simp
      have := TmsAt.of (F := []) (w := W) (ts := (List.range len).map fun i => (each i).choose) (pb := a.block) (po := a.off) (c := cap) (by rw [hL]; exact hl) (by simp) hb (fun i t hi => by
        rw [List.getElem?_map, Option.map_eq_some_iff] at hi
        obtain ⟨r, hr1, rfl⟩ := hi
        obtain ⟨hj, rfl⟩ : i < len ∧ i = r := by simpa using (List.getElem?_eq_some_iff.1 hr1)
        exact ((each i).choose_spec hj).1)
      rw [hL, ← hx] at this
      exact this
    · obtain rfl : len = 0 := by omega
      exact ⟨[], TmsAt.nil _ _ _ _, by simp, by simp [SmTs]⟩
theorem open_terms {H : Type} {enc : TypeId × Value → H} {W : World} {base : Nat} {v : Value} {d : DataW H} {p : List MemPlace} (hval : Value.okWide Try.prog W .any base 23 v)
    (h : DataW.Trod enc Try.prog W 0 (fun _ => true) true 23 v d p) (hsz : ∀ n ∈ d.weights Try.prog 23, n ≤ reachBytes) : (∃ ts : List Tm, TmsAt [] W ts v ∧ SmTs ts ∧ ts.length * 80 ≤ reachBytes) ∧ ∀ x ∈ p, x.block < W.heap.size := by
  obtain ⟨a0, len0, cap0, rfl⟩ := okWide_slice Try.underlying23 hval
  obtain ⟨m, hm⟩ := h
  refine ⟨?_, DataW.trod_lt m _ _ _ hm⟩
  obtain ⟨ts, h1, h2, h3⟩ := terms_of_trod termTy m _ _ hm hsz
  exact ⟨ts, h1, h3, h2⟩
end Go.Proofs.Ytndbpmkglddjjaa
