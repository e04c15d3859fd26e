/- How a term that came in is opened: over any program, its types' numbers handed in. -/
import Derived.Test.YtndbpmkglddjjaaQTrmM
namespace Go.Proofs.Ytndbpmkglddjjaa
open Go.ChangeShapes Go.WideShapes Go.ChangeAt Go.RowKit Go.Deep
set_option maxRecDepth 100000
/-- The types that a term is made of: an int, a string, a level and a slice of them, a term and a slice of them. -/
structure TermTy (H : Type) (enc : TypeId × Value → H) (P : Program) (ti tstr tlv tlvs tt tts : TypeId) : Prop where
  fs : ∃ fs, P.underlying tt = some (.struct fs) ∧ fs.toList.map (·.type) = [ti, ti, tstr, tlvs, tts] ∧ fs.toList.map (·.offset) = [0, 1, 2, 3, 4]
  i : P.underlying ti = some (.int .i64)
  s : P.underlying tstr = some .string
  ls : P.underlying tlvs = some (.slice tlv)
  ts : P.underlying tts = some (.slice tt)
  ci : P.cellsOf ti = 1
  cs : P.cellsOf tstr = 1
  cls : P.cellsOf tlvs = 1
  cts : P.cellsOf tts = 1
  cl : P.cellsOf tlv = 5
  ct : P.cellsOf tt = 5
  bl : P.bytesOf tlv = 40
  bt : P.bytesOf tt = 80
  lv : ∀ (W : World) (fuel : Nat) (cs : List Value) (x : DataW H × List MemPlace), DataW.trod enc P W 0 (fun _ => true) true fuel tlv cs = some x → ∃ l : Lv, cs = ints .i64 l.zs ∧ l.p.length = 4
theorem seg_at {cs : List Value} {o : Nat} {v : Value} (h : (cs.drop o).take 1 = [v]) : cs[o]? = some v := by
  have h0 : ((cs.drop o).take 1)[0]? = some v := by rw [h]; rfl
  simpa [List.getElem?_take, List.getElem?_drop] using h0
theorem five_of {cs : List Value} (h : cs.length = 5) {a b c d e : Value} (h0 : cs[0]? = some a) (h1 : cs[1]? = some b) (h2 : cs[2]? = some c) (h3 : cs[3]? = some d) (h4 : cs[4]? = some e) : cs = [a, b, c, d, e] := by
  match cs, h with
  | [x0, x1, x2, x3, x4], _ =>
    simp at h0 h1 h2 h3 h4
    subst h0 h1 h2 h3 h4
    rfl
theorem cells_at {W : World} {a : Addr} {n : Nat} {cs : List Value} (h : W.cells? 0 a n = some cs) (hn : cs.length = n) : ∀ (j : Nat) (u : Value), cs[j]? = some u → W.cell? (a.add j) = some u := fun j u hu => by
  obtain ⟨_, _, hat⟩ := World.cells?_some h
  have hj := (List.getElem?_eq_some_iff.1 hu).1
  have h0 := hat j (by omega)
  rw [h0, hu]
section
variable {H : Type} {enc : TypeId × Value → H} {P : Program} {ti tstr tlv tlvs tt tts : TypeId}
/-- Elements of five cells each that came in, one behind the other. -/
theorem row_five {W : World} {e : TypeId} {x : Addr} {len n : Nat} {D : Nat → DataW H × List MemPlace} (ce : P.cellsOf e = 5) {C : List Value → Prop} (hC : ∀ i cs, i < len → DataW.trod enc P W 0 (fun _ => true) true n e cs = some (D i) → cs.length = 5 ∧ C cs)
    (h : ∀ i, i < len → (W.cells? 0 (x.add (i * P.cellsOf e)) (P.cellsOf e)).bind (DataW.trod enc P W 0 (fun _ => true) true n e) = some (D i)) (hp : 0 < len) :
    x = ⟨x.block, x.off, none⟩ ∧ x.block < W.heap.size ∧ ∀ i, i < len → ∃ cs, C cs ∧ W.rangeAt x.block (x.off + 5 * i) cs := by
  have each : ∀ i, i < len → ∃ cs, cs.length = 5 ∧ C cs ∧ ∀ (j : Nat) (u : Value), cs[j]? = some u → W.cell? ((x.add (i * 5)).add j) = some u := fun i hi => by
    have h1 := h i hi
    rw [ce] at h1
    obtain ⟨cs, h2, h3⟩ := Option.bind_eq_some_iff.1 h1
    obtain ⟨h4, h5⟩ := hC i cs hi h3
    exact ⟨cs, h4, h5, cells_at h2 h4⟩
  obtain ⟨cs0, l0, -, r0⟩ := each 0 hp
  obtain ⟨u0, hu0⟩ : ∃ u, cs0[0]? = some u := ⟨_, List.getElem?_eq_getElem (by omega)⟩
  have hx : x = ⟨x.block, x.off, none⟩ := addr_plain (v := u0) (by have := r0 0 u0 hu0; rw [add_add] at this; simpa using this)
  have hb : x.block < W.heap.size := by
    have := r0 0 u0 hu0
    rw [add_add, hx, Addr.add_mid] at this
    exact block_lt_of_cell (a := ⟨x.block, x.off + (0 * 5 + 0), none⟩) this
  refine ⟨hx, hb, fun i hi => ?_⟩
  obtain ⟨cs, h1, h2, h3⟩ := each i hi
  refine ⟨cs, h2, fun j u hu => ?_⟩
  have := h3 j u hu
  rw [hx, Addr.add_mid, Addr.add_mid] at this
  rw [← this, Nat.mul_comm 5 i]
theorem levels_of_trod (T : TermTy H enc P ti tstr tlv tlvs tt tts) {W : World} {fuel : Nat} {v : Value} {x : DataW H × List MemPlace} (h : DataW.trod enc P W 0 (fun _ => true) true fuel tlvs [v] = some x) (hsz : ∀ n ∈ x.1.weights P tlvs, n ≤ reachBytes) : ∃ ls, LvsOff [] W v ls ∧ ls.length * 40 ≤ reachBytes := by
  have hr : reachBytes = 140737488351232 := rfl
  rcases DataW.trod_slice T.ls h with ⟨e, -⟩ | ⟨a, len, cap, elems, rest, n, -, e, hxe, -, hl, hm, hlen, hel, -, -⟩
  · obtain rfl := (List.cons.inj e).1
    exact ⟨[], LvsOff.nil _ _ _ _, by simp⟩
  · obtain rfl := (List.cons.inj e).1
    have hwt : len * 40 ≤ reachBytes := by
      have h0 := hsz ((elems.length + rest.length) * 40) (by rw [hxe]; simp [DataW.weights, T.ls, T.bl])
      have h1 : elems.length * 40 ≤ (elems.length + rest.length) * 40 := Nat.mul_le_mul_right _ (by omega)
      rw [hlen] at h1
      rw [hlen] at h0
      omega
    by_cases hp : 0 < len
    · have hrow := row_five (e := tlv) (x := a) (len := len) (n := n) (D := fun i => elems.getD i (.nil, [])) T.cl (C := fun cs => ∃ l : Lv, cs = ints .i64 l.zs ∧ l.p.length = 4) (fun i cs hi hy => by
        obtain ⟨l, e1, e2⟩ := T.lv W n cs _ hy
        exact ⟨by rw [e1, ints_length]; simp [Lv.zs, e2], l, e1, e2⟩) (fun i hi => by
        rw [hel i hi, List.getD_eq_getElem?_getD, List.getElem?_eq_getElem (by omega)]
        rfl) hp
      obtain ⟨hx, hb, hr⟩ := hrow
      have each : ∀ i, ∃ l : Lv, l.p.length = 4 ∧ (i < len → W.rangeAt a.block (a.off + 5 * i) (ints .i64 l.zs)) := fun i => by
        by_cases hi : i < len
        · obtain ⟨cs, ⟨l, rfl, h4⟩, hc⟩ := hr i hi
          exact ⟨l, h4, fun _ => hc⟩
        · exact ⟨zeroL, rfl, fun h => absurd h hi⟩
      refine ⟨(List.range len).map fun i => (each i).choose, ⟨some a, cap, by simp, by simpa using hl, by simp; unfold maxLen at hm; omega, fun l hl => ?_, fun _ => ⟨a.block, a.off, by rw [← hx], by simp, hb, fun i l hi => ?_⟩⟩, by simpa using hwt⟩
      · obtain ⟨i, -, rfl⟩ := List.mem_map.1 hl
        exact (each i).choose_spec.1
      · rw [List.getElem?_map, Option.map_eq_some_iff] at hi
        obtain ⟨r, hr1, rfl⟩ := hi
        obtain ⟨hj, rfl⟩ : i < len ∧ i = r := by simpa using (List.getElem?_eq_some_iff.1 hr1)
        exact (each i).choose_spec.2 hj
    · obtain rfl : len = 0 := by omega
      exact ⟨[], LvsOff.nil _ _ _ _, by simp⟩
end
end Go.Proofs.Ytndbpmkglddjjaa
