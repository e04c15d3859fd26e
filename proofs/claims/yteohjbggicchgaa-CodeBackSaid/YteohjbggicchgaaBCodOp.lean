/- Declarations that came in as arguments of a law. -/
import Derived.Test.YteohjbggicchgaaBTrmT
import Derived.Test.YteohjbggicchgaaBCodK
namespace Go.Proofs.Yteohjbggicchgaa
open Go.ChangeShapes Go.WideShapes Go.ChangeAt Go.RowKit Go.Deep
set_option maxRecDepth 100000
section
variable {H : Type} {enc : TypeId × Value → H} {P : Program}
/-- Elements of K cells each that came in, one behind the other. -/
theorem row_k {W : World} {e : TypeId} {x : Addr} {len n K : Nat} {D : Nat → DataW H × List MemPlace} (ce : P.cellsOf e = K) (hK : 0 < K) {C : Nat → List Value → Prop} (hC : ∀ i cs, i < len → DataW.trod enc P W 0 (fun _ => true) true n e cs = some (D i) → cs.length = K ∧ C i cs)
    (h : ∀ i, i < len → (W.cells? 0 (x.add (i * P.cellsOf e)) (P.cellsOf e)).bind (DataW.trod enc P W 0 (fun _ => true) true n e) = some (D i)) (hp : 0 < len) :
    x = ⟨x.block, x.off, none⟩ ∧ x.block < W.heap.size ∧ ∀ i, i < len → ∃ cs, C i cs ∧ W.rangeAt x.block (x.off + K * i) cs := by
  have each : ∀ i, i < len → ∃ cs, cs.length = K ∧ C i cs ∧ ∀ (j : Nat) (u : Value), cs[j]? = some u → W.cell? ((x.add (i * K)).add j) = some u := fun i hi => by
    have h1 := h i hi
    rw [ce] at h1
    obtain ⟨cs, h2, h3⟩ := Option.bind_eq_some_iff.1 h1
    obtain ⟨h4, h5⟩ := hC i cs hi h3
    exact ⟨cs, h4, h5, cells_at h2 h4⟩
  obtain ⟨cs0, l0, -, r0⟩ := each 0 hp
  obtain ⟨u0, hu0⟩ : ∃ u, cs0[0]? = some u := ⟨_, List.getElem?_eq_getElem (by omega)⟩
  have hx : x = ⟨x.block, x.off, none⟩ := addr_plain (v := u0) (by have := r0 0 u0 hu0; rw [add_add] at this; simpa using this)
  have hb : x.block < W.heap.size := by
    have := r0 0 u0 hu0
    rw [add_add, hx, Addr.add_mid] at this
    exact block_lt_of_cell (a := ⟨x.block, x.off + (0 * K + 0), none⟩) this
  refine ⟨hx, hb, fun i hi => ?_⟩
  obtain ⟨cs, h1, h2, h3⟩ := each i hi
  refine ⟨cs, h2, fun j u hu => ?_⟩
  have := h3 j u hu
  rw [hx, Addr.add_mid, Addr.add_mid] at this
  rw [← this, Nat.mul_comm K i]
/-- A slice of elements of K cells that came in. -/
theorem slice_of_trod {α : Type} {W : World} {e tsl : TypeId} {K Bt : Nat} (hu : P.underlying tsl = some (.slice e)) (ce : P.cellsOf e = K) (be : P.bytesOf e = Bt) (hK : 0 < K) (Z : α) (R : α → List Value → Prop)
    (hR : ∀ (n : Nat) (cs : List Value) (x : DataW H × List MemPlace), DataW.trod enc P W 0 (fun _ => true) true n e cs = some x → (∀ n ∈ x.1.weights P e, n ≤ reachBytes) → ∃ a, R a cs ∧ cs.length = K)
    {fuel : Nat} {v : Value} {x : DataW H × List MemPlace} (h : DataW.trod enc P W 0 (fun _ => true) true fuel tsl [v] = some x) (hsz : ∀ n ∈ x.1.weights P tsl, n ≤ reachBytes) :
    ∃ l : List α, l.length * Bt ≤ reachBytes ∧ ∃ a cap, v = .slice a l.length cap ∧ l.length ≤ cap ∧ (0 < l.length → ∃ pb po, a = some ⟨pb, po, none⟩ ∧ pb < W.heap.size ∧ ∀ (i : Nat) (y : α), l[i]? = some y → ∃ cs, W.rangeAt pb (po + K * i) cs ∧ R y cs) := by
  rcases DataW.trod_slice hu h with ⟨e, -⟩ | ⟨a, len, cap, elems, rest, n', hn', e2, hxe, -, hl, hm, hlen2, hel, -, -⟩
  · obtain rfl := (List.cons.inj e).1
    exact ⟨[], by simp, none, 0, rfl, Nat.le_refl _, fun h => absurd h (by simp)⟩
  · obtain rfl := (List.cons.inj e2).1
    have hwt : len * Bt ≤ reachBytes := by
      have h0 := hsz ((elems.length + rest.length) * Bt) (by rw [hxe]; simp [DataW.weights, hu, be])
      have h1 : elems.length * Bt ≤ (elems.length + rest.length) * Bt := Nat.mul_le_mul_right _ (by omega)
      rw [hlen2] at h1
      rw [hlen2] at h0
      omega
    have hwe : ∀ i, i < len → ∀ n ∈ (elems.getD i (.nil, [])).1.weights P e, n ≤ reachBytes := fun i hi n hn => by
      refine hsz n ?_
      rw [hxe]
      simp only [DataW.weights, hu, List.mem_cons, List.mem_append]
      exact Or.inr (Or.inl (weights_in (d := (elems.getD i (.nil, [])).1) (by rw [List.getD_eq_getElem?_getD, List.getElem?_eq_getElem (by omega)]; exact List.mem_map.2 ⟨_, List.getElem_mem _, rfl⟩) n hn))
    by_cases hp : 0 < len
    · have hrow := row_k (e := e) (x := a) (len := len) (n := n') (D := fun i => elems.getD i (.nil, [])) ce hK (C := fun _ cs => ∃ y, R y cs) (fun i cs hi hy => by
        obtain ⟨y, hy1, hy2⟩ := hR n' cs _ hy (hwe i hi)
        exact ⟨hy2, y, hy1⟩) (fun i hi => by
        rw [hel i hi, List.getD_eq_getElem?_getD, List.getElem?_eq_getElem (by omega)]
        rfl) hp
      obtain ⟨hx, hb, hr⟩ := hrow
      have each : ∀ i, ∃ y : α, i < len → ∃ cs, W.rangeAt a.block (a.off + K * i) cs ∧ R y cs := fun i => by
        by_cases hi : i < len
        · obtain ⟨cs, ⟨y, hy⟩, hc⟩ := hr i hi
          exact ⟨y, fun _ => ⟨cs, hc, hy⟩⟩
        · exact ⟨Z, fun h => absurd h hi⟩
      refine ⟨(List.range len).map fun i => (each i).choose, by simpa using hwt, some a, cap, by simp, by simpa using hl, fun _ => ⟨a.block, a.off, by rw [← hx], hb, fun i y hi => ?_⟩⟩
      rw [List.getElem?_map, Option.map_eq_some_iff] at hi
      obtain ⟨r, hr1, rfl⟩ := hi
      obtain ⟨hj, rfl⟩ : i < len ∧ i = r := by simpa using (List.getElem?_eq_some_iff.1 hr1)
      exact (each i).choose_spec hj
    · obtain rfl : len = 0 := by omega
      exact ⟨[], by simp, some a, cap, rfl, Nat.zero_le _, fun h => absurd h (by simp)⟩
/-- The fields of a struct that came in. -/
theorem fields_of_trod {W : World} {t : TypeId} {fs : Array Field} {ts : List TypeId} {os : List Nat} (hu : P.underlying t = some (.struct fs)) (hty : fs.toList.map (·.type) = ts) (hof : fs.toList.map (·.offset) = os) {fuel : Nat} {cs : List Value} {x : DataW H × List MemPlace} (h : DataW.trod enc P W 0 (fun _ => true) true fuel t cs = some x) (hsz : ∀ n ∈ x.1.weights P t, n ≤ reachBytes) :
    ∃ n, cs.length = P.cellsOf t ∧ ∀ (i : Nat) (t' : TypeId) (o : Nat), ts[i]? = some t' → os[i]? = some o → ∃ y, DataW.trod enc P W 0 (fun _ => true) true n t' ((cs.drop o).take (P.cellsOf t')) = some y ∧ ∀ n ∈ y.1.weights P t', n ≤ reachBytes := by
  obtain ⟨xs, n, hfu, hxe, hlen, hxl, hf⟩ := DataW.trod_struct hu h
  refine ⟨n, hlen, fun i t' o ht ho => ?_⟩
  rw [← hty, List.getElem?_map, Option.map_eq_some_iff] at ht
  rw [← hof, List.getElem?_map, Option.map_eq_some_iff] at ho
  obtain ⟨f, hf1, rfl⟩ := ht
  obtain ⟨f', hf2, rfl⟩ := ho
  obtain rfl : f = f' := Option.some.inj (hf1.symm.trans hf2)
  have h1 := hf i f (by simpa using hf1)
  have hi : i < xs.length := by
    have := (List.getElem?_eq_some_iff.1 hf1).1
    rw [hxl, ← Array.length_toList]
    exact this
  rw [List.getElem?_eq_getElem hi] at h1
  refine ⟨_, h1, fun n hn => hsz n ?_⟩
  rw [hxe]
  have hm : n ∈ DataW.weightsEach P (fs.toList.map (·.type)) (xs.map (·.1)) := DataW.weights_mem_each (j := i) (t := f.type) (d := xs[i].1) (by rw [List.getElem?_map, hf1]; rfl) (by rw [List.getElem?_map, List.getElem?_eq_getElem hi]; rfl) n hn
  simpa [DataW.weights, hu] using hm
end
theorem one_cell {cs : List Value} {o : Nat} (h : o < cs.length) : ∃ v, (cs.drop o).take 1 = [v] := by
 have hl : ((cs.drop o).take 1).length = 1 := by rw [List.length_take, List.length_drop]; omega
 match (cs.drop o).take 1, hl with
 | [v], _ => exact ⟨v, rfl⟩
section
variable {H : Type} {enc : TypeId × Value → H} {W : World}
theorem str_of_trod {fuel : Nat} {cs : List Value} {x : DataW H × List MemPlace} (h : DataW.trod enc Try.prog W 0 (fun _ => true) true fuel 9 cs = some x) (hsz : ∀ n ∈ x.1.weights Try.prog 9, n ≤ reachBytes) : ∃ s : List UInt8, cs = [strT s] ∧ s.length ≤ reachBytes := by
 obtain ⟨s, e2, e2x, -⟩ := DataW.trod_string Try.underlying9 h
 exact ⟨s.data.toList, e2, hsz _ (by rw [e2x]; simp [DataW.weights])⟩
/-- What is known of a constructor's cells. -/
def CtIn (W : World) (c : List UInt8 × Tm) (cs : List Value) : Prop := ∃ xs, cs = strT c.1 :: xs ∧ TmAt [] W c.2 xs ∧ SmT c.2 ∧ c.1.length ≤ reachBytes
theorem cells_ct : Try.prog.cellsOf 67 = 6 := by kernel_rfl
theorem cells_dc : Try.prog.cellsOf 38 = 15 := by kernel_rfl
theorem cells_tm : Try.prog.cellsOf 25 = 5 := by kernel_rfl
theorem cells_st : Try.prog.cellsOf 9 = 1 := by kernel_rfl
theorem cells_in : Try.prog.cellsOf 3 = 1 := by kernel_rfl
theorem cells_cts : Try.prog.cellsOf 36 = 1 := by kernel_rfl
theorem bytes_ct : Try.prog.bytesOf 67 = 96 := by kernel_rfl
theorem bytes_dc : Try.prog.bytesOf 38 = 224 := by kernel_rfl
theorem ctor_of_trod {fuel : Nat} {cs : List Value} {x : DataW H × List MemPlace} (h : DataW.trod enc Try.prog W 0 (fun _ => true) true fuel 67 cs = some x) (hsz : ∀ n ∈ x.1.weights Try.prog 67, n ≤ reachBytes) : ∃ c, CtIn W c cs ∧ cs.length = 6 := by
 obtain ⟨n, hl, hf⟩ := fields_of_trod (ts := [9, 25]) (os := [0, 1]) Try.underlying67 (by kernel_rfl) (by kernel_rfl) h hsz
 rw [cells_ct] at hl
 obtain ⟨y0, h0, w0⟩ := hf 0 9 0 rfl rfl
 obtain ⟨y1, h1, w1⟩ := hf 1 25 1 rfl rfl
 rw [cells_st] at h0
 rw [cells_tm] at h1
 obtain ⟨s, e0, hs⟩ := str_of_trod h0 w0
 obtain ⟨t, e1, ht⟩ := term_of_trod termTy n _ _ h1 w1
 refine ⟨(s, t), ⟨_, ?_, e1, ht, hs⟩, hl⟩
 match cs, hl with
 | [a, b, c, d, e, f], _ =>
  have a0 : [a] = [strT s] := e0
  rw [(List.cons.inj a0).1]
  rfl
theorem ctors_of_trod {fuel : Nat} {v : Value} {x : DataW H × List MemPlace} (h : DataW.trod enc Try.prog W 0 (fun _ => true) true fuel 36 [v] = some x) (hsz : ∀ n ∈ x.1.weights Try.prog 36, n ≤ reachBytes) :
    ∃ cl : List (List UInt8 × Tm), CtsAt [] W cl v ∧ cl.length * 96 ≤ reachBytes ∧ ∀ c ∈ cl, c.1.length ≤ reachBytes ∧ SmT c.2 := by
  obtain ⟨l, h1, a, cap, h2, h3, h4⟩ := slice_of_trod Try.underlying36 cells_ct bytes_ct (by decide) (([] : List UInt8), Tm.mk 0 0 [] [] []) (CtIn W) (fun n cs x hx hw => ctor_of_trod hx hw) h hsz
  refine ⟨l, ⟨a, cap, h2, h3, fun hp => ?_⟩, h1, fun c hc => ?_⟩
  · obtain ⟨pb, po, e1, e2, e3⟩ := h4 hp
    refine ⟨pb, po, e1, by simp, e2, fun i c hi => ?_⟩
    obtain ⟨cs, g1, xs, rfl, g2, g3, g4⟩ := e3 i c hi
    exact ⟨xs, g1, g2⟩
  · obtain ⟨i, hi, rfl⟩ := List.mem_iff_getElem.1 hc
    obtain ⟨pb, po, e1, e2, e3⟩ := h4 (by omega)
    obtain ⟨cs, g1, xs, -, g2, g3, g4⟩ := e3 i _ (List.getElem?_eq_getElem hi)
    exact ⟨g4, g3⟩
/-- What is known of a declaration's cells. -/
def DcIn (W : World) (d : Dc) (cs : List Value) : Prop := DcAt [] W d cs ∧ SmD d
theorem decl_of_trod {fuel : Nat} {cs : List Value} {x : DataW H × List MemPlace} (h : DataW.trod enc Try.prog W 0 (fun _ => true) true fuel 38 cs = some x) (hsz : ∀ n ∈ x.1.weights Try.prog 38, n ≤ reachBytes) : ∃ d, DcIn W d cs ∧ cs.length = 15 := by
 obtain ⟨n, hl, hf⟩ := fields_of_trod (ts := [3, 3, 9, 25, 25, 3, 36]) (os := [0, 1, 2, 3, 8, 13, 14]) Try.underlying38 (by kernel_rfl) (by kernel_rfl) h hsz
 rw [cells_dc] at hl
 obtain ⟨y0, h0, -⟩ := hf 0 3 0 rfl rfl
 obtain ⟨y1, h1, -⟩ := hf 1 3 1 rfl rfl
 obtain ⟨y2, h2, w2⟩ := hf 2 9 2 rfl rfl
 obtain ⟨y3, h3, w3⟩ := hf 3 25 3 rfl rfl
 obtain ⟨y4, h4, w4⟩ := hf 4 25 8 rfl rfl
 obtain ⟨y5, h5, -⟩ := hf 5 3 13 rfl rfl
 obtain ⟨y6, h6, w6⟩ := hf 6 36 14 rfl rfl
 rw [cells_in] at h0 h1 h5
 rw [cells_st] at h2
 rw [cells_tm] at h3 h4
 rw [cells_cts] at h6
 obtain ⟨k, e0, -, -⟩ := DataW.trod_int Try.underlying3 h0
 obtain ⟨p, e1, -, -⟩ := DataW.trod_int Try.underlying3 h1
 obtain ⟨s, e2, hs⟩ := str_of_trod h2 w2
 obtain ⟨t, e3, ht⟩ := term_of_trod termTy n _ _ h3 w3
 obtain ⟨u, e4, hu⟩ := term_of_trod termTy n _ _ h4 w4
 obtain ⟨f, e5, -, -⟩ := DataW.trod_int Try.underlying3 h5
 obtain ⟨cv, ev⟩ := one_cell (cs := cs) (o := 14) (by omega)
 rw [ev] at h6
 obtain ⟨cl, hc1, hc2, hc3⟩ := ctors_of_trod h6 w6
 refine ⟨⟨k, p, s, t, u, f, cl⟩, ⟨⟨_, _, cv, ?_, e3, e4, hc1⟩, ⟨hs, ht, hu, hc2, hc3⟩⟩, hl⟩
 match cs, hl with
 | [a, b, c, d, e, f, g, h, i, j, k', l, m, n', o], _ =>
  have a0 : [a] = _ := e0
  have a1 : [b] = _ := e1
  have a2 : [c] = _ := e2
  have a5 : [n'] = _ := e5
  have a6 : [o] = [cv] := ev
  refine ⟨?_, rfl, rfl⟩
  rw [(List.cons.inj a0).1, (List.cons.inj a1).1, (List.cons.inj a2).1, (List.cons.inj a5).1, (List.cons.inj a6).1]
  rfl
end
theorem open_decls {H : Type} {enc : TypeId × Value → H} {W : World} {base : Nat} {v : Value} {d : DataW H} {p : List MemPlace} (hval : Value.okWide Try.prog W .any base 26 v)
    (h : DataW.Trod enc Try.prog W 0 (fun _ => true) true 26 v d p) (hsz : ∀ n ∈ d.weights Try.prog 26, n ≤ reachBytes) : (∃ ds : List Dc, DcsAt [] W ds v ∧ (∀ x ∈ ds, SmD x) ∧ ds.length ≤ 140737488351232) ∧ ∀ x ∈ p, x.block < W.heap.size := by
  obtain ⟨a0, len0, cap0, rfl⟩ := okWide_slice Try.underlying26 hval
  obtain ⟨m, hm⟩ := h
  refine ⟨?_, DataW.trod_lt m _ _ _ hm⟩
  obtain ⟨l, h1, a, cap, h2, h3, h4⟩ := slice_of_trod Try.underlying26 cells_dc bytes_dc (by decide) (⟨0, 0, [], Tm.mk 0 0 [] [] [], Tm.mk 0 0 [] [] [], 0, []⟩ : Dc) (DcIn W) (fun n cs x hx hw => decl_of_trod hx hw) hm hsz
  refine ⟨l, ⟨a, cap, h2, h3, fun hp => ?_⟩, fun x hx => ?_, ?_⟩
  · obtain ⟨pb, po, e1, e2, e3⟩ := h4 hp
    refine ⟨pb, po, e1, by simp, e2, fun i c hi => ?_⟩
    obtain ⟨cs, g1, g2, -⟩ := e3 i c hi
    exact ⟨cs, g1, g2⟩
  · obtain ⟨i, hi, rfl⟩ := List.mem_iff_getElem.1 hx
    obtain ⟨pb, po, e1, e2, e3⟩ := h4 (by omega)
    obtain ⟨cs, g1, g2, g3⟩ := e3 i _ (List.getElem?_eq_getElem hi)
    exact g3
  · have hr : reachBytes = 140737488351232 := rfl
    rw [hr] at h1
    omega
end Go.Proofs.Yteohjbggicchgaa
