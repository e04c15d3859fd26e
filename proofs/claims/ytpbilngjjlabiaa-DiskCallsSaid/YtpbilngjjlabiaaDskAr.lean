/- An argument that is a slice of calls, opened. -/
import Derived.Test.YtpbilngjjlabiaaGenF
import Derived.Test.YtpbilngjjlabiaaDskM
namespace Go.Proofs.Ytpbilngjjlabiaa
open Go.ChangeShapes Go.WideShapes Go.ChangeAt Go.RowKit Go.Deep
set_option maxRecDepth 100000

/-- A call: what, a number, a block, picks. -/
structure Cl where
  what : Int
  n : Int
  block : List Int
  picks : List Int
/-- A call lies here. -/
structure ClAt (w : World) (qb o : Nat) (c : Cl) : Prop where
  what : w.cell? ⟨qb, o, none⟩ = some (.int .i64 c.what)
  n : w.cell? ⟨qb, o + 1, none⟩ = some (.int .i64 c.n)
  block : w.rangeAt qb (o + 2) (ints .u8 c.block)
  len : c.block.length = 64
  bytes : isBytes c.block
  wfn : (Lit.int .i64 c.n).wf = true
  picks : ∃ pv, w.cell? ⟨qb, o + 66, none⟩ = some pv ∧ BytesIn w pv c.picks ∧ NilOk pv
  pbytes : isBytes c.picks
  plen : c.picks.length ≤ 140737488351232
/-- The value v is a slice of just these calls. -/
def CallsIn (w : World) (v : Value) (cs : List Cl) : Prop :=
  ∃ a cap, v = .slice a cs.length cap ∧ cs.length ≤ 140737488351232 ∧ (0 < cs.length → ∃ qb qo, a = some ⟨qb, qo, none⟩ ∧ qb < w.heap.size ∧ ∀ (k : Nat) (c : Cl), cs[k]? = some c → ClAt w qb (qo + 67 * k) c)
theorem seg_get {cs vs : List Value} {o m : Nat} (h : (cs.drop o).take m = vs) (_hm : vs.length = m) {j : Nat} (hj : j < m) : cs[o + j]? = vs[j]? := by
  rw [← h, List.getElem?_take, if_pos hj, List.getElem?_drop]
theorem cellsCall : Try.prog.cellsOf 36 = 67 := by kernel_rfl
theorem bytesCall : Try.prog.bytesOf 36 = 104 := by kernel_rfl
theorem cellsInt' : Try.prog.cellsOf 3 = 1 := by kernel_rfl
theorem cellsBlk' : Try.prog.cellsOf 33 = 64 := by kernel_rfl
theorem cellsBys' : Try.prog.cellsOf 34 = 1 := by kernel_rfl
theorem callFields : ∃ fs : Array Field, Try.prog.underlying 36 = some (.struct fs) ∧ fs.toList.map (·.type) = [3, 3, 33, 34] ∧ fs.toList.map (·.offset) = [0, 1, 2, 66] := ⟨_, Try.underlying36, rfl, rfl⟩
theorem open_call {H : Type} {enc : TypeId × Value → H} {W : World} {fuel : Nat} {cs : List Value} {d : DataW H} {p : List MemPlace} (h : DataW.trod enc Try.prog W 0 (fun _ => true) true fuel 36 cs = some (d, p)) :
    ∃ (c : Cl) (pv : Value), cs.length = 67 ∧ cs[0]? = some (.int .i64 c.what) ∧ cs[1]? = some (.int .i64 c.n) ∧ (∀ j v, (ints .u8 c.block)[j]? = some v → cs[2 + j]? = some v) ∧ cs[66]? = some pv ∧ c.block.length = 64 ∧ isBytes c.block ∧ (Lit.int .i64 c.n).wf = true ∧ BytesIn W pv c.picks ∧ NilOk pv ∧ isBytes c.picks ∧
      ((∀ n ∈ d.weights Try.prog 36, n ≤ reachBytes) → c.picks.length ≤ reachBytes) := by
  obtain ⟨fs, hu, hty, hof⟩ := callFields
  obtain ⟨xs, n, -, hx, hlen, hxl, hf⟩ := DataW.trod_struct hu h
  have hd : d = .agg (xs.map (·.1)) := congrArg Prod.fst hx
  have field : ∀ i t o, (fs.toList.map (·.type))[i]? = some t → (fs.toList.map (·.offset))[i]? = some o → DataW.trod enc Try.prog W 0 (fun _ => true) true n t ((cs.drop o).take (Try.prog.cellsOf t)) = xs[i]? := fun i t o ht ho => by
    rw [List.getElem?_map, Option.map_eq_some_iff] at ht ho
    obtain ⟨f, hf1, rfl⟩ := ht
    obtain ⟨f', hf2, rfl⟩ := ho
    obtain rfl : f = f' := Option.some.inj (hf1.symm.trans hf2)
    exact hf i f (by simpa using hf1)
  have h4 : xs.length = 4 := by rw [hxl, ← Array.length_toList, ← List.length_map (f := fun f : Field => f.type), hty]; rfl
  rw [hty, hof] at field
  have g0 := field 0 3 0 rfl rfl
  have g1 := field 1 3 1 rfl rfl
  have g2 := field 2 33 2 rfl rfl
  have g3 := field 3 34 66 rfl rfl
  rw [List.getElem?_eq_getElem (by omega)] at g0 g1 g2 g3
  rw [cellsInt'] at g0 g1
  rw [cellsBlk'] at g2
  rw [cellsBys'] at g3
  rw [cellsCall] at hlen
  obtain ⟨z0, e0, -, w0⟩ := DataW.trod_int Try.underlying3 g0
  obtain ⟨z1, e1, -, w1⟩ := DataW.trod_int Try.underlying3 g1
  obtain ⟨bs, e2, hbl, hbw⟩ := ints_of_array' Try.underlying33 Try.underlying5 cellsByte cellsBlk' g2
  have hp3 : ∃ pv, (cs.drop 66).take 1 = [pv] := by
    have hl : ((cs.drop 66).take 1).length = 1 := by rw [List.length_take, List.length_drop, hlen]; omega
    match (cs.drop 66).take 1, hl with
    | [v], _ => exact ⟨v, rfl⟩
  obtain ⟨pv, e3⟩ := hp3
  have hop : ∃ ps, BytesIn W pv ps ∧ NilOk pv ∧ isBytes ps ∧ ((∀ m ∈ (xs[3]'(by omega)).1.weights Try.prog 34, m ≤ reachBytes) → ps.length ≤ reachBytes) := by
    rw [e3] at g3
    rcases open_ints Try.underlying34 Try.underlying5 cellsByte g3 with ⟨hcs, _⟩ | ⟨x, l, c, zs, hcs, _, hl, hm, hz, hxx, hcell, hwz⟩
    · simp at hcs
      subst hcs
      exact ⟨[], bytes_nil W, ⟨rfl, rfl⟩, (fun z hz => by cases hz), (fun _ => by simp)⟩
    · simp at hcs
      subst hcs
      have hz' : zs.length = c := by simpa using hz
      have hl2 : (zs.take l).length = l := by rw [List.length_take]; omega
      refine ⟨zs.take l, ⟨some x, c, by rw [hl2], by rw [hl2]; exact hl, fun hp => ?_⟩, trivial, bytes_of_wf fun z hz => hwz z (List.mem_of_mem_take hz), fun hw => ?_⟩
      · rw [hl2] at hp
        obtain ⟨b, off, rfl, hc⟩ := ints_at hcell (by omega)
        have h0 := hc 0 (by omega)
        refine ⟨b, off, rfl, block_lt_of_cell h0, fun j u hu => ?_⟩
        have hj : j < l := by have := (List.getElem?_eq_some_iff.1 hu).1; rw [ints_length, hl2] at this; exact this
        rw [hc j (by omega), ← hu, ints_getD (by rw [hl2]; exact hj)]
        simp only [List.getD_eq_getElem?_getD, List.getElem?_take, if_pos hj]
      · have hd3 := congrArg Prod.fst hxx
        rw [hd3] at hw
        have := hw ((((zs.take l).length) + ((zs.drop l).length)) * 1) (by
          simp [DataW.weights, Try.underlying34, bytesByte, lits])
        rw [hl2] at this ⊢
        omega
  obtain ⟨ps, hp1, hp2, hp4, hp5⟩ := hop
  refine ⟨⟨z0, z1, bs, ps⟩, pv, hlen, ?_, ?_, ?_, ?_, hbl, bytes_of_wf hbw, w1, hp1, hp2, hp4, fun hw => hp5 fun m hm => hw m ?_⟩
  · have := seg_get e0 rfl (j := 0) (by decide); simpa using this
  · have := seg_get e1 rfl (j := 0) (by decide); simpa using this
  · intro j v hv
    have hj : j < 64 := by have := (List.getElem?_eq_some_iff.1 hv).1; rwa [ints_length, hbl] at this
    rw [seg_get e2 (by rw [ints_length, hbl]) hj]; exact hv
  · have := seg_get e3 rfl (j := 0) (by decide); simpa using this
  · rw [hd]
    simp only [DataW.weights, hu]
    rw [hty]
    exact DataW.weights_mem_each (j := 3) (t := 34) (d := (xs[3]'(by omega)).1) rfl (by rw [List.getElem?_map, List.getElem?_eq_getElem (by omega)]; rfl) m hm
theorem open_calls {H : Type} {enc : TypeId × Value → H} {W : World} {base : Nat} {v : Value} {d : DataW H} {p : List MemPlace} (hval : Value.okWide Try.prog W .any base 22 v)
    (h : DataW.Trod enc Try.prog W 0 (fun _ => true) true 22 v d p) (hsz : ∀ n ∈ d.weights Try.prog 22, n ≤ reachBytes) : (∃ cs, CallsIn W v cs) ∧ ∀ x ∈ p, x.block < W.heap.size := by
  obtain ⟨a0, len0, cap0, rfl⟩ := okWide_slice Try.underlying22 hval
  refine ⟨?_, by obtain ⟨m, hm⟩ := h; exact DataW.trod_lt m _ _ _ hm⟩
  obtain ⟨fuel, hf⟩ := h
  rcases open_slice Try.underlying22 hf with ⟨hcs, _⟩ | ⟨x, l, c, m, n, D, Pl, hcs, _, hl, hm, hmm, hx, hi⟩
  · simp [Value.cells] at hcs
    obtain ⟨rfl, rfl, rfl⟩ := hcs
    exact ⟨[], none, 0, rfl, by simp, fun h => absurd h (by simp)⟩
  · simp [Value.cells] at hcs
    obtain ⟨rfl, rfl, rfl⟩ := hcs
    simp only [if_true] at hmm
    subst hmm
    have hd : d = _ := congrArg Prod.fst hx
    dsimp only at hd
    have hr : reachBytes = 140737488351232 := rfl
    have hplain : 0 < len0 → x = ⟨x.block, x.off, none⟩ := fun hp => by
      obtain ⟨cs', hc, ht⟩ := hi 0 (by omega)
      rw [cellsCall] at hc
      obtain ⟨cl, pv, hlen, k0, -⟩ := open_call ht
      obtain ⟨_, _, hat⟩ := World.cells?_some hc
      have h0 := hat 0 (by omega)
      rw [k0, add_add] at h0
      exact addr_plain h0
    have each : ∀ i, ∃ c : Cl, i < len0 → ClAt W x.block (x.off + 67 * i) c ∧ x = ⟨x.block, x.off, none⟩ := fun i => by
      by_cases hil : i < len0
      · obtain ⟨cs', hc, ht⟩ := hi i (by omega)
        rw [cellsCall] at hc
        obtain ⟨cl, pv, hlen, k0, k1, k2, k3, hbl, hbb, hwn, q1, q2, q3, q4⟩ := open_call ht
        obtain ⟨_, _, hat⟩ := World.cells?_some hc
        have at' : ∀ j v, j < 67 → cs'[j]? = some v → W.cell? ⟨x.block, x.off + 67 * i + j, none⟩ = some v := fun j v hj hv => by
          have h0 := hat j (by omega)
          rw [hv, hplain (by omega), Addr.add_mid, Addr.add_mid] at h0
          rw [← h0, Nat.mul_comm 67 i]
        refine ⟨cl, fun _ => ⟨⟨at' 0 _ (by omega) k0, at' 1 _ (by omega) k1, fun j v hv => ?_, hbl, hbb, hwn, ⟨pv, at' 66 _ (by omega) k3, q1, q2⟩, q3, ?_⟩, hplain (by omega)⟩⟩
        · have hj : j < 64 := by have := (List.getElem?_eq_some_iff.1 hv).1; rwa [ints_length, hbl] at this
          have := at' (2 + j) v (by omega) (k2 j v hv)
          rw [show x.off + 67 * i + 2 + j = x.off + 67 * i + (2 + j) by omega]
          exact this
        · rw [← hr]
          refine q4 fun n hn => hsz n ?_
          rw [hd]
          simp only [DataW.weights, Try.underlying22]
          exact List.mem_cons_of_mem _ (List.mem_append_left _ (weights_in (d := D i) (List.mem_map.2 ⟨i, by simpa using hil, rfl⟩) _ hn))
      · exact ⟨⟨0, 0, [], []⟩, fun h => absurd h hil⟩
    have hlen : len0 ≤ 140737488351232 := by
      have := hsz ((((List.range len0).map D).length + ((List.range (m - len0)).map fun j => D (len0 + j)).length) * Try.prog.bytesOf 36) (by rw [hd]; simp [DataW.weights, Try.underlying22])
      rw [bytesCall, hr] at this
      simp at this
      omega
    refine ⟨(List.range len0).map fun i => (each i).choose, some x, m, by simp, by simpa using hlen, fun hp => ?_⟩
    have hp0 : 0 < len0 := by simpa using hp
    have e := ((each 0).choose_spec hp0).2
    refine ⟨x.block, x.off, by rw [← e], ?_, fun k c hk => ?_⟩
    · exact block_lt_of_cell (a := ⟨x.block, x.off + 67 * 0, none⟩) (((each 0).choose_spec hp0).1.what)
    · rw [List.getElem?_map, Option.map_eq_some_iff] at hk
      obtain ⟨r, hr1, rfl⟩ := hk
      obtain ⟨hj, rfl⟩ : k < len0 ∧ k = r := by simpa using (List.getElem?_eq_some_iff.1 hr1)
      exact ((each k).choose_spec hj).1
end Go.Proofs.Ytpbilngjjlabiaa
