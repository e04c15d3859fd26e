/- An argument that is a slice of calls of layer 5, opened. -/
import Derived.Test.YtijmaigcdcloiaaDoorGenF
import Derived.Test.YtijmaigcdcloiaaDoorDskM
namespace Go.Proofs.YtijmaigcdcloiaaDoor
open Go.ChangeShapes Go.WideShapes Go.ChangeAt Go.RowKit Go.Deep
set_option maxRecDepth 100000

/-- A call: what, a number, a record, picks. -/
structure C5 where
  what : Int
  n : Int
  rec' : List Int
  picks : List Int
/-- A call lies here. -/
structure C5At (w : World) (qb o : Nat) (c : C5) : Prop where
  what : w.cell? ⟨qb, o, none⟩ = some (.int .i64 c.what)
  n : w.cell? ⟨qb, o + 1, none⟩ = some (.int .i64 c.n)
  wfn : (Lit.int .i64 c.n).wf = true
  rec' : ∃ pv, w.cell? ⟨qb, o + 2, none⟩ = some pv ∧ BytesIn w pv c.rec' ∧ NilOk pv
  rbytes : isBytes c.rec'
  rlen : c.rec'.length ≤ 140737488351232
  picks : ∃ pv, w.cell? ⟨qb, o + 3, none⟩ = some pv ∧ BytesIn w pv c.picks ∧ NilOk pv
  pbytes : isBytes c.picks
  plen : c.picks.length ≤ 140737488351232
/-- The value v is a slice of just these calls. -/
def C5sIn (w : World) (v : Value) (cs : List C5) : Prop :=
  ∃ a cap, v = .slice a cs.length cap ∧ cs.length ≤ 140737488351232 ∧ (0 < cs.length → ∃ qb qo, a = some ⟨qb, qo, none⟩ ∧ qb < w.heap.size ∧ ∀ (k : Nat) (c : C5), cs[k]? = some c → C5At w qb (qo + 4 * k) c)
theorem seg_get5 {cs vs : List Value} {o m : Nat} (h : (cs.drop o).take m = vs) (_hm : vs.length = m) {j : Nat} (hj : j < m) : cs[o + j]? = vs[j]? := by
  rw [← h, List.getElem?_take, if_pos hj, List.getElem?_drop]
theorem cellsCall5 : Tryd.prog.cellsOf 35 = 4 := by kernel_rfl
theorem bytesCall5 : Tryd.prog.bytesOf 35 = 64 := by kernel_rfl
theorem cellsInt5 : Tryd.prog.cellsOf 3 = 1 := by kernel_rfl
theorem cellsBys5 : Tryd.prog.cellsOf 33 = 1 := by kernel_rfl
theorem callFields5 : ∃ fs : Array Field, Tryd.prog.underlying 35 = some (.struct fs) ∧ fs.toList.map (·.type) = [3, 3, 33, 33] ∧ fs.toList.map (·.offset) = [0, 1, 2, 3] := ⟨_, Tryd.underlying35, rfl, rfl⟩
theorem open_bys {H : Type} {enc : TypeId × Value → H} {W : World} {n : Nat} {pv : Value} {x : DataW H × List MemPlace} (g3 : DataW.trod enc Tryd.prog W 0 (fun _ => true) true n 33 [pv] = some x) : ∃ ps, BytesIn W pv ps ∧ NilOk pv ∧ isBytes ps ∧ ((∀ m ∈ x.1.weights Tryd.prog 33, m ≤ reachBytes) → ps.length ≤ reachBytes) := by
  rcases open_ints Tryd.underlying33 Tryd.underlying5 cellsByte g3 with ⟨hcs, _⟩ | ⟨x, l, c, zs, hcs, _, hl, hm, hz, hxx, hcell, hwz⟩
  · simp at hcs
    subst hcs
    exact ⟨[], bytes_nil W, ⟨rfl, rfl⟩, (fun z hz => by cases hz), (fun _ => by simp)⟩
  · simp at hcs
    subst hcs
    have hz' : zs.length = c := by simpa using hz
    have hl2 : (zs.take l).length = l := by rw [List.length_take]; omega
    refine ⟨zs.take l, ⟨some x, c, by rw [hl2], by rw [hl2]; exact hl, fun hp => ?_⟩, trivial, bytes_of_wf fun z hz => hwz z (List.mem_of_mem_take hz), fun hw => ?_⟩
    · rw [hl2] at hp
      obtain ⟨b, off, rfl, hc⟩ := ints_at hcell (by omega)
      have h0 := hc 0 (by omega)
      refine ⟨b, off, rfl, block_lt_of_cell h0, fun j u hu => ?_⟩
      have hj : j < l := by have := (List.getElem?_eq_some_iff.1 hu).1; rw [ints_length, hl2] at this; exact this
      rw [hc j (by omega), ← hu, ints_getD (by rw [hl2]; exact hj)]
      simp only [List.getD_eq_getElem?_getD, List.getElem?_take, if_pos hj]
    · have hd3 := congrArg Prod.fst hxx
      rw [hd3] at hw
      have := hw ((((zs.take l).length) + ((zs.drop l).length)) * 1) (by
        simp [DataW.weights, Tryd.underlying33, bytesByte, lits])
      rw [hl2] at this ⊢
      omega
theorem open_call5 {H : Type} {enc : TypeId × Value → H} {W : World} {fuel : Nat} {cs : List Value} {d : DataW H} {p : List MemPlace} (h : DataW.trod enc Tryd.prog W 0 (fun _ => true) true fuel 35 cs = some (d, p)) :
    ∃ (c : C5) (rv pv : Value), cs.length = 4 ∧ cs[0]? = some (.int .i64 c.what) ∧ cs[1]? = some (.int .i64 c.n) ∧ cs[2]? = some rv ∧ cs[3]? = some pv ∧ (Lit.int .i64 c.n).wf = true ∧ BytesIn W rv c.rec' ∧ NilOk rv ∧ isBytes c.rec' ∧ BytesIn W pv c.picks ∧ NilOk pv ∧ isBytes c.picks ∧
      ((∀ n ∈ d.weights Tryd.prog 35, n ≤ reachBytes) → c.rec'.length ≤ reachBytes ∧ c.picks.length ≤ reachBytes) := by
  obtain ⟨fs, hu, hty, hof⟩ := callFields5
  obtain ⟨xs, n, -, hx, hlen, hxl, hf⟩ := DataW.trod_struct hu h
  have hd : d = .agg (xs.map (·.1)) := congrArg Prod.fst hx
  have field : ∀ i t o, (fs.toList.map (·.type))[i]? = some t → (fs.toList.map (·.offset))[i]? = some o → DataW.trod enc Tryd.prog W 0 (fun _ => true) true n t ((cs.drop o).take (Tryd.prog.cellsOf t)) = xs[i]? := fun i t o ht ho => by
    rw [List.getElem?_map, Option.map_eq_some_iff] at ht ho
    obtain ⟨f, hf1, rfl⟩ := ht
    obtain ⟨f', hf2, rfl⟩ := ho
    obtain rfl : f = f' := Option.some.inj (hf1.symm.trans hf2)
    exact hf i f (by simpa using hf1)
  have h4 : xs.length = 4 := by rw [hxl, ← Array.length_toList, ← List.length_map (f := fun f : Field => f.type), hty]; rfl
  rw [hty, hof] at field
  have g0 := field 0 3 0 rfl rfl
  have g1 := field 1 3 1 rfl rfl
  have g2 := field 2 33 2 rfl rfl
  have g3 := field 3 33 3 rfl rfl
  rw [List.getElem?_eq_getElem (by omega)] at g0 g1 g2 g3
  rw [cellsInt5] at g0 g1
  rw [cellsBys5] at g2 g3
  rw [cellsCall5] at hlen
  obtain ⟨z0, e0, -, w0⟩ := DataW.trod_int Tryd.underlying3 g0
  obtain ⟨z1, e1, -, w1⟩ := DataW.trod_int Tryd.underlying3 g1
  have one : ∀ o, o < 4 → ∃ pv, (cs.drop o).take 1 = [pv] := fun o ho => by
    have hl : ((cs.drop o).take 1).length = 1 := by rw [List.length_take, List.length_drop, hlen]; omega
    match (cs.drop o).take 1, hl with
    | [v], _ => exact ⟨v, rfl⟩
  obtain ⟨rv, e2⟩ := one 2 (by omega)
  obtain ⟨pv, e3⟩ := one 3 (by omega)
  rw [e2] at g2
  rw [e3] at g3
  obtain ⟨rs, hr1, hr2, hr4, hr5⟩ := open_bys g2
  obtain ⟨ps, hp1, hp2, hp4, hp5⟩ := open_bys g3
  refine ⟨⟨z0, z1, rs, ps⟩, rv, pv, hlen, ?_, ?_, ?_, ?_, w1, hr1, hr2, hr4, hp1, hp2, hp4, fun hw => ⟨hr5 fun m hm => hw m ?_, hp5 fun m hm => hw m ?_⟩⟩
  · have := seg_get5 e0 rfl (j := 0) (by decide); simpa using this
  · have := seg_get5 e1 rfl (j := 0) (by decide); simpa using this
  · have := seg_get5 e2 rfl (j := 0) (by decide); simpa using this
  · have := seg_get5 e3 rfl (j := 0) (by decide); simpa using this
  · rw [hd]
    simp only [DataW.weights, hu]
    rw [hty]
    exact DataW.weights_mem_each (j := 2) (t := 33) (d := (xs[2]'(by omega)).1) rfl (by rw [List.getElem?_map, List.getElem?_eq_getElem (by omega)]; rfl) m hm
  · rw [hd]
    simp only [DataW.weights, hu]
    rw [hty]
    exact DataW.weights_mem_each (j := 3) (t := 33) (d := (xs[3]'(by omega)).1) rfl (by rw [List.getElem?_map, List.getElem?_eq_getElem (by omega)]; rfl) m hm
theorem open_calls5 {H : Type} {enc : TypeId × Value → H} {W : World} {base : Nat} {v : Value} {d : DataW H} {p : List MemPlace} (hval : Value.okWide Tryd.prog W .any base 22 v)
    (h : DataW.Trod enc Tryd.prog W 0 (fun _ => true) true 22 v d p) (hsz : ∀ n ∈ d.weights Tryd.prog 22, n ≤ reachBytes) : (∃ cs, C5sIn W v cs) ∧ ∀ x ∈ p, x.block < W.heap.size := by
  obtain ⟨a0, len0, cap0, rfl⟩ := okWide_slice Tryd.underlying22 hval
  refine ⟨?_, by obtain ⟨m, hm⟩ := h; exact DataW.trod_lt m _ _ _ hm⟩
  obtain ⟨fuel, hf⟩ := h
  rcases open_slice Tryd.underlying22 hf with ⟨hcs, _⟩ | ⟨x, l, c, m, n, D, Pl, hcs, _, hl, hm, hmm, hx, hi⟩
  · simp [Value.cells] at hcs
    obtain ⟨rfl, rfl, rfl⟩ := hcs
    exact ⟨[], none, 0, rfl, by simp, fun h => absurd h (by simp)⟩
  · simp [Value.cells] at hcs
    obtain ⟨rfl, rfl, rfl⟩ := hcs
    simp only [if_true] at hmm
    subst hmm
    have hd : d = _ := congrArg Prod.fst hx
    dsimp only at hd
    have hr : reachBytes = 140737488351232 := rfl
    have hplain : 0 < len0 → x = ⟨x.block, x.off, none⟩ := fun hp => by
      obtain ⟨cs', hc, ht⟩ := hi 0 (by omega)
      rw [cellsCall5] at hc
      obtain ⟨cl, rv, pv, hlen, k0, -⟩ := open_call5 ht
      obtain ⟨_, _, hat⟩ := World.cells?_some hc
      have h0 := hat 0 (by omega)
      rw [k0, add_add] at h0
      exact addr_plain h0
    have each : ∀ i, ∃ c : C5, i < len0 → C5At W x.block (x.off + 4 * i) c ∧ x = ⟨x.block, x.off, none⟩ := fun i => by
      by_cases hil : i < len0
      · obtain ⟨cs', hc, ht⟩ := hi i (by omega)
        rw [cellsCall5] at hc
        obtain ⟨cl, rv, pv, hlen, k0, k1, k2, k3, hwn, r1, r2, r3, q1, q2, q3, q4⟩ := open_call5 ht
        obtain ⟨_, _, hat⟩ := World.cells?_some hc
        have at' : ∀ j v, j < 4 → cs'[j]? = some v → W.cell? ⟨x.block, x.off + 4 * i + j, none⟩ = some v := fun j v hj hv => by
          have h0 := hat j (by omega)
          rw [hv, hplain (by omega), Addr.add_mid, Addr.add_mid] at h0
          rw [← h0, Nat.mul_comm 4 i]
        have hw : ∀ n ∈ (D i).weights Tryd.prog 35, n ≤ reachBytes := fun n hn => hsz n (by
          rw [hd]
          simp only [DataW.weights, Tryd.underlying22]
          exact List.mem_cons_of_mem _ (List.mem_append_left _ (weights_in (d := D i) (List.mem_map.2 ⟨i, by simpa using hil, rfl⟩) _ hn)))
        have hq := q4 hw
        rw [hr] at hq
        exact ⟨cl, fun _ => ⟨⟨at' 0 _ (by omega) k0, at' 1 _ (by omega) k1, hwn, ⟨rv, at' 2 _ (by omega) k2, r1, r2⟩, r3, hq.1, ⟨pv, at' 3 _ (by omega) k3, q1, q2⟩, q3, hq.2⟩, hplain (by omega)⟩⟩
      · exact ⟨⟨0, 0, [], []⟩, fun h => absurd h hil⟩
    have hlen : len0 ≤ 140737488351232 := by
      have := hsz ((((List.range len0).map D).length + ((List.range (m - len0)).map fun j => D (len0 + j)).length) * Tryd.prog.bytesOf 35) (by rw [hd]; simp [DataW.weights, Tryd.underlying22])
      rw [bytesCall5, hr] at this
      simp at this
      omega
    refine ⟨(List.range len0).map fun i => (each i).choose, some x, m, by simp, by simpa using hlen, fun hp => ?_⟩
    have hp0 : 0 < len0 := by simpa using hp
    have e := ((each 0).choose_spec hp0).2
    refine ⟨x.block, x.off, by rw [← e], ?_, fun k c hk => ?_⟩
    · exact block_lt_of_cell (a := ⟨x.block, x.off + 4 * 0, none⟩) (((each 0).choose_spec hp0).1.what)
    · rw [List.getElem?_map, Option.map_eq_some_iff] at hk
      obtain ⟨r, hr1, rfl⟩ := hk
      obtain ⟨hj, rfl⟩ : k < len0 ∧ k = r := by simpa using (List.getElem?_eq_some_iff.1 hr1)
      exact ((each k).choose_spec hj).1
end Go.Proofs.YtijmaigcdcloiaaDoor
