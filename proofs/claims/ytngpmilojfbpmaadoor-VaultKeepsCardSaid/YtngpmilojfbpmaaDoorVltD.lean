/- Package vault: Sound, Len, Free, Flush, Get, Keys; bytes.Equal; slices.Clone of digests. -/
import Derived.Test.YtngpmilojfbpmaaDoorVltM
import Derived.Laws.BytesArg
namespace Go.Proofs.YtngpmilojfbpmaaDoor
open Go Go.RowKit
set_option maxRecDepth 100000

theorem run_zero_str {P : Program} (w : World) (src e : TypeId) (hs : P.underlying src = some (.slice e)) (he : P.underlying e = some (.int .u8)) (p : Option Addr) (c : Nat) :
    ∀ dst, P.underlying dst = some .string → (convert src dst (.slice p 0 c)).run P w = .ok (.string ByteArray.empty) w := by
  intro dst hd
  rw [run_convert_bytes_string w src dst e _ 0 c hs he hd]
  cases p <;> simp [Conv.bytesToString, loadCells]
  all_goals rfl
theorem run_str_of (v : Value) (zs : List Int) (w : World) (h : BytesIn w v zs) : (convert 22 9 v).run Tryd.prog w = .ok (.string (strOfNums zs)) w := by
  obtain ⟨a, c, rfl, -, hp⟩ := h
  by_cases h0 : 0 < zs.length
  · obtain ⟨pb, po, rfl, _, hr⟩ := hp h0
    exact run_convert_bytes_arg w 22 5 Tryd.underlying22 Tryd.underlying5 pb po _ c zs rfl (fun i hi => hr i _ (ints_getD hi)) 9 Tryd.underlying9
  · have e : zs = [] := List.eq_nil_of_length_eq_zero (by omega)
    subst e
    exact run_zero_str w 22 5 Tryd.underlying22 Tryd.underlying5 a c 9 Tryd.underlying9
theorem str_same {xs ys : List Int} (hx : isBytes xs) (hy : isBytes ys) : ((strOfNums xs).toList == (strOfNums ys).toList) = decide (xs = ys) := by
  by_cases h : xs = ys
  · subst h; simp
  · rw [decide_eq_false h, beq_eq_false_iff_ne]
    intro hc
    apply h
    have tl : ∀ l : List Int, (strOfNums l).toList = l.map fun n => UInt8.ofNat n.toNat := fun l => ByteArray.toList_mk _
    rw [tl, tl] at hc
    have inj : ∀ (xs ys : List Int), isBytes xs → isBytes ys → xs.map (fun n => UInt8.ofNat n.toNat) = ys.map (fun n => UInt8.ofNat n.toNat) → xs = ys := by
      intro xs
      induction xs with
      | nil => intro ys _ _ he; cases ys with
        | nil => rfl
        | cons y ys => simp at he
      | cons x xs ih => intro ys h1 h2 he; cases ys with
        | nil => simp at he
        | cons y ys =>
          simp only [List.map_cons, List.cons.injEq] at he
          have b1 := h1 x (by simp)
          have b2 := h2 y (by simp)
          have e1 := congrArg UInt8.toNat he.1
          rw [UInt8.toNat_ofNat', UInt8.toNat_ofNat'] at e1
          have e2 : x = y := by omega
          rw [e2, ih ys (fun z hz => h1 z (List.mem_cons_of_mem _ hz)) (fun z hz => h2 z (List.mem_cons_of_mem _ hz)) he.2]
    exact inj xs ys hx hy hc
theorem bequal_walk (v1 v2 : Value) (xs ys : List Int) (w : World) (h1 : BytesIn w v1 xs) (h2 : BytesIn w v2 ys) (hx : isBytes xs) (hy : isBytes ys) :
    Calls Tryd.prog 37 #[v1, v2] w fun e w' => e = .returned (.bool (decide (xs = ys))) ∧ w = w' := by
  have g1 := run_str_of v1 xs w h1
  have g2 := run_str_of v2 ys w h2
  have hs := Lib.hid (str_same hx hy)
  clear h1 h2 hx hy
  go_enter Tryd.func37, Tryd.ntmps37
  go_wp2
  go_ret
  exact ⟨by rw [← hs.out]; rfl, rfl⟩
/-- Digests, one behind the other. -/
def DsIn (w : World) (v : Value) (ks : List (List Int)) : Prop :=
  ∃ a cap, v = .slice a ks.length cap ∧ ks.length ≤ cap ∧ (0 < ks.length → ∃ pb po, a = some ⟨pb, po, none⟩ ∧ pb < w.heap.size ∧ w.rangeAt pb po (ints .u8 ks.flatten))
def OwnD (w : World) (base : Nat) (v : Value) (ks : List (List Int)) : Prop := w.ownsRow base 35 32 v ks.length (ints .u8 ks.flatten)
theorem OwnD.in {w : World} {base : Nat} {v : Value} {ks : List (List Int)} (h : OwnD w base v ks) : DsIn w v ks := by
  obtain ⟨h1, h2⟩ := h
  rcases h2 with ⟨rfl, hn0⟩ | ⟨g, cap, cur, rfl, _, hg, hc, _, hs, ht⟩
  · exact ⟨none, 0, by rw [hn0], by omega, fun h => by omega⟩
  · refine ⟨some ⟨g, 0, none⟩, cap, rfl, hc, fun _ => ⟨g, 0, rfl, (Array.getElem?_eq_some_iff.1 hg).1, fun j v hv => ?_⟩⟩
    rw [cell_of_row w g (0 + j) cur 35 (0, 0) hg, Nat.zero_add]
    rw [← ht, List.getElem?_take] at hv
    split at hv
    · simpa using hv
    · cases hv
theorem OwnD.nilok {w : World} {base : Nat} {v : Value} {ks : List (List Int)} (h : OwnD w base v ks) : NilOk v := by
  rcases h.2 with ⟨rfl, _⟩ | ⟨g, cap, cur, rfl, _⟩
  · exact ⟨rfl, rfl⟩
  · trivial
theorem OwnD.below {w w' : World} {base : Nat} {v : Value} {ks : List (List Int)} (h : OwnD w base v ks) (hb : Below w.heap.size w w') : OwnD w' base v ks :=
  own_step (F := []) (F' := []) h (Step.of_below hb (Nat.le_refl _)) (fun g _ => by simp)
theorem DsIn.below {B : Nat} {w w' : World} {v : Value} {ks : List (List Int)} (h : DsIn w v ks) (hb : Below B w w') (hB : w.heap.size ≤ B) : DsIn w' v ks := by
  obtain ⟨a, cap, h1, h2, h3⟩ := h
  refine ⟨a, cap, h1, h2, fun hp => ?_⟩
  obtain ⟨pb, po, h4, h5, h6⟩ := h3 hp
  exact ⟨pb, po, h4, Nat.lt_of_lt_of_le h5 hb.size, fun j u hu => by rw [hb.cell (p := ⟨pb, po + j, none⟩) (by show pb < B; omega)]; exact h6 j u hu⟩
theorem Vm.own {w : World} {G : List Nat} {vb d : Nat} {ap : Option Addr} {kv : Value} {mb : Nat} {es : List Ent} (h : Vm w G vb d ap kv mb es) : OwnD w 0 kv (es.map (·.1)) := by
  unfold OwnD
  rw [List.length_map]
  exact h.hk
theorem flat_len32 {ks : List (List Int)} (h : ∀ k ∈ ks, k.length = 32) : ks.flatten.length = 32 * ks.length := by
  induction ks with
  | nil => rfl
  | cons k ks ih => rw [List.flatten_cons, List.length_append, h k (by simp), ih (fun x hx => h x (List.mem_cons_of_mem _ hx)), List.length_cons]; omega
/-- append(dst, src...) of digests. -/
theorem lin_appendd {ops : Array Oper} {Q : Exit → Act → World → Prop} {a : Act} {w : World} (i : Nat) (d : Option Tmp) (hi : (ops[i]?.isSome) = true) (hgd : (opAt ops i).guard = none) (hd : (opAt ops i).dst = d) (s x : Operand)
    (ho : (opAt ops i).op = .call { callee := .builtin .append, args := #[s, x], argTypes := #[33, 33] }) (base : Nat) (v : Value) (ks : List (List Int)) (hs : a.eval s = v) (hown : OwnD w base v ks)
    (u : Value) (ds : List (List Int)) (hx : a.eval x = u) (hu : DsIn w u ds) (hd32 : ∀ k ∈ ds, k.length = 32) (hnil : NilOk u) (hb : ks.length + ds.length ≤ 1000000000) (hbase : base ≤ w.heap.size)
    (h : ∀ v' w', OwnD w' base v' (ks ++ ds) → w.grownBy w' v.ownBlock → wpFrom Tryd.prog ops Q (i + 1) (a.put d v') w') : wpFrom Tryd.prog ops Q i a w := by
  subst hd
  refine ⟨?_⟩
  rw [drop_opAt hi]
  obtain ⟨i0, hi0, hz0, hz1, hz2⟩ := info_parts infoDigV
  obtain ⟨sa, c, rfl, hc, hp⟩ := hu
  cases sa with
  | none =>
    obtain ⟨h1, h2⟩ := hnil
    have hz : ds = [] := List.eq_nil_of_length_eq_zero h1
    subst hz
    subst h2
    refine wpList_append_own_none hgd s x 33 ho base 35 i0 32 elemDigV hi0 v _ _ hs hown (by rw [hx]; rfl) ?_
    rw [List.append_nil] at h
    exact (h v w hown ⟨rfl, rfl, rfl, Nat.le_refl _, fun _ _ _ => rfl⟩).out
  | some ad =>
    refine wpList_append_own w hgd s x 33 ho base 35 i0 (.agg (ints .u8 (List.replicate 32 0)).toArray) 32 32 elemDigV hi0 hz0 hz1 hz2 (by show (ints .u8 (List.replicate 32 0)).toArray.size = 32; rw [List.size_toArray, ints_length, List.length_replicate]) (by decide) v _ _ hs hown ad ds.length c (ints .u8 ds.flatten) hx (by rw [ints_length, flat_len32 hd32]; omega) ?_ (ints_one _ _) (by unfold maxLen; omega) (by omega) hbase ?_
    · intro j u hj
      have hj2 : j < ds.flatten.length := by have := (List.getElem?_eq_some_iff.1 hj).1; rwa [ints_length] at this
      rw [flat_len32 hd32] at hj2
      obtain ⟨pb, po, e, _, hr⟩ := hp (by omega)
      obtain rfl := Option.some.inj e
      rw [Addr.add_mid]
      exact hr j u hj
    · intro v' w' h1 h2 _
      refine (h v' w' ?_ h2).out
      unfold OwnD
      rw [List.length_append, List.flatten_append, ints_append]
      exact h1
theorem run_build_nodig (w : World) : (Instr.buildSlice 33 0 #[]).run Tryd.prog w = .ok (.slice (some ⟨w.heap.size, 0, none⟩) 0 0) (w.alloc (.cells #[] 35)) := by kernel_rfl
def DCopy (ds : List (List Int)) (w : World) (e : Ending) (w' : World) : Prop := ∃ v, e = .returned v ∧ OwnD w' w.heap.size v ds ∧ Below w.heap.size w w'
set_option maxHeartbeats 1000000 in
theorem dclone_walk (u : Value) (ds : List (List Int)) (w : World) (hu : DsIn w u ds) (hnil : NilOk u) (h32 : ∀ k ∈ ds, k.length = 32) (hm : ds.length ≤ 1000000) : Calls Tryd.prog 44 #[u] w (DCopy ds w) := by
  obtain ⟨sa, c, rfl, hc0, -⟩ := id hu
  obtain ⟨n, hn⟩ : ∃ n, Hid (ds.length = n) := ⟨_, rfl⟩
  rw [hn.out] at hnil hc0 hm ⊢
  obtain ⟨B, hB⟩ : ∃ B, Hid (w.heap.size = B) := ⟨_, rfl⟩
  cases sa with
  | none =>
    obtain ⟨h1, h2⟩ := id hnil
    subst h1
    subst h2
    have hz : ds = [] := List.eq_nil_of_length_eq_zero hn.out
    have hq : ∀ w, (binOp BinOp.eql 33 (.slice none 0 0) (.slice none 0 0)).run Tryd.prog w = .ok (.bool true) w := fun w => by kernel_rfl
    subst hz
    clear hu hnil hn h32
    go_enter Tryd.func44, Tryd.ntmps44
    go_wp2
    go_ret
    exact ⟨_, rfl, ⟨rfl, .inl ⟨rfl, rfl⟩⟩, Below.refl _ _⟩
  | some ad =>
    have HU : Hid (DsIn w (.slice (some ad) n c) ds) := by have h := hu; rw [hn.out] at h; exact h
    have H32 := Lib.hid h32
    have hq : ∀ w, (binOp BinOp.eql 33 (.slice (some ad) n c) (.slice none 0 0)).run Tryd.prog w = .ok (.bool false) w := fun w => by kernel_rfl
    clear hu hnil h32
    go_enter Tryd.func44, Tryd.ntmps44
    go_upto_region 3 with (fail)
    refine lin_begin (opsOf Tryd.f44 3) (by kernel_rfl) ?_
    have hmk := run_build_nodig w
    have B1 : Hid (Below w.heap.size w (w.alloc (.cells #[] 35))) := (Below.refl _ _).alloc (Nat.le_refl _) _
    have O1 : Hid (OwnD (w.alloc (.cells #[] 35)) B (.slice (some ⟨w.heap.size, 0, none⟩) 0 0) []) := ⟨rfl, .inr ⟨w.heap.size, 0, #[], rfl, Nat.le_of_eq hB.out.symm, heap_alloc_last w _, Nat.le_refl _, by unfold maxLen; omega, rfl, rfl⟩⟩
    rw [hB.out] at hmk O1
    generalize w.alloc (.cells #[] 35) = w1 at hmk B1 O1
    refine lin_value 0 (.slice (some ⟨B, 0, none⟩) 0 0) (some 5) w1 (by kernel_rfl) (by kernel_rfl) (exec_of (Instr.buildSlice 33 0 #[]) _ (by kernel_rfl) hmk) ?_
    refine lin_now 1 (.slice (some ad) n c) (some 6) (by kernel_rfl) (by kernel_rfl) (by kernel_rfl) ?_
    refine lin_appendd 2 (some 7) (by kernel_rfl) (by kernel_rfl) (by kernel_rfl) (.tmp 5) (.tmp 6) (by kernel_rfl) B _ [] (by kernel_rfl) O1.out _ ds (by kernel_rfl) (HU.out.below B1.out (Nat.le_refl _)) H32.out trivial (by rw [hn.out]; show 0 + n ≤ _; omega) (by rw [← hB.out]; exact B1.out.size) ?_
    intro v2 w2 h2 g2
    refine lin_now 3 (v2) (some 2) (by kernel_rfl) (by kernel_rfl) (by kernel_rfl) ?_
    refine lin_done 4 (by kernel_rfl) ?_
    have O2 : Hid (OwnD w2 B v2 ds) := h2
    have B2 : Hid (Below w.heap.size w w2) := B1.out.grown g2 B1.out.size (fun k hk => by simp [Value.ownBlock] at hk; rw [← hk, hB.out]; exact Nat.le_refl _)
    clear h2 g2 hmk
    generalize hact : Act.put _ (some 2) _ = act
    simp only [Act.put, List.setIfInBounds_toArray, List.set_cons_succ, List.set_cons_zero] at hact
    subst hact
    go_wp2
    go_ret
    exact ⟨v2, rfl, by rw [hB.out]; exact O2.out, B2.out⟩
section
variable {w : World} {G : List Nat} {vb d : Nat} {ap : Option Addr} {kv : Value} {mb : Nat} {es : List Ent}
theorem vsound_walk (h : Vm w G vb d ap kv mb es) : Calls Tryd.prog 29 #[.pointer (some ⟨vb, 0, none⟩)] w fun e w' => e = .returned (.bool ap.isSome) ∧ w = w' := by
  have c1 := h.c1
  clear h
  go_enter Tryd.func29, Tryd.ntmps29
  go_wp2
  go_ret
  exact ⟨by cases ap <;> rfl, rfl⟩
theorem row_slice {w : World} {base n s : Nat} {t : TypeId} {v : Value} {xs : List Value} (h : w.ownsRow base t s v n xs) : ∃ a c, v = .slice a n c := by
  rcases h.2 with ⟨rfl, h0⟩ | ⟨g, cap, cur, rfl, _⟩
  · exact ⟨none, 0, by rw [h0]⟩
  · exact ⟨_, cap, rfl⟩
theorem vlen_walk (h : Vm w G vb d ap kv mb es) : Calls Tryd.prog 28 #[.pointer (some ⟨vb, 0, none⟩)] w fun e w' => e = .returned (.int .i64 (es.length : Int)) ∧ w = w' := by
  obtain ⟨n, hn⟩ : ∃ n, Hid (es.length = n) := ⟨_, rfl⟩
  rw [hn.out]
  have c2 := h.c2
  obtain ⟨a, c, e1⟩ := row_slice h.hk
  rw [hn.out] at e1
  subst e1
  clear h
  go_enter Tryd.func28, Tryd.ntmps28
  go_wp2
  go_ret
  exact ⟨rfl, rfl⟩
theorem vfree_none (h : Vm w G vb d none kv mb es) : Calls Tryd.prog 31 #[.pointer (some ⟨vb, 0, none⟩)] w fun e w' => e = .returned (.int .i64 0) ∧ w = w' := by
  have c1 := h.c1
  have HV := Lib.hid h
  clear h
  go_enter Tryd.func31, Tryd.ntmps31
  go_wp2_with fail
  refine (vsound_walk HV.out).mono ?_
  rintro e w1 ⟨rfl, rfl⟩
  go_wp2
  go_ret
  exact ⟨rfl, rfl⟩
theorem vfree_some {A F : List Nat} {ab first half gen next : Nat} {stuck : Bool} {recs : List (List Int)} (h : Vm w G vb d (some ⟨ab, 0, none⟩) kv mb es) (ha : Ar w A F ab d first half gen next stuck recs) (h1 : next ≤ half) (h2 : half ≤ 4096) : Calls Tryd.prog 31 #[.pointer (some ⟨vb, 0, none⟩)] w fun e w' => e = .returned (.int .i64 ((half - next : Nat) : Int)) ∧ ∃ n, w' = w.drewN n := by
  have c1 := h.c1
  have HV := Lib.hid h
  have HA := Lib.hid ha
  clear h ha
  go_enter Tryd.func31, Tryd.ntmps31
  go_wp2_with fail
  refine (vsound_walk HV.out).mono ?_
  rintro e w1 ⟨rfl, rfl⟩
  go_wp2_with fail
  refine (arfree_walk HA.out h1 h2).mono ?_
  rintro e w2 ⟨rfl, n, rfl⟩
  go_wp2
  go_ret
  exact ⟨rfl, n, rfl⟩
theorem vflush_none (h : Vm w G vb d none kv mb es) : Calls Tryd.prog 25 #[.pointer (some ⟨vb, 0, none⟩)] w fun e w' => e = .returned (.int .i64 0) ∧ w = w' := by
  have c1 := h.c1
  have HV := Lib.hid h
  clear h
  go_enter Tryd.func25, Tryd.ntmps25
  go_wp2_with fail
  refine (vsound_walk HV.out).mono ?_
  rintro e w1 ⟨rfl, rfl⟩
  go_wp2
  go_ret
  exact ⟨rfl, rfl⟩
theorem vaflush {A E F : List Nat} {ab d first half gen next : Nat} {stuck : Bool} {recs : List (List Int)} {sz : Nat} {seen dur : List Int} {pend : List Wr} {left : Int} {w : World} (h : Ar w A (E ++ F) ab d first half gen next stuck recs) (hd : Dk w F d sz seen dur pend left) (hm : pend.length ≤ 1000000) : Calls Tryd.prog 60 #[.pointer (some ⟨ab, 0, none⟩)] w (DkPost F d sz seen (applyK dur pend pend.length) [] left (.int .i64 0) w) := by
  obtain ⟨rv, -, hx⟩ := h
  have c0 := hx.c0
  have HD := Lib.hid hd
  clear hx hd
  go_enter Tryd.func60, Tryd.ntmps60
  go_wp2_with fail
  refine (flush_walk d sz F seen dur pend left _ HD.out hm).mono ?_
  rintro e w1 ⟨rfl, h1⟩
  have H1 := Lib.hid h1
  clear h1
  go_wp2
  go_ret
  exact ⟨rfl, H1.out⟩
theorem vflush_some {A E F : List Nat} {ab first half gen next : Nat} {stuck : Bool} {recs : List (List Int)} {sz : Nat} {seen dur : List Int} {pend : List Wr} {left : Int} (h : Vm w G vb d (some ⟨ab, 0, none⟩) kv mb es) (ha : Ar w A (E ++ F) ab d first half gen next stuck recs) (hd : Dk w F d sz seen dur pend left) (hm : pend.length ≤ 1000000) : Calls Tryd.prog 25 #[.pointer (some ⟨vb, 0, none⟩)] w (DkPost F d sz seen (applyK dur pend pend.length) [] left (.int .i64 0) w) := by
  have c1 := h.c1
  have HV := Lib.hid h
  have HA := Lib.hid ha
  have HD := Lib.hid hd
  clear h ha hd
  go_enter Tryd.func25, Tryd.ntmps25
  go_wp2_with fail
  refine (vsound_walk HV.out).mono ?_
  rintro e w1 ⟨rfl, rfl⟩
  go_wp2_with fail
  refine (vaflush HA.out HD.out hm).mono ?_
  rintro e w2 ⟨rfl, h1⟩
  have H1 := Lib.hid h1
  clear h1
  go_wp2
  go_ret
  exact ⟨rfl, H1.out⟩
theorem vkeys_walk (h : Vm w G vb d ap kv mb es) (hm : es.length ≤ 1000000) : Calls Tryd.prog 30 #[.pointer (some ⟨vb, 0, none⟩)] w (DCopy (es.map (·.1)) w) := by
  have c2 := h.c2
  have HO := Lib.hid h.own
  have HG : Hid (∀ k ∈ es.map (·.1), k.length = 32) := fun k hk => by
    obtain ⟨e, he, rfl⟩ := List.mem_map.1 hk
    exact (h.good e he).1
  clear h
  go_enter Tryd.func30, Tryd.ntmps30
  go_wp2_with fail
  refine (dclone_walk kv (es.map (·.1)) _ HO.out.in HO.out.nilok HG.out (by rw [List.length_map]; exact hm)).mono ?_
  rintro e w1 ⟨v, rfl, ho, hb⟩
  have H1 := Lib.hid ho
  have H2 := Lib.hid hb
  clear ho hb
  go_wp2
  go_ret
  exact ⟨v, rfl, H1.out, H2.out⟩
end
/-- A key's value. -/
def valOf (es : List Ent) (k : List Int) : Option (List Int) := (es.find? (fun e => e.1 = k)).map (·.2)
theorem valOf_none {es : List Ent} {k : List Int} (h : k ∉ es.map (·.1)) : valOf es k = none := by
  unfold valOf
  rw [Option.map_eq_none_iff, List.find?_eq_none]
  intro e he
  simp only [decide_eq_true_eq]
  exact fun hc => h (List.mem_map.2 ⟨e, he, hc⟩)
theorem valOf_some {es : List Ent} {k : List Int} {j : Nat} {e : Ent} (hn : (es.map (·.1)).Nodup) (hj : es[j]? = some e) (hk : e.1 = k) : valOf es k = some e.2 := by
  unfold valOf
  induction es generalizing j with
  | nil => simp at hj
  | cons x es ih =>
    rw [List.map_cons, List.nodup_cons] at hn
    rw [List.find?_cons]
    cases j with
    | zero =>
      obtain rfl : x = e := by simpa using hj
      simp [hk]
    | succ j =>
      have hm : e ∈ es := List.mem_of_getElem? (by simpa using hj)
      have : ¬ x.1 = k := fun hc => hn.1 (List.mem_map.2 ⟨e, hm, by rw [hk, hc]⟩)
      simp only [this, decide_false]
      exact ih hn.2 (by simpa using hj)
theorem nodup_at {α : Type} {l : List α} (h : l.Nodup) {i j : Nat} {x : α} (hi : l[i]? = some x) (hj : l[j]? = some x) : i = j := by
  induction l generalizing i j with
  | nil => simp at hi
  | cons y l ih =>
    rw [List.nodup_cons] at h
    cases i with
    | zero => cases j with
      | zero => rfl
      | succ j =>
        exfalso
        have e : y = x := by simpa using hi
        exact h.1 (e ▸ List.mem_of_getElem? (by simpa using hj))
    | succ i => cases j with
      | zero =>
        exfalso
        have e : y = x := by simpa using hj
        exact h.1 (e ▸ List.mem_of_getElem? (by simpa using hi))
        | succ j => exact congrArg (· + 1) (ih h.2 (i := i) (j := j) (by simpa using hi) (by simpa using hj))
theorem zeroBytes3 : ∀ w, (zeroValue 22).run Tryd.prog w = .ok (.slice none 0 0) w := fun w => by kernel_rfl
theorem Mp.lookup_no {w : World} {mb : Nat} {ks : List (List Int)} {vs : List Value} (h : Mp w mb ks vs) {k : List Int} (hk : goodK k) (hn : k ∉ ks) : (Instr.lookup 71 (.map (some mb)) (kval k) true).run Tryd.prog w = .ok (.tuple #[.slice none 0 0, .bool false]) w := by
  rcases h.lookup Tryd.underlying71 zeroBytes3 hk true with ⟨h1, _⟩ | ⟨j, v, _, h2, _⟩
  · exact h1
  · exact absurd (List.mem_of_getElem? h2) hn
theorem Mp.lookup_yes {w : World} {mb : Nat} {ks : List (List Int)} {vs : List Value} (h : Mp w mb ks vs) {k : List Int} (hk : goodK k) {j : Nat} {v : Value} (hj : ks[j]? = some k) (hv : vs[j]? = some v) : (Instr.lookup 71 (.map (some mb)) (kval k) true).run Tryd.prog w = .ok (.tuple #[v, .bool true]) w := by
  rcases h.lookup Tryd.underlying71 zeroBytes3 hk true with ⟨_, h1⟩ | ⟨j', v', h1, h2, h3⟩
  · exact absurd (List.mem_of_getElem? hj) h1
  · have hl := (List.getElem?_eq_some_iff.1 h2)
    have hl2 := (List.getElem?_eq_some_iff.1 hj)
    have : j' = j := nodup_at h.nodup h2 hj
    subst this
    rw [hv] at h3
    rw [h1, Option.some.inj h3]
    rfl
def VgPost (es : List Ent) (k : List Int) (w : World) (e : Ending) (w' : World) : Prop :=
  ∃ v, e = .returned (.tuple #[v, .bool (valOf es k).isSome]) ∧ w'.ownsRow w.heap.size 5 1 v ((valOf es k).getD []).length (ints .u8 ((valOf es k).getD [])) ∧ Below w.heap.size w w'
/-- What the map answers, in each world where the vault is. -/
theorem Vm.asked {w : World} {G : List Nat} {vb d : Nat} {ap : Option Addr} {kv : Value} {mb : Nat} {es : List Ent} (h : Vm w G vb d ap kv mb es) {k : List Int} (hk : goodK k) :
    ∃ (vs : List Value) (v : Value), Mp w mb (es.map (·.1)) vs ∧ (∀ w1, Mp w1 mb (es.map (·.1)) vs → (Instr.lookup 71 (.map (some mb)) (kval k) true).run Tryd.prog w1 = .ok (.tuple #[v, .bool (valOf es k).isSome]) w1) ∧
      BytesOff (vfoot vb mb kv ++ G) w v ((valOf es k).getD []) ∧ NilOk v ∧ ((valOf es k).getD []).length ≤ 1000 ∧ isBytes ((valOf es k).getD []) := by
  obtain ⟨vs, h1, h2⟩ := h.hm
  by_cases hm : k ∈ es.map (·.1)
  · obtain ⟨e, he, ek⟩ := List.mem_map.1 hm
    obtain ⟨j, hj⟩ := List.mem_iff_getElem?.1 he
    have hv := valOf_some h.nodup hj ek
    have hvl := h1.len
    rw [List.length_map] at hvl
    have hjl := (List.getElem?_eq_some_iff.1 hj).1
    obtain ⟨v, hvj⟩ : ∃ v, vs[j]? = some v := ⟨_, List.getElem?_eq_getElem (by omega)⟩
    have hsh := h.sh e he
    refine ⟨vs, v, h1, fun w1 hw1 => ?_, ?_⟩
    · rw [hv]
      exact hw1.lookup_yes hk (j := j) (by rw [List.getElem?_map, hj]; simp [ek]) hvj
    · rw [hv]
      exact ⟨(h2 j v e hvj hj).1, (h2 j v e hvj hj).2, hsh.1, hsh.2⟩
  · have hv := valOf_none hm
    refine ⟨vs, .slice none 0 0, h1, fun w1 hw1 => ?_, ?_⟩
    · rw [hv]; exact hw1.lookup_no hk hm
    · rw [hv]
      exact ⟨⟨none, 0, rfl, Nat.le_refl _, fun h => by simp at h⟩, ⟨rfl, rfl⟩, by show 0 ≤ 1000; omega, fun x hx => by simp at hx⟩
set_option maxHeartbeats 2000000 in
theorem vget_walk (G : List Nat) (vb d : Nat) (ap : Option Addr) (kv : Value) (mb : Nat) (es : List Ent) (k : List Int) (w : World) (h : Vm w G vb d ap kv mb es) (hk : goodK k) : Calls Tryd.prog 26 #[.pointer (some ⟨vb, 0, none⟩), kval k] w (VgPost es k w) := by
  show Calls Tryd.prog 26 #[.pointer (some ⟨vb, 0, none⟩), .agg (ints .u8 k).toArray] w (VgPost es k w)
  obtain ⟨B, hB⟩ : ∃ B, Hid (w.heap.size = B) := ⟨_, rfl⟩
  obtain ⟨vs, v, m0, hlk, hbo, hnl, hln, -⟩ := h.asked hk
  have HV := Lib.hid h
  have HK := Lib.hid hk
  have M0 := Lib.hid m0
  have HLK := Lib.hid hlk
  have HBO := Lib.hid hbo.in
  have HNL := Lib.hid hnl
  unfold VgPost
  obtain ⟨zs, hzs⟩ : ∃ zs, Hid ((valOf es k).getD [] = zs) := ⟨_, rfl⟩
  obtain ⟨bo, hbo2⟩ : ∃ b, Hid ((valOf es k).isSome = b) := ⟨_, rfl⟩
  rw [hzs.out] at HBO hln ⊢
  rw [hbo2.out]
  have HLK2 : Hid (∀ w1, Mp w1 mb (es.map (·.1)) vs → (Instr.lookup 71 (.map (some mb)) (kval k) true).run Tryd.prog w1 = .ok (.tuple #[v, .bool bo]) w1) := by rw [Hid, ← hbo2.out]; exact hlk
  clear h hk m0 hlk hbo hnl HLK
  have KS : Hid ((Tryd.prog.info? 35).map (·.size) = some (ints .u8 k).length) := blk_goodK HK.out.1
  go_enter Tryd.func26, Tryd.ntmps26
  go_upto_region 0 with (fail)
  refine lin_begin (opsOf Tryd.f26 0) (by kernel_rfl) ?_
  refine lin_box 0 35 (.tmp 1) (ints .u8 k) (B) (some 3) (by kernel_rfl) (by kernel_rfl) (by kernel_rfl) (by kernel_rfl) hB ?_
  intro w1 b1 be1 hs1
  refine lin_now 1 (.slice none 0 0) (some 4) (by kernel_rfl) (by kernel_rfl) (by kernel_rfl) ?_
  refine lin_now 2 (.bool false) (some 5) (by kernel_rfl) (by kernel_rfl) (by kernel_rfl) ?_
  refine lin_done 3 (by kernel_rfl) ?_
  have BL1 : Hid (Below w.heap.size w w1) := by rw [Hid, hB.out]; exact be1
  have B1 := Lib.hid b1
  clear b1 be1 hs1
  generalize hact : Act.put _ (some 5) _ = act
  simp only [Act.put, List.setIfInBounds_toArray, List.set_cons_succ, List.set_cons_zero] at hact
  subst hact
  go_upto_region 1 with (fail)
  refine region_begin (opsOf Tryd.f26 1) (fun w => Blk w B 35 (ints .u8 k) ∧ w.cell? ⟨vb, 3, none⟩ = some (.map (some mb)) ∧ Mp w mb (es.map (·.1)) vs) (by kernel_rfl) (by kernel_rfl) 11 (by kernel_rfl) ?_
  intro Q' hQN hN
  have X : Blk w1.drew B 35 (ints .u8 k) ∧ w1.drew.cell? ⟨vb, 3, none⟩ = some (.map (some mb)) ∧ Mp w1.drew mb (es.map (·.1)) vs := ⟨B1.out.drew, (HV.out.below BL1.out.drew).c3, M0.out.same (BL1.out.drew.block mb M0.out.lt)⟩
  refine reg_now 0 (.pointer (some ⟨vb, 0, none⟩)) (some 9) hQN X (by kernel_rfl) (by kernel_rfl) (fun w => by kernel_rfl) ?_
  refine reg_now 1 (.pointer (some ⟨vb, 0, none⟩)) (some 10) hQN X (by kernel_rfl) (by kernel_rfl) (fun w => by kernel_rfl) ?_
  refine reg_now 2 (.pointer (some ⟨vb, 3, none⟩)) (some 11) hQN X (by kernel_rfl) (by kernel_rfl) (fun w => by kernel_rfl) ?_
  refine reg_nowIf 3 (.map (some mb)) (some 12) hQN X (by kernel_rfl) (by kernel_rfl) (fun w hw => exec_load_cell 71 (.tmp 11) (by kernel_rfl) vb 3 (by kernel_rfl) _ hw.2.1 _ Tryd.underlying71 rfl) ?_
  refine reg_nowIf 4 (.agg (ints .u8 k).toArray) (some 13) hQN X (by kernel_rfl) (by kernel_rfl) (fun w hw => exec_load_mid 35 (.tmp 3) (by kernel_rfl) B 0 (by kernel_rfl) (ints .u8 k) _ hw.1.whole digUnder rfl KS.out) ?_
  refine reg_nowIf 5 (.tuple #[v, .bool bo]) (some 14) hQN X (by kernel_rfl) (by kernel_rfl) (fun w hw => exec_of (Instr.lookup 71 (.map (some mb)) (kval k) true) _ (by kernel_rfl) (HLK2.out w hw.2.2)) ?_
  refine reg_now 6 (.tuple #[v, .bool bo]) (some 8) hQN X (by kernel_rfl) (by kernel_rfl) (fun w => by kernel_rfl) ?_
  refine reg_now 7 (v) (some 15) hQN X (by kernel_rfl) (by kernel_rfl) (fun w => by kernel_rfl) ?_
  refine reg_now 8 (.bool bo) (some 16) hQN X (by kernel_rfl) (by kernel_rfl) (fun w => by kernel_rfl) ?_
  refine reg_now 9 (v) (some 6) hQN X (by kernel_rfl) (by kernel_rfl) (fun w => by kernel_rfl) ?_
  refine reg_now 10 (.bool bo) (some 7) hQN X (by kernel_rfl) (by kernel_rfl) (fun w => by kernel_rfl) ?_
  refine reg_done (by kernel_rfl) (hN _ _ ?_)
  have B2 : Hid (Below w.heap.size w w1.drew) := BL1.out.drew
  have U2 : Hid (BytesIn w1.drew v zs) := HBO.out.below B2.out (Nat.le_refl _)
  generalize w1.drew = w2 at B2 U2 ⊢
  clear hQN hN X BL1 B1 HV M0
  generalize hact : Act.put _ (some 7) _ = act
  simp only [Act.put, List.setIfInBounds_toArray, List.set_cons_succ, List.set_cons_zero] at hact
  subst hact
  go_wp2_with fail
  refine (cloneb_walk v zs _ U2.out HNL.out (by omega)).mono ?_
  rintro e w3 ⟨v3, rfl, ho, hb⟩
  have H1 : Hid (w3.ownsRow w.heap.size 5 1 v3 zs.length (ints .u8 zs)) := own_base ho B2.out.size
  have H2 : Hid (Below w.heap.size w w3) := B2.out.trans (hb.mono B2.out.size)
  clear ho hb
  go_wp2
  go_ret2
  exact ⟨v3, rfl, H1.out, H2.out⟩
end Go.Proofs.YtngpmilojfbpmaaDoor
/- Package vault: begin. -/
namespace Go.Proofs.YtngpmilojfbpmaaDoor
open Go Go.RowKit
set_option maxRecDepth 100000

theorem Mp.get_no {w : World} {mb : Nat} {ks : List (List Int)} {vs : List Value} (h : Mp w mb ks vs) {k : List Int} (hk : goodK k) (hn : k ∉ ks) : (Instr.lookup 71 (.map (some mb)) (kval k) false).run Tryd.prog w = .ok (.slice none 0 0) w := by
  rcases h.lookup Tryd.underlying71 zeroBytes3 hk false with ⟨h1, _⟩ | ⟨j, v, _, h2, _⟩
  · exact h1
  · exact absurd (List.mem_of_getElem? h2) hn
theorem Mp.get_yes {w : World} {mb : Nat} {ks : List (List Int)} {vs : List Value} (h : Mp w mb ks vs) {k : List Int} (hk : goodK k) {j : Nat} {v : Value} (hj : ks[j]? = some k) (hv : vs[j]? = some v) : (Instr.lookup 71 (.map (some mb)) (kval k) false).run Tryd.prog w = .ok v w := by
  rcases h.lookup Tryd.underlying71 zeroBytes3 hk false with ⟨_, h1⟩ | ⟨j', v', h1, h2, h3⟩
  · exact absurd (List.mem_of_getElem? hj) h1
  · have : j' = j := nodup_at h.nodup h2 hj
    subst this
    rw [hv] at h3
    rw [h1, Option.some.inj h3]
    rfl
theorem Vm.asks {w : World} {G : List Nat} {vb d : Nat} {ap : Option Addr} {kv : Value} {mb : Nat} {es : List Ent} (h : Vm w G vb d ap kv mb es) {vs : List Value} (h1 : Mp w mb (es.map (·.1)) vs) (h2 : ∀ (i : Nat) (v : Value) (e : Ent), vs[i]? = some v → es[i]? = some e → BytesOff (vfoot vb mb kv ++ G) w v e.2 ∧ NilOk v) {k : List Int} (hk : goodK k) :
    ∃ (v : Value), (∀ w1, Mp w1 mb (es.map (·.1)) vs → (Instr.lookup 71 (.map (some mb)) (kval k) false).run Tryd.prog w1 = .ok v w1) ∧
      BytesOff (vfoot vb mb kv ++ G) w v ((valOf es k).getD []) ∧ NilOk v ∧ ((valOf es k).getD []).length ≤ 1000 ∧ isBytes ((valOf es k).getD []) := by
  by_cases hm : k ∈ es.map (·.1)
  · obtain ⟨e, he, ek⟩ := List.mem_map.1 hm
    obtain ⟨j, hj⟩ := List.mem_iff_getElem?.1 he
    have hv := valOf_some h.nodup hj ek
    have hvl := h1.len
    rw [List.length_map] at hvl
    have hjl := (List.getElem?_eq_some_iff.1 hj).1
    obtain ⟨v, hvj⟩ : ∃ v, vs[j]? = some v := ⟨_, List.getElem?_eq_getElem (by omega)⟩
    have hsh := h.sh e he
    refine ⟨v, fun w1 hw1 => hw1.get_yes hk (j := j) (by rw [List.getElem?_map, hj]; simp [ek]) hvj, ?_⟩
    rw [hv]
    exact ⟨(h2 j v e hvj hj).1, (h2 j v e hvj hj).2, hsh.1, hsh.2⟩
  · have hv := valOf_none hm
    refine ⟨.slice none 0 0, fun w1 hw1 => hw1.get_no hk hm, ?_⟩
    rw [hv]
    exact ⟨⟨none, 0, rfl, Nat.le_refl _, fun h => by simp at h⟩, ⟨rfl, rfl⟩, by show 0 ≤ 1000; omega, fun x hx => by simp at hx⟩
theorem run_at_dig (B off n cap m : Nat) (hm : m < n) (w : World) : (Instr.indexAt 33 (.slice (some ⟨B, off, none⟩) n cap) (.int .i64 (m : Int))).run Tryd.prog w = .ok (.pointer (some ⟨B, off + 32 * m, none⟩)) w := by
  rw [run_indexAt_slice w 33 _ _ _ _ _ (show Tryd.prog.underlying 33 = some (.slice (Tryd.prog.elem 33)) by kernel_rfl)]
  have hz : (sizeOf (Tryd.prog.elem 33)).run Tryd.prog w = .ok 32 w := by kernel_rfl
  rw [if_pos (by omega), hz, Result.andThen_ok, Addr.add_mid, Int.toNat_natCast, Nat.mul_comm]
theorem DsIn.part {w : World} {a : Option Addr} {n cap : Nat} {ks : List (List Int)} (h : DsIn w (.slice a n cap) ks) (h32 : ∀ k ∈ ks, k.length = 32) (hn : ks.length = n) {i : Nat} (hi : i < n) :
    ∃ pb po k, a = some ⟨pb, po, none⟩ ∧ pb < w.heap.size ∧ ks[i]? = some k ∧ w.rangeAt pb (po + 32 * i) (ints .u8 k) := by
  obtain ⟨a', c', e, _, h3⟩ := h
  obtain ⟨rfl, -, -⟩ := Value.slice.inj e
  obtain ⟨pb, po, h4, h5, h6⟩ := h3 (by omega)
  have hk : ks[i]? = some ks[i] := List.getElem?_eq_getElem (by omega)
  refine ⟨pb, po, _, h4, h5, hk, fun j v hv => ?_⟩
  have h7 := flat32_at (ds := ks) h32 hk
  rw [← h7, ← ints_take, ← ints_drop, List.getElem?_take] at hv
  split at hv
  · rw [List.getElem?_drop] at hv
    have := h6 (32 * i + j) v hv
    rwa [← Nat.add_assoc] at this
  · cases hv
/-- An entry's record. -/
def recOf (es : List Ent) (k : List Int) : List Int := k ++ (valOf es k).getD []
def VbPost (E F : List Nat) (vb d sz : Nat) (seen dur : List Int) (pend : List Wr) (left : Int) (gen : Nat) (zss : List (List Int)) (w : World) (e : Ending) (w' : World) : Prop :=
  ∃ w0, Below w.heap.size w w0 ∧ ((e = .returned (.bool false) ∧ BeginPost E F d sz seen dur pend left gen zss w0 nil15 w') ∨
    (e = .returned (.bool true) ∧ ∃ ab w1, BeginPost E F d sz seen dur pend left gen zss w0 (.returned (.tuple #[.pointer (some ⟨ab, 0, none⟩), .int .i64 0])) w1 ∧ w' = w1.setCell ⟨vb, 1, none⟩ (.pointer (some ⟨ab, 0, none⟩))))
/-- Begin answers an area, or none and ErrFull. -/
theorem BeginPost.two {E F : List Nat} {d sz : Nat} {seen dur : List Int} {pend : List Wr} {left : Int} {gen : Nat} {zss : List (List Int)} {w : World} {e : Ending} {w' : World} (h : BeginPost E F d sz seen dur pend left gen zss w e w') : e = nil15 ∨ ∃ ab, e = .returned (.tuple #[.pointer (some ⟨ab, 0, none⟩), .int .i64 0]) := by
  rcases h with ⟨_, h, _⟩ | ⟨_, _, f, _, ⟨_, h, _⟩ | ⟨_, _, h, _⟩ | ⟨_, _, ab, h, _⟩⟩
  · exact .inl h
  · exact .inl h
  · exact .inl h
  · exact .inr ⟨ab, h⟩
/-- .. and leaves alone what is off the disk. -/
theorem BeginPost.step {E F : List Nat} {d sz : Nat} {seen dur : List Int} {pend : List Wr} {left : Int} {gen : Nat} {zss : List (List Int)} {w : World} {e : Ending} {w' : World} (h : BeginPost E F d sz seen dur pend left gen zss w e w') : ∃ G, Step F w G w' := by
  rcases h with ⟨_, _, h⟩ | ⟨_, _, f, _, ⟨_, _, F', _, h⟩ | ⟨_, _, _, F', _, h⟩ | ⟨_, _, ab, _, A', F', _, _, h⟩⟩
  · exact ⟨F, Step.of_below h (Nat.le_refl _)⟩
  · exact ⟨_, h⟩
  · exact ⟨_, h⟩
  · exact ⟨_, h⟩
set_option maxHeartbeats 4000000 in
theorem vbegin_walk (E F G : List Nat) (vb d sz : Nat) (seen dur : List Int) (pend : List Wr) (left : Int) (ap : Option Addr) (kv : Value) (mb : Nat) (es : List Ent) (u : Value) (ks : List (List Int)) (w : World) (h : Vm w G vb d ap kv mb es) (hvF : vb ∉ F) (hd : Dk w F d sz seen dur pend left) (hks : DsIn w u ks) (hg : ∀ k ∈ ks, goodK k) (hn1 : ks.length ≤ 5000)
    (hE : ∀ k ∈ E, k < w.heap.size) (h4 : 4 ≤ sz) (hby : isBytes seen) (hK : KW w) (hKF : 4 ∉ F) (hlm : left ≤ 9223372036854775807) (hpm : pend.length ≤ 400000) :
    Calls Tryd.prog 36 #[.pointer (some ⟨vb, 0, none⟩), u] w (VbPost E F vb d sz seen dur pend left ((highK seen sz).toNat + 1) (ks.map (recOf es)) w) := by
  obtain ⟨B, hB⟩ : ∃ B, Hid (w.heap.size = B) := ⟨_, rfl⟩
  obtain ⟨ka, kc, rfl, -, -⟩ := id hks
  obtain ⟨n, hn⟩ : ∃ n, Hid (ks.length = n) := ⟨_, rfl⟩
  rw [hn.out] at hks hn1 ⊢
  have HV := Lib.hid h
  have HD := Lib.hid hd
  have HKS := Lib.hid hks
  have HG := Lib.hid hg
  have HBY := Lib.hid hby
  have HK := Lib.hid hK
  have HKF := Lib.hid hKF
  have HE := Lib.hid hE
  obtain ⟨vs, hvs, hve⟩ := h.hm
  have HVS := Lib.hid hvs
  have HVE := Lib.hid hve
  have H32 : Hid (∀ k ∈ ks, k.length = 32) := fun k hk => (hg k hk).1
  have VBL : Hid (vb < B) := by rw [Hid, ← hB.out]; exact h.hb.lt
  have MBL : Hid (mb < B) := by rw [Hid, ← hB.out]; exact hvs.lt
  clear h hd hks hg hby hK hKF hE hvs hve
  go_enter Tryd.func36, Tryd.ntmps36
  go_upto_region 1 with (fail)
  refine lin_begin (opsOf Tryd.f36 1) (by kernel_rfl) ?_
  refine lin_now 0 (.slice ka n kc) (some 10) (by kernel_rfl) (by kernel_rfl) (by kernel_rfl) ?_
  refine lin_now 1 (.int .i64 (n : Int)) (some 11) (by kernel_rfl) (by kernel_rfl) (by kernel_rfl) ?_
  refine lin_makerows 2 n B .i64 .i64 (some 12) (by kernel_rfl) (by kernel_rfl) (by kernel_rfl) (by omega) hB ?_
  intro w1 b1 be1 hs1
  refine lin_now 3 (.slice (some ⟨B, 0, none⟩) n n) (some 5) (by kernel_rfl) (by kernel_rfl) (by kernel_rfl) ?_
  refine lin_done 4 (by kernel_rfl) ?_
  have X1 := Lib.hid b1
  have BE1 := Lib.hid be1
  clear b1 be1 hs1
  generalize hact : Act.put _ (some 5) _ = act
  simp only [Act.put, List.setIfInBounds_toArray, List.set_cons_succ, List.set_cons_zero] at hact
  subst hact
  go_wp2
  go_loopw [15, 6, 7] (fun iv _ _ wr => ∃ (i : Nat) (rs : List Value), i ≤ n ∧ iv = .int .i64 (i : Int) ∧ Hid (rs.length = n) ∧ Blk wr B 22 rs ∧ Below B w wr ∧ Hid (∀ (j : Nat) (v : Value) (k : List Int), j < i → rs[j]? = some v → ks[j]? = some k → BytesNew B B wr v (recOf es k) ∧ NilOk v)) (fun iv _ _ _ => n - (intOf iv).toNat)
  case atStart => exact ⟨0, _, Nat.zero_le _, rfl, by unfold Hid; simp, X1.out, BE1.out, fun j v zs hj => absurd hj (by omega)⟩
  case round =>
    obtain ⟨i, rs, hi, rfl, hrs, hbl, hbe, hall⟩ := hrel
    have X2 := Lib.hid hbl
    have BE2 : Hid (Below B w wr) := hbe
    have BX2 : Hid (Below w.heap.size w wr) := by rw [Hid, hB.out]; exact hbe
    clear hbl hbe X1 BE1
    by_cases hlt : i < n
    · have r1 : (i : Int) < (n : Int) := by omega
      obtain ⟨pb, po, k, rfl, hpb, hki, hr⟩ := HKS.out.part H32.out hn.out hlt
      have RK : Hid (wr.rangeAt pb (po + 32 * i) (ints .u8 k)) := fun j v hv => by rw [BX2.out.cell (p := ⟨pb, po + 32 * i + j, none⟩) hpb]; exact hr j v hv
      have HKI := Lib.hid hki
      have GK : Hid (goodK k) := HG.out k (List.mem_of_getElem? hki)
      have KS : Hid ((Tryd.prog.info? 35).map (·.size) = some (ints .u8 k).length) := blk_goodK GK.out.1
      obtain ⟨v, hlk, hbo, hnl, hln, hbb⟩ := HV.out.asks HVS.out HVE.out GK.out
      have HLK := Lib.hid hlk
      have HBO : Hid (BytesIn wr v ((valOf es k).getD [])) := hbo.in.below BX2.out (Nat.le_refl _)
      have HNL := Lib.hid hnl
      have HLN := Lib.hid hln
      obtain ⟨q, hq⟩ : ∃ q, Hid (wr.heap.size = q) := ⟨_, rfl⟩
      have QB : Hid (B < q) := by unfold Hid; rw [← hq.out]; exact X2.out.lt
      clear hpb hki hr hlk hbo hnl hln hbb
      go_upto_region 4 with (fail)
      refine lin_begin (opsOf Tryd.f36 4) (by kernel_rfl) ?_
      refine lin_now 0 (.int .i64 (i : Int)) (some 17) (by kernel_rfl) (by kernel_rfl) (by kernel_rfl) ?_
      refine lin_now 1 (.pointer (some ⟨pb, po + 32 * i, none⟩)) (some 18) (by kernel_rfl) (by kernel_rfl) (exec_indexAt 33 (.tmp 13) (.tmp 15) (by kernel_rfl) _ _ _ (by kernel_rfl) (by kernel_rfl) (run_at_dig pb po n kc i hlt wr)) ?_
      refine lin_now 2 (.agg (ints .u8 k).toArray) (some 19) (by kernel_rfl) (by kernel_rfl) (exec_load_mid 35 (.tmp 18) (by kernel_rfl) pb (po + 32 * i) (by kernel_rfl) (ints .u8 k) _ RK.out digUnder rfl KS.out) ?_
      refine lin_alloc 3 35 (ints .u8 z32) (q) (some 7) (by kernel_rfl) (by kernel_rfl) (by kernel_rfl) zeroDig hq ?_
      intro w2 b2 be2 hs2
      refine lin_now 4 (.int .i64 (i : Int)) (some 6) (by kernel_rfl) (by kernel_rfl) (by kernel_rfl) ?_
      refine lin_put 5 35 (.tmp 7) (.tmp 19) (q) _ (ints .u8 z32) (ints .u8 k) (by kernel_rfl) (by kernel_rfl) (by kernel_rfl) (by kernel_rfl) (by kernel_rfl) b2 ((by rw [ints_length, ints_length, GK.out.1, z32_length])) KS.out (ints_oneCell _ _) ?_
      intro w3 b3 u3
      refine lin_done 6 (by kernel_rfl) ?_
      have B3 := Lib.hid b3
      have BW3 : Hid (Below wr.heap.size wr w3) := u3.below (by rw [hq.out]; exact be2) (by rw [hq.out]; exact Nat.le_refl _) (by rw [hs2.out, hq.out]; omega)
      clear b2 be2 hs2 b3 u3
      generalize hact : Act.put _ none undef = act
      simp only [Act.put, List.setIfInBounds_toArray, List.set_cons_succ, List.set_cons_zero] at hact
      subst hact
      go_upto_region 5 with (fail)
      refine region_begin (opsOf Tryd.f36 5) (fun w => Blk w q 35 (ints .u8 k) ∧ w.cell? ⟨vb, 3, none⟩ = some (.map (some mb)) ∧ Mp w mb (es.map (·.1)) vs) (by kernel_rfl) (by kernel_rfl) 12 (by kernel_rfl) ?_
      intro Q' hQN hN
      have BX3 : Hid (Below w.heap.size w w3.drew) := (BX2.out.trans (BW3.out.mono BX2.out.size)).drew
      have BW4 : Hid (Below wr.heap.size wr w3.drew) := BW3.out.drew
      have X : Blk w3.drew q 35 (ints .u8 k) ∧ w3.drew.cell? ⟨vb, 3, none⟩ = some (.map (some mb)) ∧ Mp w3.drew mb (es.map (·.1)) vs := ⟨B3.out.drew, (HV.out.below BX3.out).c3, HVS.out.same (BX3.out.block mb HVS.out.lt)⟩
      generalize w3.drew = w4 at BX3 BW4 X ⊢
      refine reg_now 0 (.slice (some ⟨B, 0, none⟩) n n) (some 20) hQN X (by kernel_rfl) (by kernel_rfl) (fun w => by kernel_rfl) ?_
      refine reg_now 1 (.int .i64 (i : Int)) (some 21) hQN X (by kernel_rfl) (by kernel_rfl) (fun w => by kernel_rfl) ?_
      refine reg_nowIf 2 (.agg (ints .u8 k).toArray) (some 22) hQN X (by kernel_rfl) (by kernel_rfl) (fun w hw => exec_load_mid 35 (.tmp 7) (by kernel_rfl) q 0 (by kernel_rfl) (ints .u8 k) _ hw.1.whole digUnder rfl KS.out) ?_
      refine reg_now 3 (.pointer (some ⟨vb, 0, none⟩)) (some 23) hQN X (by kernel_rfl) (by kernel_rfl) (fun w => by kernel_rfl) ?_
      refine reg_now 4 (.pointer (some ⟨vb, 0, none⟩)) (some 24) hQN X (by kernel_rfl) (by kernel_rfl) (fun w => by kernel_rfl) ?_
      refine reg_now 5 (.pointer (some ⟨vb, 3, none⟩)) (some 25) hQN X (by kernel_rfl) (by kernel_rfl) (fun w => by kernel_rfl) ?_
      refine reg_nowIf 6 (.map (some mb)) (some 26) hQN X (by kernel_rfl) (by kernel_rfl) (fun w hw => exec_load_cell 71 (.tmp 25) (by kernel_rfl) vb 3 (by kernel_rfl) _ hw.2.1 _ Tryd.underlying71 rfl) ?_
      refine reg_nowIf 7 (.agg (ints .u8 k).toArray) (some 27) hQN X (by kernel_rfl) (by kernel_rfl) (fun w hw => exec_load_mid 35 (.tmp 7) (by kernel_rfl) q 0 (by kernel_rfl) (ints .u8 k) _ hw.1.whole digUnder rfl KS.out) ?_
      refine reg_nowIf 8 (v) (some 28) hQN X (by kernel_rfl) (by kernel_rfl) (fun w hw => exec_of (Instr.lookup 71 (.map (some mb)) (kval k) false) _ (by kernel_rfl) (HLK.out w hw.2.2)) ?_
      refine reg_call 9 39 #[.agg (ints .u8 k).toArray, v] (some 29) _ (by kernel_rfl) (by kernel_rfl) (by kernel_rfl) (pack_walk k v _ _ GK.out (HBO.out.below BW4.out (Nat.le_refl _)) HNL.out HLN.out) ?_
      rintro e w5 ⟨v5, rfl, ho5, hb5⟩
      have BX5 : Below w.heap.size w w5 := BX3.out.trans (hb5.mono BX3.out.size)
      have X5 : Blk w5 q 35 (ints .u8 k) ∧ w5.cell? ⟨vb, 3, none⟩ = some (.map (some mb)) ∧ Mp w5 mb (es.map (·.1)) vs := ⟨X.1.below hb5 X.1.lt, (HV.out.below BX5).c3, HVS.out.same (BX5.block mb HVS.out.lt)⟩
      refine ⟨_, rfl, X5, ?_⟩
      refine reg_now 10 (.pointer (some ⟨B, 0 + i, none⟩)) (some 30) hQN X5 (by kernel_rfl) (by kernel_rfl) (fun w => exec_indexAt 75 (.tmp 20) (.tmp 21) (by kernel_rfl) _ _ _ (by kernel_rfl) (by kernel_rfl) (run_at_part B 0 n n i hlt _)) ?_
      have O5 : v5.cells = #[v5] ∧ v5.oneCell' = true := by obtain ⟨a, c, e, -⟩ := owns_bytes ho5; rw [e]; exact ⟨rfl, rfl⟩
      have BWX : Below wr.heap.size wr w5 := BW4.out.trans (hb5.mono BW4.out.size)
      have R5 : Blk w5 B 22 rs := X2.out.below BWX X2.out.lt
      have N5 : BytesNew B B w5 v5 (recOf es k) := fun F hF => owns_off ho5 (fun x hx => by have := X2.out.lt; have := BW4.out.size; rcases hF x hx with h | h <;> omega)
      have b6 : Blk (w5.setCell ⟨B, 0 + i, none⟩ v5) B 22 (rs.set (0 + i) v5) := R5.set (0 + i) v5
      have u6 : Upd B w5 (w5.setCell ⟨B, 0 + i, none⟩ v5) := (Upd.refl B w5).setCell (0 + i) v5
      have X6 : Blk (w5.setCell ⟨B, 0 + i, none⟩ v5) q 35 (ints .u8 k) ∧ (w5.setCell ⟨B, 0 + i, none⟩ v5).cell? ⟨vb, 3, none⟩ = some (.map (some mb)) ∧ Mp (w5.setCell ⟨B, 0 + i, none⟩ v5) mb (es.map (·.1)) vs := ⟨u6.blk X5.1 (by have := QB.out; omega), by rw [u6.cell (p := ⟨vb, 3, none⟩) (HV.out.below BX5).hb.lt (show vb ≠ B by have := VBL.out; omega)]; exact X5.2.1, X5.2.2.same (u6.block mb X5.2.2.lt (by have := MBL.out; omega))⟩
      refine reg_store 11 (w5.setCell ⟨B, 0 + i, none⟩ v5) (by kernel_rfl) (by kernel_rfl) (exec_store_cell 22 (.tmp 30) (.tmp 29) (by kernel_rfl) B (0 + i) v5 (by kernel_rfl) (by kernel_rfl) _ _ R5 (by rw [hrs.out]; omega) (by kernel_rfl) O5.1 O5.2) X6 ?_
      refine reg_done (by kernel_rfl) (hN _ _ ?_)
      generalize w5.setCell ⟨B, 0 + i, none⟩ v5 = w6 at b6 u6 X6 ⊢
      have X7 := Lib.hid b6
      have BE6 : Hid (Below B w w6) := u6.below (by rw [← hB.out]; exact BX5) (Nat.le_refl _) (Nat.le_of_lt R5.lt)
      have V6 : Hid ((rs.set (0 + i) v5).length = n) := by unfold Hid; rw [List.length_set]; exact hrs.out
      have A6 : Hid (∀ (j : Nat) (v : Value) (k : List Int), j < i + 1 → (rs.set (0 + i) v5)[j]? = some v → ks[j]? = some k → BytesNew B B w6 v (recOf es k) ∧ NilOk v) := fun j v' k' hj hv hz => by
        rw [Nat.zero_add, List.getElem?_set] at hv
        by_cases e : i = j
        · subst e
          rw [if_pos rfl] at hv
          split at hv
          · obtain rfl := Option.some.inj hv
            rw [HKI.out] at hz
            obtain rfl := Option.some.inj hz
            exact ⟨N5.upd u6, owns_nilok ho5⟩
          · cases hv
        · rw [if_neg e] at hv
          obtain ⟨h1, h2⟩ := hall.out j v' k' (by omega) hv hz
          exact ⟨(h1.below BWX).upd u6, h2⟩
      clear b6 u6 X6 X5 R5 N5 ho5 hb5 BX5 BWX X2 BE2 BX2 hall X BX3 BW4 BW3 B3 RK HBO HNL HLK HLN hQN hN O5
      generalize hact : Act.put _ none undef = act
      simp only [Act.put, List.setIfInBounds_toArray, List.set_cons_succ, List.set_cons_zero] at hact
      subst hact
      go_wp2
      exact ⟨⟨i + 1, _, by omega, by go_num, V6, X7.out, BE6.out, A6⟩, by simp [intOf]; omega⟩
    · have r1 : ¬ (i : Int) < (n : Int) := by omega
      obtain rfl : i = n := by omega
      have NR : Hid (NewRows B wr (.slice (some ⟨B, 0, none⟩) i i) (ks.map (recOf es))) := ⟨B, rs, by rw [List.length_map, hn.out], Nat.le_refl _, by rw [List.length_map, hrs.out, hn.out], X2.out, by rw [List.length_map, hn.out]; omega, fun j v zs hv hz => by
        rw [List.getElem?_map] at hz
        cases hkj : ks[j]? with
        | none => rw [hkj] at hz; cases hz
        | some k =>
          rw [hkj] at hz
          obtain rfl := Option.some.inj hz
          exact hall.out j v k (by have := (List.getElem?_eq_some_iff.1 hkj).1; rw [hn.out] at this; exact this) hv hkj⟩
      have SH : Hid (∀ zs ∈ ks.map (recOf es), zs.length ≤ 2000) := fun zs hz => by
        obtain ⟨k, hk, rfl⟩ := List.mem_map.1 hz
        obtain ⟨v, _, _, _, hl, _⟩ := HV.out.asks HVS.out HVE.out (HG.out k hk)
        have := H32.out k hk
        unfold recOf
        rw [List.length_append]
        omega
      have PO : Hid (PartsOff F wr (.slice (some ⟨B, 0, none⟩) i i) (ks.map (recOf es))) := (NR.out.rws (F := F) (fun k hk => .inl (by have := HD.out.lt k hk; rw [hB.out] at this; exact this))).parts (fun zs hz => by have := SH.out zs hz; omega) (by rw [List.length_map, hn.out]; omega) (fun k hk => hk) (fun g hg hc => by
        obtain rfl : B = g := by simpa [Value.ownBlock] using hg
        have := HD.out.lt B hc
        rw [hB.out] at this
        omega)
      have DW : Hid (Dk wr F d sz seen dur pend left) := HD.out.below BX2.out
      have VW := Lib.hid (HV.out.below BX2.out)
      have KW' : Hid (KW wr) := HK.out.below BX2.out HK.out.lt
      obtain ⟨zss, hzss⟩ : ∃ zss, Hid (ks.map (recOf es) = zss) := ⟨_, rfl⟩
      have ZL : Hid (zss.length ≤ 10000) := by unfold Hid; rw [← hzss.out, List.length_map, hn.out]; omega
      rw [hzss.out] at PO SH ⊢
      have EW : Hid (∀ k ∈ E, k < wr.heap.size) := fun k hk => Nat.lt_of_lt_of_le (HE.out k hk) BX2.out.size
      have c0 := VW.out.c0
      have VWB := Lib.hid VW.out.hb
      clear NR X2 BE2 hall HV HD HVS HVE HK HE HG H32 HKS VBL MBL hrs VW
      go_upto_region 7 with (fail)
      refine lin_begin (opsOf Tryd.f36 7) (by kernel_rfl) ?_
      refine lin_now 0 (.pointer (some ⟨vb, 0, none⟩)) (some 33) (by kernel_rfl) (by kernel_rfl) (by kernel_rfl) ?_
      refine lin_now 1 (.pointer (some ⟨vb, 0, none⟩)) (some 34) (by kernel_rfl) (by kernel_rfl) (by kernel_rfl) ?_
      refine lin_now 2 (.pointer (some ⟨vb, 0, none⟩)) (some 35) (by kernel_rfl) (by kernel_rfl) (by kernel_rfl) ?_
      refine lin_now 3 (.pointer (some ⟨d, 0, none⟩)) (some 36) (by kernel_rfl) (by kernel_rfl) (exec_load_cell 25 (.tmp 35) (by kernel_rfl) vb 0 (by kernel_rfl) _ c0 _ Tryd.underlying25 rfl) ?_
      refine lin_now 4 (.slice (some ⟨B, 0, none⟩) i i) (some 37) (by kernel_rfl) (by kernel_rfl) (by kernel_rfl) ?_
      refine lin_call 5 67 #[.pointer (some ⟨d, 0, none⟩), .slice (some ⟨B, 0, none⟩) i i] (some 38) _ (by kernel_rfl) (by kernel_rfl) (by kernel_rfl) (begin_walk d sz F seen dur pend left _ zss _ E EW.out DW.out h4 HBY.out PO.out ZL.out SH.out KW'.out HKF.out hlm hpm) ?_
      intro e w7 hp
      have HP := Lib.hid hp
      have ST : Hid (∃ G, Step F wr G w7) := hp.step
      have DL : Hid (∀ k ∈ F, k < wr.heap.size) := DW.out.lt
      rcases hp.two with rfl | ⟨ab, rfl⟩
      · refine ⟨.tuple #[.pointer none, .int .i64 15], rfl, ?_⟩
        refine lin_now 6 (.tuple #[.pointer none, .int .i64 15]) (some 32) (by kernel_rfl) (by kernel_rfl) (by kernel_rfl) ?_
        refine lin_now 7 (.pointer none) (some 39) (by kernel_rfl) (by kernel_rfl) (by kernel_rfl) ?_
        refine lin_now 8 (.int .i64 15) (some 40) (by kernel_rfl) (by kernel_rfl) (by kernel_rfl) ?_
        refine lin_now 9 (.pointer none) (some 8) (by kernel_rfl) (by kernel_rfl) (by kernel_rfl) ?_
        refine lin_now 10 (.int .i64 15) (some 9) (by kernel_rfl) (by kernel_rfl) (by kernel_rfl) ?_
        refine lin_done 11 (by kernel_rfl) ?_
        clear hp
        generalize hact : Act.put _ (some 9) _ = act
        simp only [Act.put, List.setIfInBounds_toArray, List.set_cons_succ, List.set_cons_zero] at hact
        subst hact
        go_wp2
        go_ret
        exact ⟨wr, BX2.out, .inl ⟨rfl, by rw [hzss.out]; exact HP.out⟩⟩
      · refine ⟨.tuple #[.pointer (some ⟨ab, 0, none⟩), .int .i64 0], rfl, ?_⟩
        refine lin_now 6 (.tuple #[.pointer (some ⟨ab, 0, none⟩), .int .i64 0]) (some 32) (by kernel_rfl) (by kernel_rfl) (by kernel_rfl) ?_
        refine lin_now 7 (.pointer (some ⟨ab, 0, none⟩)) (some 39) (by kernel_rfl) (by kernel_rfl) (by kernel_rfl) ?_
        refine lin_now 8 (.int .i64 0) (some 40) (by kernel_rfl) (by kernel_rfl) (by kernel_rfl) ?_
        refine lin_now 9 (.pointer (some ⟨ab, 0, none⟩)) (some 8) (by kernel_rfl) (by kernel_rfl) (by kernel_rfl) ?_
        refine lin_now 10 (.int .i64 0) (some 9) (by kernel_rfl) (by kernel_rfl) (by kernel_rfl) ?_
        refine lin_done 11 (by kernel_rfl) ?_
        clear hp
        generalize hact : Act.put _ (some 9) _ = act
        simp only [Act.put, List.setIfInBounds_toArray, List.set_cons_succ, List.set_cons_zero] at hact
        subst hact
        have VB7 : Hid (Blk w7 vb 73 (vcells d ap kv mb)) := by
          obtain ⟨G, hs⟩ := ST.out
          exact hs.blk VWB.out hvF
        have hb7 := VB7.out.lt
        go_upto_region 10 with (fail)
        refine lin_begin (opsOf Tryd.f36 10) (by kernel_rfl) ?_
        refine lin_now 0 (.pointer (some ⟨vb, 0, none⟩)) (some 43) (by kernel_rfl) (by kernel_rfl) (by kernel_rfl) ?_
        refine lin_now 1 (.pointer (some ⟨ab, 0, none⟩)) (some 44) (by kernel_rfl) (by kernel_rfl) (by kernel_rfl) ?_
        refine lin_now 2 (.pointer (some ⟨vb, 0, none⟩)) (some 45) (by kernel_rfl) (by kernel_rfl) (by kernel_rfl) ?_
        refine lin_now 3 (.pointer (some ⟨vb, 1, none⟩)) (some 46) (by kernel_rfl) (by kernel_rfl) (by kernel_rfl) ?_
        refine lin_store 4 (w7.setCell ⟨vb, 1, none⟩ (.pointer (some ⟨ab, 0, none⟩))) (by kernel_rfl) (by kernel_rfl) (exec_store_cell 68 (.tmp 46) (.tmp 44) (by kernel_rfl) vb 1 _ (by kernel_rfl) (by kernel_rfl) _ _ VB7.out (by simp [vcells]) (by kernel_rfl) rfl rfl) ?_
        refine lin_done 5 (by kernel_rfl) ?_
        obtain ⟨w8, hw8⟩ : ∃ w8, Hid (w7.setCell ⟨vb, 1, none⟩ (.pointer (some ⟨ab, 0, none⟩)) = w8) := ⟨_, rfl⟩
        rw [hw8.out]
        generalize hact : Act.put _ none undef = act
        simp only [Act.put, List.setIfInBounds_toArray, List.set_cons_succ, List.set_cons_zero] at hact
        subst hact
        go_wp2
        go_ret
        exact ⟨wr, BX2.out, .inr ⟨rfl, ab, w7, by rw [hzss.out]; exact HP.out, hw8.out.symm⟩⟩
end Go.Proofs.YtngpmilojfbpmaaDoor
/- Package vault: load. -/
namespace Go.Proofs.YtngpmilojfbpmaaDoor
open Go Go.RowKit
set_option maxRecDepth 100000

/-- A record that tells of an entry with a new key makes it one. -/
def addEnt (es : List Ent) (rec : List Int) : List Ent := if 32 ≤ rec.length ∧ rec.length ≤ 1032 ∧ rec.take 32 ∉ es.map (·.1) then es ++ [(rec.take 32, rec.drop 32)] else es
def entsK (zss : List (List Int)) : Nat → List Ent
  | 0 => []
  | k + 1 => addEnt (entsK zss k) (rowAt zss k)
theorem entsK_length (zss : List (List Int)) : ∀ k, (entsK zss k).length ≤ k
  | 0 => Nat.le_refl _
  | k + 1 => by
    have := entsK_length zss k
    rw [entsK]
    unfold addEnt
    split
    · rw [List.length_append]; simp; omega
    · omega
theorem z32_good : goodK z32 := ⟨rfl, fun x hx => by
  have : x = 0 := (List.mem_replicate.1 hx).2
  omega⟩
def LdPost (G : List Nat) (vb d : Nat) (kv : Value) (mb : Nat) (zss : List (List Int)) (w : World) (e : Ending) (w' : World) : Prop :=
  ∃ kv', e = .returned (.tuple #[]) ∧ Vm w' G vb d none kv' mb (entsK zss zss.length) ∧ Step (vfoot vb mb kv) w (vfoot vb mb kv') w'
set_option maxHeartbeats 4000000 in
theorem load_walk (G : List Nat) (vb d : Nat) (kv : Value) (mb : Nat) (v : Value) (zss : List (List Int)) (w : World) (h : Vm w G vb d none kv mb []) (hG : ∀ k ∈ G, k < w.heap.size) (hv : PartsOff (vfoot vb mb kv) w v zss) (hl : zss.length ≤ 5000) (hby : ∀ zs ∈ zss, isBytes zs) :
    Calls Tryd.prog 34 #[.pointer (some ⟨vb, 0, none⟩), v] w (LdPost G vb d kv mb zss w) := by
  obtain ⟨n, hn⟩ : ∃ n, Hid (zss.length = n) := ⟨_, rfl⟩
  obtain ⟨ra, rcp, rps, rfl, -⟩ := id hv
  unfold LdPost
  rw [hn.out] at hv hl ⊢
  have HV := Lib.hid h
  have HG := Lib.hid hG
  have HP := Lib.hid hv
  have HBY := Lib.hid hby
  clear h hG hv hby
  go_enter Tryd.func34, Tryd.ntmps34
  go_wp2
  go_loopw [13, 5] (fun iv _ wr => ∃ (i : Nat) (kw : Value), i ≤ n ∧ iv = .int .i64 (i : Int) ∧ Vm wr G vb d none kw mb (entsK zss i) ∧ PartsOff (vfoot vb mb kw) wr (.slice ra n rcp) zss ∧ Step (vfoot vb mb kv) w (vfoot vb mb kw) wr) (fun iv _ _ => n - (intOf iv).toNat)
  case atStart => exact ⟨0, kv, Nat.zero_le _, rfl, HV.out, HP.out, Step.refl _ _⟩
  case round =>
    obtain ⟨i, kw, hi, rfl, hvm, hpo, hst⟩ := hrel
    have VW := Lib.hid hvm
    have PO := Lib.hid hpo
    have ST := Lib.hid hst
    clear hvm hpo hst HV HP
    by_cases hlt : i < n
    · have r1 : (i : Int) < (n : Int) := by omega
      obtain ⟨qb, qo, pv, rfl, hcell, hpb, hpn, hqb⟩ := PO.out.part hn.out hlt
      have HC := Lib.hid hcell
      obtain ⟨rec, hrc⟩ : ∃ rc, Hid (rowAt zss i = rc) := ⟨_, rfl⟩
      rw [hrc.out] at hpb
      have PB := Lib.hid hpb
      have PN := Lib.hid hpn
      have RB : Hid (isBytes rec) := by unfold Hid; rw [← hrc.out]; exact HBY.out _ (List.mem_of_getElem? (rowAt_get (by rw [hn.out]; omega)))
      obtain ⟨pa, pc, e8, -⟩ := id PB.out
      subst e8
      obtain ⟨B, hB⟩ : ∃ B, Hid (wr.heap.size = B) := ⟨_, rfl⟩
      have EL := entsK_length zss i
      clear hcell hpb hpn hqb
      have EN : Hid (entsK zss (i + 1) = addEnt (entsK zss i) rec) := by unfold Hid; rw [entsK, hrc.out]
      obtain ⟨es, hes⟩ : ∃ es, Hid (entsK zss i = es) := ⟨_, rfl⟩
      rw [hes.out] at VW EL EN
      go_upto_region 2 with (fail)
      refine lin_begin (opsOf Tryd.f34 2) (by kernel_rfl) ?_
      refine lin_now 0 (.pointer (some ⟨qb, qo + i, none⟩)) (some 15) (by kernel_rfl) (by kernel_rfl) (exec_indexAt 75 (.tmp 11) (.tmp 13) (by kernel_rfl) _ _ _ (by kernel_rfl) (by kernel_rfl) (run_at_part qb qo n rcp i hlt wr)) ?_
      refine lin_now 1 (.slice pa rec.length pc) (some 16) (by kernel_rfl) (by kernel_rfl) (exec_load_cell 22 (.tmp 15) (by kernel_rfl) qb (qo + i) (by kernel_rfl) _ HC.out _ Tryd.underlying22 rfl) ?_
      refine lin_now 2 (.slice pa rec.length pc) (some 5) (by kernel_rfl) (by kernel_rfl) (by kernel_rfl) ?_
      refine lin_done 3 (by kernel_rfl) ?_
      generalize hact : Act.put _ (some 5) _ = act
      simp only [Act.put, List.setIfInBounds_toArray, List.set_cons_succ, List.set_cons_zero] at hact
      subst hact
      by_cases hok : 32 ≤ rec.length ∧ rec.length ≤ 1032
      · obtain ⟨ho1, ho2⟩ := hok
        go_upto_region 3 with (fail)
        refine lin_begin (opsOf Tryd.f34 3) (by kernel_rfl) ?_
        refine lin_now 0 (.slice pa rec.length pc) (some 18) (by kernel_rfl) (by kernel_rfl) (by kernel_rfl) ?_
        refine lin_call 1 66 #[.slice pa rec.length pc] (some 19) _ (by kernel_rfl) (by kernel_rfl) (by kernel_rfl) (vunp_ok (vfoot vb mb kw) _ rec _ PB.out ho1 ho2) ?_
        rintro e w1 ⟨u, rfl, ⟨hu1, hu2⟩, hb1⟩
        have BW1 := Lib.hid hb1
        have U1 := Lib.hid hu1
        have UN := Lib.hid hu2
        have GK : Hid (goodK (rec.take 32)) := ⟨by rw [List.length_take]; omega, bytes_take RB.out 32⟩
        clear hb1 hu1 hu2
        refine ⟨_, rfl, ?_⟩
        refine lin_now 2 (.tuple #[.agg (ints .u8 (rec.take 32)).toArray, u, .bool true]) (some 17) (by kernel_rfl) (by kernel_rfl) (by kernel_rfl) ?_
        refine lin_now 3 (.agg (ints .u8 (rec.take 32)).toArray) (some 20) (by kernel_rfl) (by kernel_rfl) (by kernel_rfl) ?_
        refine lin_now 4 (u) (some 21) (by kernel_rfl) (by kernel_rfl) (by kernel_rfl) ?_
        refine lin_now 5 (.bool true) (some 22) (by kernel_rfl) (by kernel_rfl) (by kernel_rfl) ?_
        obtain ⟨q, hq⟩ : ∃ q, Hid (w1.heap.size = q) := ⟨_, rfl⟩
        have KS : Hid ((Tryd.prog.info? 35).map (·.size) = some (ints .u8 (rec.take 32)).length) := blk_goodK (GK.out).1
        refine lin_alloc 6 35 (ints .u8 z32) (q) (some 6) (by kernel_rfl) (by kernel_rfl) (by kernel_rfl) zeroDig hq ?_
        intro w2 b2 be2 hs2
        refine lin_put 7 35 (.tmp 6) (.tmp 20) (q) _ (ints .u8 z32) (ints .u8 (rec.take 32)) (by kernel_rfl) (by kernel_rfl) (by kernel_rfl) (by kernel_rfl) (by kernel_rfl) b2 ((by simp only [ints_length, (GK.out).1, z32_length])) KS.out (ints_oneCell _ _) ?_
        intro w3 b3 u3
        refine lin_now 8 (u) (some 7) (by kernel_rfl) (by kernel_rfl) (by kernel_rfl) ?_
        refine lin_now 9 (.bool true) (some 8) (by kernel_rfl) (by kernel_rfl) (by kernel_rfl) ?_
        refine lin_done 10 (by kernel_rfl) ?_
        have B3 := Lib.hid b3
        have BW13 : Hid (Below w1.heap.size w1 w3) := u3.below (by rw [hq.out]; exact be2) (by rw [hq.out]; exact Nat.le_refl _) (by rw [hs2.out, hq.out]; omega)
        have BW3 : Hid (Below wr.heap.size wr w3) := BW1.out.trans (BW13.out.mono BW1.out.size)
        clear b2 be2 hs2 b3 u3
        generalize hact : Act.put _ (some 8) _ = act
        simp only [Act.put, List.setIfInBounds_toArray, List.set_cons_succ, List.set_cons_zero] at hact
        subst hact
        obtain ⟨vs, v, m0, hlk, -⟩ := VW.out.asked (GK.out)
        have M0 := Lib.hid m0
        obtain ⟨bo, hbo⟩ : ∃ b, Hid ((valOf es (rec.take 32)).isSome = b) := ⟨_, rfl⟩
        rw [hbo.out] at hlk
        have HLK := Lib.hid hlk
        clear m0 hlk
        go_upto_region 4 with (fail)
        refine region_begin (opsOf Tryd.f34 4) (fun w => Blk w q 35 (ints .u8 (rec.take 32)) ∧ w.cell? ⟨vb, 3, none⟩ = some (.map (some mb)) ∧ Mp w mb (es.map (·.1)) vs) (by kernel_rfl) (by kernel_rfl) 11 (by kernel_rfl) ?_
        intro Q' hQN hN
        have X : Blk w3.drew q 35 (ints .u8 (rec.take 32)) ∧ w3.drew.cell? ⟨vb, 3, none⟩ = some (.map (some mb)) ∧ Mp w3.drew mb (es.map (·.1)) vs := ⟨B3.out.drew, (VW.out.below BW3.out.drew).c3, M0.out.same (BW3.out.drew.block mb M0.out.lt)⟩
        refine reg_now 0 (.pointer (some ⟨vb, 0, none⟩)) (some 24) hQN X (by kernel_rfl) (by kernel_rfl) (fun w => by kernel_rfl) ?_
        refine reg_now 1 (.pointer (some ⟨vb, 0, none⟩)) (some 25) hQN X (by kernel_rfl) (by kernel_rfl) (fun w => by kernel_rfl) ?_
        refine reg_now 2 (.pointer (some ⟨vb, 3, none⟩)) (some 26) hQN X (by kernel_rfl) (by kernel_rfl) (fun w => by kernel_rfl) ?_
        refine reg_nowIf 3 (.map (some mb)) (some 27) hQN X (by kernel_rfl) (by kernel_rfl) (fun w hw => exec_load_cell 71 (.tmp 26) (by kernel_rfl) vb 3 (by kernel_rfl) _ hw.2.1 _ Tryd.underlying71 rfl) ?_
        refine reg_nowIf 4 (.agg (ints .u8 (rec.take 32)).toArray) (some 28) hQN X (by kernel_rfl) (by kernel_rfl) (fun w hw => exec_load_mid 35 (.tmp 6) (by kernel_rfl) q 0 (by kernel_rfl) (ints .u8 (rec.take 32)) _ hw.1.whole digUnder rfl KS.out) ?_
        refine reg_nowIf 5 (.tuple #[v, .bool bo]) (some 29) hQN X (by kernel_rfl) (by kernel_rfl) (fun w hw => exec_of (Instr.lookup 71 (.map (some mb)) (kval (rec.take 32)) true) _ (by kernel_rfl) (HLK.out w hw.2.2)) ?_
        refine reg_now 6 (.tuple #[v, .bool bo]) (some 23) hQN X (by kernel_rfl) (by kernel_rfl) (fun w => by kernel_rfl) ?_
        refine reg_now 7 (v) (some 30) hQN X (by kernel_rfl) (by kernel_rfl) (fun w => by kernel_rfl) ?_
        refine reg_now 8 (.bool bo) (some 31) hQN X (by kernel_rfl) (by kernel_rfl) (fun w => by kernel_rfl) ?_
        refine reg_now 9 (v) (some 9) hQN X (by kernel_rfl) (by kernel_rfl) (fun w => by kernel_rfl) ?_
        refine reg_now 10 (.bool bo) (some 10) hQN X (by kernel_rfl) (by kernel_rfl) (fun w => by kernel_rfl) ?_
        refine reg_done (by kernel_rfl) (hN _ _ ?_)
        have BW4 : Hid (Below wr.heap.size wr w3.drew) := BW3.out.drew
        have B4 : Hid (Blk w3.drew q 35 (ints .u8 (rec.take 32))) := B3.out.drew
        have E4 : Hid (Below w1.heap.size w1 w3.drew) := BW13.out.drew
        generalize w3.drew = w4 at BW4 B4 E4 ⊢
        clear X hQN hN BW3 B3 BW13
        generalize hact : Act.put _ (some 10) _ = act
        simp only [Act.put, List.setIfInBounds_toArray, List.set_cons_succ, List.set_cons_zero] at hact
        subst hact
        cases bo with
        | true =>
          have hmem : rec.take 32 ∈ es.map (·.1) := by
            by_cases hc : rec.take 32 ∈ es.map (·.1)
            · exact hc
            · have := hbo.out
              rw [valOf_none hc] at this
              cases this
          go_wp2
          exact ⟨⟨i + 1, kw, by omega, by go_num, by rw [EN.out, show addEnt es rec = es from if_neg (fun hc => hc.2.2 hmem)]; exact VW.out.below BW4.out, PO.out.step (Step.of_below BW4.out (Nat.le_refl _)), ST.out.trans (Step.of_below BW4.out (Nat.le_refl _))⟩, by simp [intOf]; omega⟩
        | false =>
          have hnot : rec.take 32 ∉ es.map (·.1) := fun hc => by
            obtain ⟨e, he, ek⟩ := List.mem_map.1 hc
            obtain ⟨j, hj⟩ := List.mem_iff_getElem?.1 he
            have := hbo.out
            rw [valOf_some VW.out.nodup hj ek] at this
            cases this
          have HNOT := Lib.hid hnot
          clear hnot
          have V4 := Lib.hid (VW.out.below BW4.out)
          have U4 : Hid (BytesOff (vfoot vb mb kw) w4 u (rec.drop 32)) := U1.out.step (Step.of_below E4.out (Nat.le_refl _))
          have KS2 : Hid ((Tryd.prog.info? 35).map (·.size) = some (ints .u8 (rec.take 32)).length) := blk_goodK GK.out.1
          go_upto_region 6 with (fail)
          refine lin_begin (opsOf Tryd.f34 6) (by kernel_rfl) ?_
          refine lin_now 0 (.pointer (some ⟨vb, 0, none⟩)) (some 37) (by kernel_rfl) (by kernel_rfl) (by kernel_rfl) ?_
          refine lin_now 1 (.agg (ints .u8 (rec.take 32)).toArray) (some 38) (by kernel_rfl) (by kernel_rfl) (exec_load_mid 35 (.tmp 6) (by kernel_rfl) q 0 (by kernel_rfl) (ints .u8 (rec.take 32)) _ B4.out.whole digUnder rfl KS2.out) ?_
          refine lin_now 2 (u) (some 39) (by kernel_rfl) (by kernel_rfl) (by kernel_rfl) ?_
          refine lin_call 3 41 #[.pointer (some ⟨vb, 0, none⟩), .agg (ints .u8 (rec.take 32)).toArray, u] (some 40) _ (by kernel_rfl) (by kernel_rfl) (by kernel_rfl) (hold_walk G vb d none kw mb es (rec.take 32) (rec.drop 32) u _ V4.out (fun k hk => Nat.lt_of_lt_of_le (HG.out k hk) (Nat.le_trans ST.out.size BW4.out.size)) (by omega) GK.out HNOT.out U4.out UN.out ⟨by rw [List.length_drop]; omega, bytes_drop RB.out 32⟩) ?_
          rintro e w5 ⟨kv5, rfl, hv5, hs5⟩
          have V5 := Lib.hid hv5
          have S5 := Lib.hid hs5
          refine ⟨_, rfl, ?_⟩
          refine lin_done 4 (by kernel_rfl) ?_
          clear hv5 hs5
          generalize hact : Act.put _ (some 40) _ = act
          simp only [Act.put, List.setIfInBounds_toArray, List.set_cons_succ, List.set_cons_zero] at hact
          subst hact
          go_wp2
          have SW : Step (vfoot vb mb kw) wr (vfoot vb mb kv5) w5 := (Step.of_below BW4.out (Nat.le_refl _)).trans S5.out
          exact ⟨⟨i + 1, kv5, by omega, by go_num, by rw [EN.out, show addEnt es rec = es ++ [(rec.take 32, rec.drop 32)] from if_pos ⟨ho1, ho2, HNOT.out⟩]; exact V5.out, PO.out.step SW, ST.out.trans SW⟩, by simp [intOf]; omega⟩
      · have hbad : rec.length < 32 ∨ 1032 < rec.length := by omega
        go_upto_region 3 with (fail)
        refine lin_begin (opsOf Tryd.f34 3) (by kernel_rfl) ?_
        refine lin_now 0 (.slice pa rec.length pc) (some 18) (by kernel_rfl) (by kernel_rfl) (by kernel_rfl) ?_
        refine lin_call 1 66 #[.slice pa rec.length pc] (some 19) _ (by kernel_rfl) (by kernel_rfl) (by kernel_rfl) (vunp_no pa rec.length pc _ hbad) ?_
        rintro e w1 ⟨rfl, hb1⟩
        have BW1 := Lib.hid hb1
        clear hb1
        refine ⟨_, rfl, ?_⟩
        refine lin_now 2 (.tuple #[.agg (ints .u8 (z32)).toArray, .slice none 0 0, .bool false]) (some 17) (by kernel_rfl) (by kernel_rfl) (by kernel_rfl) ?_
        refine lin_now 3 (.agg (ints .u8 (z32)).toArray) (some 20) (by kernel_rfl) (by kernel_rfl) (by kernel_rfl) ?_
        refine lin_now 4 (.slice none 0 0) (some 21) (by kernel_rfl) (by kernel_rfl) (by kernel_rfl) ?_
        refine lin_now 5 (.bool false) (some 22) (by kernel_rfl) (by kernel_rfl) (by kernel_rfl) ?_
        obtain ⟨q, hq⟩ : ∃ q, Hid (w1.heap.size = q) := ⟨_, rfl⟩
        have KS : Hid ((Tryd.prog.info? 35).map (·.size) = some (ints .u8 (z32)).length) := blk_goodK (z32_good).1
        refine lin_alloc 6 35 (ints .u8 z32) (q) (some 6) (by kernel_rfl) (by kernel_rfl) (by kernel_rfl) zeroDig hq ?_
        intro w2 b2 be2 hs2
        refine lin_put 7 35 (.tmp 6) (.tmp 20) (q) _ (ints .u8 z32) (ints .u8 (z32)) (by kernel_rfl) (by kernel_rfl) (by kernel_rfl) (by kernel_rfl) (by kernel_rfl) b2 ((by simp only [ints_length, (z32_good).1])) KS.out (ints_oneCell _ _) ?_
        intro w3 b3 u3
        refine lin_now 8 (.slice none 0 0) (some 7) (by kernel_rfl) (by kernel_rfl) (by kernel_rfl) ?_
        refine lin_now 9 (.bool false) (some 8) (by kernel_rfl) (by kernel_rfl) (by kernel_rfl) ?_
        refine lin_done 10 (by kernel_rfl) ?_
        have B3 := Lib.hid b3
        have BW13 : Hid (Below w1.heap.size w1 w3) := u3.below (by rw [hq.out]; exact be2) (by rw [hq.out]; exact Nat.le_refl _) (by rw [hs2.out, hq.out]; omega)
        have BW3 : Hid (Below wr.heap.size wr w3) := BW1.out.trans (BW13.out.mono BW1.out.size)
        clear b2 be2 hs2 b3 u3
        generalize hact : Act.put _ (some 8) _ = act
        simp only [Act.put, List.setIfInBounds_toArray, List.set_cons_succ, List.set_cons_zero] at hact
        subst hact
        obtain ⟨vs, v, m0, hlk, -⟩ := VW.out.asked (z32_good)
        have M0 := Lib.hid m0
        obtain ⟨bo, hbo⟩ : ∃ b, Hid ((valOf es (z32)).isSome = b) := ⟨_, rfl⟩
        rw [hbo.out] at hlk
        have HLK := Lib.hid hlk
        clear m0 hlk
        go_upto_region 4 with (fail)
        refine region_begin (opsOf Tryd.f34 4) (fun w => Blk w q 35 (ints .u8 (z32)) ∧ w.cell? ⟨vb, 3, none⟩ = some (.map (some mb)) ∧ Mp w mb (es.map (·.1)) vs) (by kernel_rfl) (by kernel_rfl) 11 (by kernel_rfl) ?_
        intro Q' hQN hN
        have X : Blk w3.drew q 35 (ints .u8 (z32)) ∧ w3.drew.cell? ⟨vb, 3, none⟩ = some (.map (some mb)) ∧ Mp w3.drew mb (es.map (·.1)) vs := ⟨B3.out.drew, (VW.out.below BW3.out.drew).c3, M0.out.same (BW3.out.drew.block mb M0.out.lt)⟩
        refine reg_now 0 (.pointer (some ⟨vb, 0, none⟩)) (some 24) hQN X (by kernel_rfl) (by kernel_rfl) (fun w => by kernel_rfl) ?_
        refine reg_now 1 (.pointer (some ⟨vb, 0, none⟩)) (some 25) hQN X (by kernel_rfl) (by kernel_rfl) (fun w => by kernel_rfl) ?_
        refine reg_now 2 (.pointer (some ⟨vb, 3, none⟩)) (some 26) hQN X (by kernel_rfl) (by kernel_rfl) (fun w => by kernel_rfl) ?_
        refine reg_nowIf 3 (.map (some mb)) (some 27) hQN X (by kernel_rfl) (by kernel_rfl) (fun w hw => exec_load_cell 71 (.tmp 26) (by kernel_rfl) vb 3 (by kernel_rfl) _ hw.2.1 _ Tryd.underlying71 rfl) ?_
        refine reg_nowIf 4 (.agg (ints .u8 (z32)).toArray) (some 28) hQN X (by kernel_rfl) (by kernel_rfl) (fun w hw => exec_load_mid 35 (.tmp 6) (by kernel_rfl) q 0 (by kernel_rfl) (ints .u8 (z32)) _ hw.1.whole digUnder rfl KS.out) ?_
        refine reg_nowIf 5 (.tuple #[v, .bool bo]) (some 29) hQN X (by kernel_rfl) (by kernel_rfl) (fun w hw => exec_of (Instr.lookup 71 (.map (some mb)) (kval (z32)) true) _ (by kernel_rfl) (HLK.out w hw.2.2)) ?_
        refine reg_now 6 (.tuple #[v, .bool bo]) (some 23) hQN X (by kernel_rfl) (by kernel_rfl) (fun w => by kernel_rfl) ?_
        refine reg_now 7 (v) (some 30) hQN X (by kernel_rfl) (by kernel_rfl) (fun w => by kernel_rfl) ?_
        refine reg_now 8 (.bool bo) (some 31) hQN X (by kernel_rfl) (by kernel_rfl) (fun w => by kernel_rfl) ?_
        refine reg_now 9 (v) (some 9) hQN X (by kernel_rfl) (by kernel_rfl) (fun w => by kernel_rfl) ?_
        refine reg_now 10 (.bool bo) (some 10) hQN X (by kernel_rfl) (by kernel_rfl) (fun w => by kernel_rfl) ?_
        refine reg_done (by kernel_rfl) (hN _ _ ?_)
        have BW4 : Hid (Below wr.heap.size wr w3.drew) := BW3.out.drew
        have B4 : Hid (Blk w3.drew q 35 (ints .u8 (z32))) := B3.out.drew
        have E4 : Hid (Below w1.heap.size w1 w3.drew) := BW13.out.drew
        generalize w3.drew = w4 at BW4 B4 E4 ⊢
        clear X hQN hN BW3 B3 BW13
        generalize hact : Act.put _ (some 10) _ = act
        simp only [Act.put, List.setIfInBounds_toArray, List.set_cons_succ, List.set_cons_zero] at hact
        subst hact
        go_wp2
        exact ⟨⟨i + 1, kw, by omega, by go_num, by rw [EN.out, show addEnt es rec = es from if_neg (fun hc => hok ⟨hc.1, hc.2.1⟩)]; exact VW.out.below BW4.out, PO.out.step (Step.of_below BW4.out (Nat.le_refl _)), ST.out.trans (Step.of_below BW4.out (Nat.le_refl _))⟩, by simp [intOf]; omega⟩
    · have r1 : ¬ (i : Int) < (n : Int) := by omega
      obtain rfl : i = n := by omega
      go_wp2
      go_end0
      exact ⟨rfl, kw, VW.out, ST.out⟩
end Go.Proofs.YtngpmilojfbpmaaDoor
