/- Package move: Open, where it does not fail. -/
import Derived.Test.YtndbpmkglddjjaaQGenT
import Derived.Test.YtndbpmkglddjjaaQMovJ
namespace Go.Proofs.Ytndbpmkglddjjaa
open Go Go.RowKit
set_option maxRecDepth 100000
/-- A slice of locals: names and types. -/
def LocsAt (F : List Nat) (w : World) (v : Value) (ls : List (List UInt8 × Tm)) : Prop := ∃ a c, v = .slice a ls.length c ∧ (0 < ls.length → ∃ pb po, a = some ⟨pb, po, none⟩ ∧ pb ∉ F ∧ pb < w.heap.size ∧ ∀ (i : Nat) (x : List UInt8 × Tm), ls[i]? = some x → ∃ cs, w.rangeAt pb (po + 6 * i) (strT x.1 :: cs) ∧ TmAt F w x.2 cs)
theorem LocsAt.step {F F' : List Nat} {w w' : World} {v : Value} {ls : List (List UInt8 × Tm)} (h : LocsAt F w v ls) (hs : Step F w F' w') : LocsAt F' w' v ls := by
  obtain ⟨a, c, h1, h2⟩ := h
  refine ⟨a, c, h1, fun hp => ?_⟩
  obtain ⟨pb, po, h3, h4, h5, h6⟩ := h2 hp
  refine ⟨pb, po, h3, hs.off h5 h4, Nat.lt_of_lt_of_le h5 hs.size, fun i x hx => ?_⟩
  obtain ⟨cs, h7, h8⟩ := h6 i x hx
  exact ⟨cs, hs.range h5 h4 h7, TmAt.step hs _ _ h8⟩
theorem LocsAt.sub {F G : List Nat} {w : World} {v : Value} {ls : List (List UInt8 × Tm)} (h : LocsAt F w v ls) (hG : ∀ k ∈ G, k ∈ F ∨ w.heap.size ≤ k) : LocsAt G w v ls := by
  obtain ⟨a, c, h1, h2⟩ := h
  refine ⟨a, c, h1, fun hp => ?_⟩
  obtain ⟨pb, po, h3, h4, h5, h6⟩ := h2 hp
  refine ⟨pb, po, h3, fun hc => (hG _ hc).elim h4 (fun h => absurd h5 (Nat.not_lt.2 h)), h5, fun i x hx => ?_⟩
  obtain ⟨cs, h7, h8⟩ := h6 i x hx
  exact ⟨cs, h7, TmAt.sub hG _ _ h8⟩
theorem LocsAt.below {F : List Nat} {w w' : World} {v : Value} {ls : List (List UInt8 × Tm)} (h : LocsAt F w v ls) (hb : Below w.heap.size w w') : LocsAt F w' v ls := h.step (Step.of_below hb (Nat.le_refl _))
theorem LocsAt.slice {F : List Nat} {w : World} {v : Value} {ls : List (List UInt8 × Tm)} (h : LocsAt F w v ls) : ∃ a c, v = .slice a ls.length c := by obtain ⟨a, c, h1, -⟩ := h; exact ⟨a, c, h1⟩
theorem LocsAt.get {F : List Nat} {w : World} {a : Option Addr} {n c : Nat} {ls : List (List UInt8 × Tm)} (h : LocsAt F w (.slice a n c) ls) (hn : ls.length = n) {i : Nat} (hi : i < n) : ∃ x pb po cs, ls[i]? = some x ∧ a = some ⟨pb, po, none⟩ ∧ pb ∉ F ∧ pb < w.heap.size ∧ w.rangeAt pb (po + 6 * i) (strT x.1 :: cs) ∧ TmAt F w x.2 cs := by
  obtain ⟨a', c', h1, h2⟩ := h
  cases h1
  obtain ⟨pb, po, h3, h4, h5, h6⟩ := h2 (by omega)
  obtain ⟨x, hx⟩ : ∃ x, ls[i]? = some x := ⟨_, List.getElem?_eq_getElem (by omega)⟩
  obtain ⟨cs, h7, h8⟩ := h6 i x hx
  exact ⟨x, pb, po, cs, hx, h3, h4, h5, h7, h8⟩
def LocCells (F : List Nat) (w : World) : List (List UInt8 × Tm) → List (List Value) → Prop
  | [], [] => True
  | x :: ls, d :: ds => (∃ cs, d = strT x.1 :: cs ∧ TmAt F w x.2 cs) ∧ LocCells F w ls ds
  | _, _ => False
theorem LocCells.snoc {F : List Nat} {w : World} {x : List UInt8 × Tm} {c : List Value} (ht : TmAt F w x.2 c) : ∀ {ts : List (List UInt8 × Tm)} {cs : List (List Value)}, LocCells F w ts cs → LocCells F w (ts ++ [x]) (cs ++ [strT x.1 :: c])
  | [], [], _ => ⟨⟨c, rfl, ht⟩, trivial⟩
  | _ :: _, _ :: _, h => ⟨h.1, LocCells.snoc ht h.2⟩
  | [], _ :: _, h => h.elim
  | _ :: _, [], h => h.elim
theorem LocCells.step {F F' : List Nat} {w w' : World} (hs : Step F w F' w') : ∀ {ts : List (List UInt8 × Tm)} {cs : List (List Value)}, LocCells F w ts cs → LocCells F' w' ts cs
  | [], [], _ => trivial
  | _ :: _, _ :: _, h => by
    obtain ⟨⟨cs, h1, h2⟩, h3⟩ := h
    exact ⟨⟨cs, h1, TmAt.step hs _ _ h2⟩, LocCells.step hs h3⟩
  | [], _ :: _, h => h.elim
  | _ :: _, [], h => h.elim
theorem LocCells.at {F : List Nat} {w : World} : ∀ {ts : List (List UInt8 × Tm)} {cs : List (List Value)} {i : Nat} {x : List UInt8 × Tm}, LocCells F w ts cs → ts[i]? = some x → ∃ c, TmAt F w x.2 c ∧ ∀ (j : Nat) (u : Value), (strT x.1 :: c)[j]? = some u → cs.flatten[6 * i + j]? = some u
  | [], [], i, t, _, hi => by simp at hi
  | x0 :: ts, c :: cs, 0, x, h, hi => by
    obtain rfl : x0 = x := by simpa using hi
    obtain ⟨⟨c', rfl, h2⟩, -⟩ := h
    refine ⟨c', h2, fun j u hu => ?_⟩
    have hj := (List.getElem?_eq_some_iff.1 hu).1
    rw [List.flatten_cons, List.getElem?_append_left (by omega)]
    simpa using hu
  | x0 :: ts, c :: cs, i + 1, x, h, hi => by
    obtain ⟨c', h1, h2⟩ := LocCells.at h.2 (i := i) (x := x) (by simpa using hi)
    refine ⟨c', h1, fun j u hu => ?_⟩
    obtain ⟨⟨c0, rfl, h3⟩, -⟩ := h
    have h4 := h3.len
    rw [List.flatten_cons, List.getElem?_append_right (by simp [h4]; omega), List.length_cons, h4, show 6 * (i + 1) + j - (5 + 1) = 6 * i + j by omega]
    exact h2 j u hu
  | [], _ :: _, _, _, h, _ => h.elim
  | _ :: _, [], _, _, h, _ => h.elim
theorem LocCells.locs {F : List Nat} {w : World} {ts : List (List UInt8 × Tm)} {ds : List (List Value)} {g n : Nat} {X : List Value} (h : LocCells F w ts ds) (hn : ts.length = n) (hb : Blk w g 71 X) (hX : X = ds.flatten) (hg : g ∉ F) : LocsAt F w (.slice (some ⟨g, 0, none⟩) n n) ts := by
  subst hn
  refine ⟨_, _, rfl, fun _ => ⟨g, 0, rfl, hg, hb.lt, fun i x hx => ?_⟩⟩
  obtain ⟨c, h1, h2⟩ := LocCells.at h hx
  exact ⟨c, fun j u hu => hb.cell (by rw [hX, Nat.zero_add]; exact h2 j u hu), h1⟩
theorem elemLoc : Try.prog.underlying 66 = some (.slice 71) := by kernel_rfl
theorem infoLoc : (Try.prog.info? 71).map (fun i => (i.zero, i.size, i.bytes)) = some (some (.agg #[strT [], .int .i64 0, .int .i64 0, strT [], .slice none 0 0, .slice none 0 0]), 6, 96) := by kernel_rfl
theorem l6Size {cs : List Value} (h : cs.length = 6) : (Try.prog.info? 71).map (·.size) = some cs.length := by rw [h]; kernel_rfl
theorem o6Size {cs : List Value} (h : cs.length = 6) : (Try.prog.info? 97).map (·.size) = some cs.length := by rw [h]; kernel_rfl
theorem run_at_loc (B off n cap m : Nat) (hm : m < n) (w : World) : (Instr.indexAt 66 (.slice (some ⟨B, off, none⟩) n cap) (.int .i64 (m : Int))).run Try.prog w = .ok (.pointer (some ⟨B, off + 6 * m, none⟩)) w := by
  rw [run_indexAt_slice w 66 _ _ _ _ _ (by kernel_rfl : Try.prog.underlying 66 = some (.slice (Try.prog.elem 66)))]
  have hz : (sizeOf (Try.prog.elem 66)).run Try.prog w = .ok 6 w := by kernel_rfl
  rw [if_pos (by omega), hz, Result.andThen_ok, Addr.add_mid, Int.toNat_natCast, Nat.mul_comm]
theorem lin_makeL {ops : Array Oper} {Q : Exit → Act → World → Prop} {a : Act} {w : World} (i : Nat) (n q : Nat) (kl kc : IntKind) (d : Option Tmp) (hi : (ops[i]?.isSome && Region.wanted (opAt ops i) (yielded ops a.tmps)) = true) (hd : (opAt ops i).dst = d)
    (he : execOp a.eval (opAt ops i) = (Instr.makeSlice 66 (.int kl (n : Int)) (.int kc (n : Int)) >>= fun x => pure (.value x))) (hn : n * 96 ≤ 140737488351232) (hq : Hid (w.heap.size = q))
    (h : ∀ w' X, X.length = 6 * n → Blk w' q 71 X → Below q w w' → Hid (w'.heap.size = q + 1) → wpFrom Try.prog ops Q (i + 1) (a.put d (.slice (some ⟨q, 0, none⟩) n n)) w') : wpFrom Try.prog ops Q i a w := by
  obtain ⟨i0, hi0, hz0, hz1, hz2⟩ := info_parts infoLoc
  obtain rfl := hq.out
  have hr := run_make w 66 71 i0 _ elemLoc hi0 hz0 kl kc (n : Int) (n : Int) (by omega) (by omega) (by rw [hz2]; omega) (by omega)
  rw [Int.toNat_natCast, hz1] at hr
  refine lin_value i _ d _ hi hd (exec_of _ _ he hr) (h _ (madeCells (Value.agg #[strT [], .int .i64 0, .int .i64 0, strT [], .slice none 0 0, .slice none 0 0]).cells (n * 6)).toList (by rw [Array.length_toList]; simp [madeCells]; omega) (Blk.new2 _ _ _ _ _ rfl (by simp)) ((Below.refl _ _).alloc (Nat.le_refl _) _) (by unfold Hid; simp))
theorem splice_take6 {X c : List Value} {i N : Nat} {D : List (List Value)} (hX : X.length = 6 * N) (hi : i < N) (hc : c.length = 6) (h : X.take (6 * i) = D.flatten) : (splice X (0 + 6 * i) c).length = 6 * N ∧ (splice X (0 + 6 * i) c).take (6 * (i + 1)) = (D ++ [c]).flatten := by
  have h1 := splice_take (X := X) (c := c) (n := 0 + 6 * i) (by omega)
  rw [hc, Nat.zero_add, h] at h1
  refine ⟨by rw [splice_length (by omega)]; exact hX, ?_⟩
  rw [Nat.zero_add, show 6 * (i + 1) = 6 * i + 6 by omega, h1]
  simp
theorem tms_low_all {F : List Nat} {w : World} {ts1 ts2 : List Tm} {v : Value} {n : Nat} (h : TmsAt F w (ts1 ++ ts2) v) (hn : ts1.length = n) : ∃ v', ∀ w', (Instr.sliceAt 23 v (some (.int .i64 (n : Int))) none none).run Try.prog w' = .ok v' w' ∧ TmsAt F w ts2 v' := by
  subst hn
  obtain ⟨v', h1, h2⟩ := tms_low h default
  refine ⟨v', fun w' => ⟨?_, h2⟩⟩
  obtain ⟨v2, h3, -⟩ := tms_low h w'
  have e : v2 = v' := by
    obtain ⟨a, c, rfl⟩ := h.slice
    have hz : ∀ w', (sizeOf (Try.prog.elem 23)).run Try.prog w' = .ok 5 w' := fun w' => by kernel_rfl
    rw [run_sliceAt_slice _ 23 _ _ _ _ elemTms, run_slice_l _ 23 _ _ c elemTms .i64 (ts1.length : Int) (by omega) (by simp; omega), hz] at h1 h3
    simp only [Result.andThen_ok, sliced] at h1 h3
    cases h1
    cases h3
    rfl
  rw [← e]
  exact h3
theorem tms_high_all {F : List Nat} {w : World} {ts1 ts2 : List Tm} {v : Value} {n : Nat} (h : TmsAt F w (ts1 ++ ts2) v) (hn : ts1.length = n) : ∃ v', ∀ w', (Instr.sliceAt 23 v none (some (.int .i64 (n : Int))) none).run Try.prog w' = .ok v' w' ∧ TmsAt F w ts1 v' := by
  subst hn
  obtain ⟨v', h1, h2⟩ := tms_high h default
  refine ⟨v', fun w' => ⟨?_, h2⟩⟩
  obtain ⟨v2, h3, -⟩ := tms_high h w'
  have e : v2 = v' := by
    obtain ⟨a, c, rfl⟩ := h.slice
    have hz : ∀ w', (sizeOf (Try.prog.elem 23)).run Try.prog w' = .ok 5 w' := fun w' => by kernel_rfl
    have hle : ts1.length ≤ c := by
      by_cases h0 : 0 < (ts1 ++ ts2).length
      · obtain ⟨x, pb, po, cs, -, -, -, -, -, hc, -, -⟩ := h.get rfl (i := 0) h0
        simp at hc
        omega
      · rw [Nat.not_lt, Nat.le_zero, List.length_append] at h0
        omega
    rw [run_sliceAt_slice _ 23 _ _ _ _ elemTms, run_slice_h _ 23 _ _ c elemTms .i64 (ts1.length : Int) (by omega) (by omega), hz] at h1 h3
    simp only [Result.andThen_ok, sliced] at h1 h3
    cases h1
    cases h3
    rfl
  rw [← e]
  exact h3
theorem valid_ok {F : List Nat} (t : Tm) (cs : List Value) (w : World) (ht : TmAt F w t cs) (hs : SmT t) (hv : rightP 4 1099511627776 t = true) : Calls Try.prog 52 #[.agg cs.toArray] w fun e w' => e = .returned (.agg cs.toArray) ∧ Below w.heap.size w w' :=
  (valid_walk t cs w ht hs (by have := (rightP_parts hv).2.1; omega)).mono fun e w' h => by
    rcases h with ⟨-, h1, h2⟩ | ⟨h1, -⟩
    · exact ⟨h1, h2⟩
    · rw [hv] at h1; cases h1
theorem exec_build_op {a : Act} {op : Oper} {F : List Nat} {w : World} {t : Tm} {k n : Int} {s : List UInt8} {dl da : Value} {g N : Nat} (h : TmAt F w t [.int .i64 k, .int .i64 n, strT s, dl, da]) (w' : World) (he : execOp a.eval op = (Instr.build 97 #[(0, .slice (some ⟨g, 0, none⟩) N N), (1, .agg [.int .i64 k, .int .i64 n, strT s, dl, da].toArray)] >>= fun x => pure (.value x))) : (execOp a.eval op).run Try.prog w' = .ok (.value (.agg ([.slice (some ⟨g, 0, none⟩) N N, .int .i64 k, .int .i64 n, strT s, dl, da] : List Value).toArray)) w' := by
  obtain ⟨lv, av, e, h1, h2⟩ := h.open
  obtain ⟨a1, c1, rfl⟩ := h1.slice
  obtain ⟨a2, c2, rfl⟩ := h2.slice
  simp only [List.cons.injEq, and_true] at e
  obtain ⟨-, -, -, rfl, rfl⟩ := e
  rw [he]
  kernel_rfl
theorem exec_build_loc {a : Act} {op : Oper} {F : List Nat} {w : World} {t : Tm} {k n : Int} {s nm : List UInt8} {dl da : Value} (h : TmAt F w t [.int .i64 k, .int .i64 n, strT s, dl, da]) (w' : World) (he : execOp a.eval op = (Instr.build 71 #[(0, strT nm), (1, .agg [.int .i64 k, .int .i64 n, strT s, dl, da].toArray)] >>= fun x => pure (.value x))) : (execOp a.eval op).run Try.prog w' = .ok (.value (.agg ([strT nm, .int .i64 k, .int .i64 n, strT s, dl, da] : List Value).toArray)) w' := by
  obtain ⟨lv, av, e, h1, h2⟩ := h.open
  obtain ⟨a1, c1, rfl⟩ := h1.slice
  obtain ⟨a2, c2, rfl⟩ := h2.slice
  simp only [List.cons.injEq, and_true] at e
  obtain ⟨-, -, -, rfl, rfl⟩ := e
  rw [he]
  kernel_rfl
set_option maxHeartbeats 16000000 in
theorem open1_walk {F : List Nat} (ns : List (List UInt8)) (M : Nat) (na : Option Addr) (nc : Nat) (k : Int) (t : Tm) (cs : List Value) (rs : List Tm) (rb : Tm) (pk pt pn : Nat) (w : World) (ht : TmAt F w t cs) (hs : SmT t) (hn : nodesT t ≤ 3000) (hv : rightP 4 1099511627776 t = true) (hk : k = 6 ∨ k = 7) (hM : ns.length = M) (hMb : M ≤ 1000000) (hcap : M ≤ nc) (hm : NmsAt w (.slice na M nc) ns) (hok : NamesOk ns) (hML : M ≤ (stripT k t).1.length) (hsr : SmT (stripT k t).2) (SMT : Hid ((stripT k t).1.length * 80 ≤ 140737488351232))
    (hrs : rs.length = M) (hr : ∀ (i : Nat) (x r : Tm), (stripT k t).1[i]? = some x → rs[i]? = some r → puO ((ns.take i).map conT) x = some r) (hfit : ∀ x ∈ (stripT k t).1, FitT x) (hfc : ∀ x ∈ ns.map conT, FitT x) (hrb : Hid (puO (ns.map conT) (bindT k (stripT k t).2 ((stripT k t).1.drop M)) = some rb)) (hfb : FitT (bindT k (stripT k t).2 ((stripT k t).1.drop M))) (hb0 : IntAt w pk k) (hb1 : Blk w pt 25 cs) (hb2 : Blk w pn 44 [.slice na M nc]) :
    Calls Try.prog 82 #[.pointer (some ⟨pk, 0, none⟩), .pointer (some ⟨pt, 0, none⟩), .pointer (some ⟨pn, 0, none⟩)] w fun e w' => ∃ lv cr, e = .returned (.agg (lv :: cr).toArray) ∧ LocsAt (List.range w.heap.size) w' lv (ns.zip rs) ∧ TmAt (List.range w.heap.size) w' rb cr ∧ Below w.heap.size w w' := by
  have C5 := Lib.hid ht.len
  have HT := Lib.hid ht
  have HN := Lib.hid hm
  have OK := Lib.hid hok
  have RR := Lib.hid hr
  have FT := Lib.hid hfit
  have FC := Lib.hid hfc
  have RB := Lib.hid hrb
  have FB := Lib.hid hfb
  obtain ⟨q, hq⟩ : ∃ q, Hid (w.heap.size = q) := ⟨_, rfl⟩
  rw [hq.out]
  have HQ : Hid (pk < q ∧ pt < q ∧ pn < q) := by have := hb0.lt; have := hb1.lt; have := hb2.lt; have := hq.out; rw [Hid]; omega
  have HB0 := Lib.hid hb0
  have HB1 := Lib.hid hb1
  have HB2 := Lib.hid hb2
  obtain ⟨types, hty⟩ : ∃ y, Hid ((stripT k t).1 = y) := ⟨_, rfl⟩
  obtain ⟨rest, hrest⟩ : ∃ y, Hid ((stripT k t).2 = y) := ⟨_, rfl⟩
  rw [hty.out] at hML RR FT SMT
  rw [hrest.out] at hsr
  rw [hty.out, hrest.out] at RB FB
  have STW := fun w' (h : TmAt F w' t cs) => strip_walk t cs k w' h hs (by omega)
  rw [hty.out, hrest.out] at STW
  obtain ⟨TN, hTN⟩ : ∃ y, Hid (types.length = y) := ⟨_, rfl⟩
  rw [hTN.out] at hML
  clear ht hm hok hr hfit hfc hrb hfb hb0 hb1 hb2
  go_enter Try.func82, Try.ntmps82
  go_upto_region 0 with (fail)
  refine lbeg (opsOf Try.f82 0) ?_
  refine lall 0 97 z6O q (some 3) hq ?_
  intro w1 bw1 bew1 hsw1
  refine ldn 1 ?_
  generalize hact : Act.put _ (some 3) _ = act
  simp only [Act.put, sA, sC, sZ] at hact
  subst hact
  have h3 := HQ.out
  have BR : Hid (Blk w1 q 97 z6O) := bw1
  have BE : Hid (Below q w w1) := bew1
  have S1 : Hid (q + 1 ≤ w1.heap.size) := by have := hsw1.out; rw [Hid]; omega
  have K0 : Hid (IntAt w1 pk k) := HB0.out.below BE.out h3.1
  have K1 : Hid (Blk w1 pt 25 cs) := HB1.out.below BE.out h3.2.1
  have K2 : Hid (Blk w1 pn 44 [.slice na M nc]) := HB2.out.below BE.out h3.2.2
  clear bw1 bew1 hsw1 HB0 HB1 HB2
  have TW := takes_walk k w1
  rw [decide_eq_true hk] at TW
  go_upto_region 1 with (fail)
  refine lbeg (opsOf Try.f82 1) ?_
  refine lcl 0 (.int .i64 k) (some 10) 3 0 (pk) 0 (K0.out.cell rfl) Try.underlying3 ?_
  refine lcal 1 83 #[.int .i64 k] (some 11) _ (TW) ?_
  rintro e w' ⟨rfl, hw'⟩
  obtain rfl := hw'.symm
  refine ⟨_, rfl, ?_⟩
  refine lcal 2 51 #[.bool true, .int .i64 10] (some 12) _ (need_yes 10 w1) ?_
  rintro e w' ⟨rfl, hw'⟩
  obtain rfl := hw'.symm
  refine ⟨_, rfl, ?_⟩
  refine ldn 3 ?_
  generalize hact : Act.put _ (some 12) _ = act
  simp only [Act.put, sA, sC, sZ] at hact
  subst hact
  go_upto_region 2 with (fail)
  refine region_begin (opsOf Try.f82 2) (fun W => Below w1.heap.size w1 W) (by kernel_rfl) (by kernel_rfl) 10 (by kernel_rfl) ?_
  intro Q' hQN hN
  have HS : Below w1.heap.size w1 w1.drew := (Below.refl _ _).drew
  have FIN : ∀ (b : Nat) (v : Value) (cr : List Value) (wE : World), Below w1.heap.size w1 wE → Hid (w1.heap.size ≤ b) → Blk wE b 25 cr → TmsAt (List.range (q + 1) ++ [b]) wE types v → TmAt (List.range (q + 1) ++ [b]) wE rest cr → Q' .normal { tmps := #[.pointer (some ⟨pk, 0, none⟩), .pointer (some ⟨pt, 0, none⟩), .pointer (some ⟨pn, 0, none⟩), .pointer (some ⟨q, 0, none⟩), v, .pointer (some ⟨b, 0, none⟩), undef, undef, undef, undef, .int .i64 k, .bool true, .tuple #[], .tuple #[v, .agg cr.toArray], .agg cs.toArray, .agg cs.toArray, .int .i64 k, .tuple #[v, .agg cr.toArray], v, .agg cr.toArray, undef, undef, undef, undef, undef, undef, undef, undef, undef, undef, undef, undef, undef, undef, undef, undef, undef, undef, undef, undef, undef, undef, undef, undef, undef, undef, undef, undef, undef, undef, undef, undef, undef, undef, undef, undef, undef, undef, undef, undef, undef, undef, undef, undef], defers := [] } wE := by
    intro b v cr w2 HE hbb BB TV TC
    apply hN
    clear hQN hN HS Q'
    obtain ⟨ta, tc, rfl⟩ := TV.slice
    rw [hTN.out] at TV ⊢
    have z1 := S1.out
    have z2 := hbb.out
    have z3 := h3
    have CR5 := Lib.hid TC.len
    have CR1 := Lib.hid TC.one
    have TVB := Lib.hid TV
    have TVH : Hid (TmsAt (List.range (q + 1)) w2 types (.slice ta TN tc)) := TmsAt.sub (fun k hk => .inl (by simp at hk ⊢; omega)) _ _ TV
    have TCH := Lib.hid TC
    have B5 := Lib.hid BB
    have K02 : Hid (IntAt w2 pk k) := K0.out.below HE (by omega)
    have K22 : Hid (Blk w2 pn 44 [.slice na M nc]) := K2.out.below HE (by omega)
    have BR2 : Hid (Blk w2 q 97 z6O) := BR.out.below HE (by omega)
    have BE2 : Hid (Below q w w2) := BE.out.trans (HE.mono (by omega))
    have S2 : Hid (q + 1 ≤ b ∧ b < w2.heap.size) := ⟨by omega, BB.lt⟩
    clear K0 K1 K2 BR BE S1 HE hbb BB TV TC TW STW
    go_upto_region 3 with (fail)
    refine lbeg (opsOf Try.f82 3) ?_
    refine lcl 0 (.slice na M nc) (some 20) 44 2 (pn) 0 (K22.out.cell rfl) Try.underlying44 ?_
    refine lnow 1 (.int .i64 (M : Int)) (some 21) ?_
    refine lnow 2 (.slice ta TN tc) (some 22) ?_
    refine lnow 3 (.int .i64 (TN : Int)) (some 23) ?_
    refine lnow 4 (.bool (decide ((M : Int) ≤ (TN : Int)))) (some 24) ?_
    rw [show decide ((M : Int) ≤ (TN : Int)) = true from decide_eq_true (by omega)]
    refine lcal 5 51 #[.bool true, .int .i64 12] (some 25) _ (need_yes 12 w2) ?_
    rintro e w' ⟨rfl, hw'⟩
    obtain rfl := hw'.symm
    refine ⟨_, rfl, ?_⟩
    refine ldn 6 ?_
    generalize hact : Act.put _ (some 25) _ = act
    simp only [Act.put, sA, sC, sZ] at hact
    subst hact
    have hsplit : types = types.take M ++ types.drop M := (List.take_append_drop M types).symm
    have htl : (types.take M).length = M := by rw [List.length_take]; have := hTN.out; omega
    go_upto_region 4 with (fail)
    refine region_begin (opsOf Try.f82 4) (fun W => IntAt W pk k ∧ Blk W pn 44 [.slice na M nc]) (by kernel_rfl) (by kernel_rfl) 8 (by kernel_rfl) ?_
    intro Q' hQN hN
    have HS : IntAt w2.drew pk k ∧ Blk w2.drew pn 44 [.slice na M nc] := ⟨K02.out, K22.out⟩
    refine reg_nowIf 0 (.int .i64 k) (some 26) hQN HS (by kernel_rfl) (by kernel_rfl) (fun w' hw => exec_load_cell 3 (.tmp 0) (by kernel_rfl) pk 0 (by kernel_rfl) _ (hw.1.cell rfl) _ Try.underlying3 rfl) ?_
    refine reg_now 2 (.slice ta TN tc) (some 28) hQN HS (by kernel_rfl) (by kernel_rfl) (fun w => by kernel_rfl) ?_
    refine reg_nowIf 3 (.slice na M nc) (some 29) hQN HS (by kernel_rfl) (by kernel_rfl) (fun w' hw => exec_load_cell 44 (.tmp 2) (by kernel_rfl) pn 0 (by kernel_rfl) _ (hw.2.cell rfl) _ Try.underlying44 rfl) ?_
    refine reg_now 4 (.int .i64 (M : Int)) (some 30) hQN HS (by kernel_rfl) (by kernel_rfl) (fun w => by kernel_rfl) ?_
    have TVd : TmsAt (List.range (q + 1)) w2.drew (types.take M ++ types.drop M) (.slice ta TN tc) := by rw [← hsplit]; exact TVH.out.below (Below.refl _ _).drew
    obtain ⟨vd, hvr⟩ := tms_low_all TVd htl
    have VR := fun w' => (hvr w').1
    have VT := Lib.hid (hvr w2).2
    clear hvr TVd
    refine reg_now 5 (vd) (some 31) hQN HS (by kernel_rfl) (by kernel_rfl) (fun w' => exec_of _ _ (by kernel_rfl) (VR w')) ?_
    have CRL : Blk w2.drew b 25 cr := B5.out
    refine reg_value 1 (.agg cr.toArray) (some 27) w2.drew (by kernel_rfl) (by kernel_rfl) (exec_load_mid 25 (.tmp 5) (by kernel_rfl) b 0 (by kernel_rfl) cr _ CRL.whole Try.underlying25 rfl (t5Size CR5.out)) HS ?_
    have BWK := bind_walk (F := List.range (q + 1)) k rest (types.drop M) cr vd w2.drew (TmAt.sub (fun k hk => .inl (by simp at hk ⊢; omega)) _ _ (TCH.out.below (Below.refl _ _).drew)) hsr VT.out (SmTs.of fun x hx => (FT.out x (List.mem_of_mem_drop hx)).1) (by rw [List.length_drop]; have := hTN.out; have := SMT.out; omega)
    refine reg_call 6 15 #[.int .i64 k, .agg cr.toArray, vd] (some 32) _ (by kernel_rfl) (by kernel_rfl) (by kernel_rfl) (BWK) ?_
    rintro e w3 ⟨cb, rfl, hcb, hb3⟩
    have HS3 : IntAt w3 pk k ∧ Blk w3 pn 44 [.slice na M nc] := ⟨HS.1.below hb3 HS.1.lt, HS.2.below hb3 HS.2.lt⟩
    refine ⟨_, rfl, HS3, ?_⟩
    have CB5 := Lib.hid hcb.len
    have CB1 := Lib.hid hcb.one
    have b3 : Blk w3 b 25 cr := CRL.below hb3 CRL.lt
    have z4 := S2.out
    have z5 := hb3.size
    have z6 : w2.drew.heap.size = w2.heap.size := rfl
    refine reg_putT 7 25 (.tmp 5) (.tmp 32) b 25 cr cb (by kernel_rfl) (by kernel_rfl) (by kernel_rfl) (by kernel_rfl) (by kernel_rfl) b3 (CB5.out.trans CR5.out.symm) (t5Size CB5.out) (by simpa using CB1.out) ?_
    intro w4 bw4 uw4
    refine ⟨⟨uw4.blk HS3.1 (by omega), uw4.blk HS3.2 (by omega)⟩, ?_⟩
    refine reg_done (by kernel_rfl) (hN _ _ ?_)
    generalize hact : Act.put _ none _ = act
    simp only [Act.put, sA, sC, sZ] at hact
    subst hact
    have hb23 : Below w2.heap.size w2 w3 := ((Below.refl _ w2).drew).trans hb3
    have K04 : Hid (IntAt w4 pk k) := uw4.blk HS3.1 (by omega)
    have K24 : Hid (Blk w4 pn 44 [.slice na M nc]) := uw4.blk HS3.2 (by omega)
    have B4 : Hid (Blk w4 b 25 cb) := bw4
    have BR4 : Hid (Blk w4 q 97 z6O) := uw4.blk (BR2.out.below hb23 BR2.out.lt) (by omega)
    have BE4 : Hid (Below q w w4) := uw4.below (BE2.out.trans (hb23.mono (by omega))) (by omega) (by omega)
    have TB4 : Hid (TmAt (List.range (q + 1) ++ [b]) w4 (bindT k rest (types.drop M)) cb) := TmAt.step (Step.of_upd uw4 (by simp)) _ _ (TmAt.sub (fun k hk => .inl (by simp at hk ⊢; omega)) _ _ hcb)
    have TV4 : Hid (TmsAt (List.range (q + 1) ++ [b]) w4 types (.slice ta TN tc)) := TmsAt.step (Step.of_upd uw4 (by simp)) _ _ ((TVB.out).below hb23)
    have S4 : Hid (q + 1 ≤ b ∧ b < w4.heap.size) := ⟨z4.1, bw4.lt⟩
    clear hQN hN HS HS3 hcb hb3 b3 bw4 uw4 CRL VT VR K02 K22 B5 BR2 BE2 TVH TCH S2 hb23 TVB BWK z4 z5 z6
    have NM4 : Hid (NmsAt w4 (.slice na M nc) ns) := HN.out.below (by rw [hq.out]; exact BE4.out)
    go_upto_region 5 with (fail)
    refine lbeg (opsOf Try.f82 5) ?_
    refine lcl 0 (.slice na M nc) (some 33) 44 2 (pn) 0 (K24.out.cell rfl) Try.underlying44 ?_
    refine lcal 1 84 #[.slice na M nc] (some 34) _ (consts_walk9 ns M na nc w4 hM (by omega) hcap NM4.out OK.out) ?_
    rintro e w5 ⟨cv, rfl, hcv, hb5⟩
    refine ⟨_, rfl, ?_⟩
    refine lnow 2 (cv) (some 6) ?_
    refine ldn 3 ?_
    generalize hact : Act.put _ (some 6) _ = act
    simp only [Act.put, sA, sC, sZ] at hact
    subst hact
    obtain ⟨ca, cc, rfl⟩ := hcv.slice
    have hcl : (ns.map conT).length = M := by rw [List.length_map]; exact hM
    rw [hcl] at hcv ⊢
    have z4 := S4.out
    have z5 := hb5.size
    have K25 : Hid (Blk w5 pn 44 [.slice na M nc]) := K24.out.below hb5 K24.out.lt
    have B5 : Hid (Blk w5 b 25 cb) := B4.out.below hb5 B4.out.lt
    have BR5 : Hid (Blk w5 q 97 z6O) := BR4.out.below hb5 BR4.out.lt
    have BE5 : Hid (Below q w w5) := BE4.out.trans (hb5.mono (by omega))
    have TB5 := Lib.hid (TB4.out.below hb5)
    have TV5 := Lib.hid (TV4.out.below hb5)
    have TC5 : Hid (TmsAt (List.range (q + 1) ++ [b]) w5 (ns.map conT) (.slice ca M cc)) := TmsAt.sub (fun k hk => .inl (by simp at hk ⊢; omega)) _ _ hcv
    have S5 : Hid (q + 1 ≤ b ∧ b < w5.heap.size) := ⟨z4.1, by omega⟩
    clear hcv hb5 K04 K24 B4 BR4 BE4 TB4 TV4 S4 NM4 z5
    obtain ⟨qr, hqr⟩ : ∃ y, Hid (w5.heap.size = y) := ⟨_, rfl⟩
    go_upto_region 6 with (fail)
    refine lbeg (opsOf Try.f82 6) ?_
    refine lcl 0 (.slice na M nc) (some 35) 44 2 (pn) 0 (K25.out.cell rfl) Try.underlying44 ?_
    refine lnow 1 (.int .i64 (M : Int)) (some 36) ?_
    refine lin_makeL 2 M qr .i64 .i64 (some 37) (by kernel_rfl) (by kernel_rfl) (by kernel_rfl) (by omega) hqr ?_
    intro w6 X hX bw6 bew6 hsw6
    refine lnow 3 (.slice (some ⟨qr, 0, none⟩) M M) (some 7) ?_
    refine ldn 4 ?_
    generalize hact : Act.put _ (some 7) _ = act
    simp only [Act.put, sA, sC, sZ] at hact
    subst hact
    have QR : Hid (b < qr) := by have := S5.out; have := hqr.out; rw [Hid]; omega
    have qro := QR.out
    have hbl : Below w5.heap.size w5 w6 := by rw [hqr.out]; exact bew6
    have K26 : Hid (Blk w6 pn 44 [.slice na M nc]) := K25.out.below hbl K25.out.lt
    have B6 : Hid (Blk w6 b 25 cb) := B5.out.below hbl B5.out.lt
    have BR6 : Hid (Blk w6 q 97 z6O) := BR5.out.below hbl BR5.out.lt
    have BE6 : Hid (Below q w w6) := BE5.out.trans (bew6.mono (by omega))
    have TB6 : Hid (TmAt (List.range (q + 1) ++ [b, qr]) w6 (bindT k rest (types.drop M)) cb) := (TmAt.sub (fun k hk => by have := hqr.out; simp at hk ⊢; omega) _ _ TB5.out).below hbl
    have TV6 : Hid (TmsAt (List.range (q + 1) ++ [b, qr]) w6 types (.slice ta TN tc)) := (TmsAt.sub (fun k hk => by have := hqr.out; simp at hk ⊢; omega) _ _ TV5.out).below hbl
    have TC6 : Hid (TmsAt (List.range (q + 1) ++ [b, qr]) w6 (ns.map conT) (.slice ca M cc)) := (TmsAt.sub (fun k hk => by have := hqr.out; simp at hk ⊢; omega) _ _ TC5.out).below hbl
    have LX := Lib.hid hX
    have BX := Lib.hid bw6
    have S6 : Hid (qr + 1 ≤ w6.heap.size) := by have := hsw6.out; rw [Hid]; omega
    clear hX bw6 bew6 hsw6 hbl K25 B5 BR5 BE5 TB5 TV5 TC5 S5 hqr
    go_upto_region 7 with (fail)
    refine lbeg (opsOf Try.f82 7) ?_
    refine lcl 0 (.slice na M nc) (some 38) 44 2 (pn) 0 (K26.out.cell rfl) Try.underlying44 ?_
    refine lnow 1 (.int .i64 (M : Int)) (some 39) ?_
    refine lnow 2 (.int .i64 0) (some 40) ?_
    refine ldn 3 ?_
    generalize hact : Act.put _ (some 40) _ = act
    simp only [Act.put, sA, sC, sZ] at hact
    subst hact
    have NM6 : Hid (NmsAt w6 (.slice na M nc) ns) := HN.out.below (by rw [hq.out]; exact BE6.out)
    go_wp2
    go_loopw [40] (fun iv wr => ∃ (i : Nat) (X : List Value) (D : List (List Value)), i ≤ M ∧ iv = .int .i64 (i : Int) ∧ Hid (X.length = 6 * M) ∧ Hid (X.take (6 * i) = D.flatten) ∧ Hid (LocCells (List.range (qr + 1)) wr ((ns.zip rs).take i) D) ∧ Hid (Blk wr qr 71 X) ∧ Hid (Upd qr w6 wr)) (fun iv _ => M - (intOf iv).toNat)
    case atStart => exact ⟨0, X, [], Nat.zero_le _, rfl, LX, by rw [Hid]; simp, by rw [Hid, List.take_zero]; trivial, BX, Upd.refl _ _⟩
    case round =>
      obtain ⟨i, X, D, hi, rfl, LX, TX, LC, BX, UU⟩ := hrel
      have ST : Step (List.range (q + 1) ++ [b, qr]) w6 (List.range (q + 1) ++ [b, qr]) wr := Step.of_upd UU.out (by simp)
      have s6 := S6.out
      have uz := UU.out.size
      have z1' := S6.out
      have ZL : Hid ((ns.zip rs).length = M) := by rw [Hid, List.length_zip, hM, hrs]; simp
      have B6r : Hid (Blk wr b 25 cb) := UU.out.blk B6.out (by omega)
      have TBr : Hid (TmAt (List.range (q + 1) ++ [b, qr]) wr (bindT k rest (types.drop M)) cb) := TmAt.step ST _ _ TB6.out
      have TVr : Hid (TmsAt (List.range (q + 1) ++ [b, qr]) wr types (.slice ta TN tc)) := TmsAt.step ST _ _ TV6.out
      have TCr : Hid (TmsAt (List.range (q + 1) ++ [b, qr]) wr (ns.map conT) (.slice ca M cc)) := TmsAt.step ST _ _ TC6.out
      have BRr : Hid (Blk wr q 97 z6O) := UU.out.blk BR6.out (by omega)
      have BEr : Hid (Below q w wr) := UU.out.below BE6.out (by omega) (by omega)
      clear ST
      by_cases hlt : i < M
      rotate_left
      · skip
        have rlt : ¬ (i : Int) < (M : Int) := by omega
        obtain rfl : i = M := by omega
        have hTX := TX.out
        rw [List.take_of_length_le (by have := LX.out; omega)] at hTX
        have hLC := LC.out
        rw [List.take_of_length_le (by have := ZL.out; omega)] at hLC
        have LOC : Hid (LocsAt (List.range qr) wr (.slice (some ⟨qr, 0, none⟩) i i) (ns.zip rs)) := (LocCells.locs (LocCells.step (F' := List.range qr) ⟨rfl, rfl, rfl, Nat.le_refl _, fun _ _ _ => rfl, fun k hk => .inl (by simp at hk ⊢; omega)⟩ hLC) ZL.out BX.out hTX (by simp))
        clear hLC hTX LC TX
        have CALL := replaced_walk (F := List.range (q + 1) ++ [b, qr]) (ns.map conT) i ca cc (bindT k rest (types.drop i)) cb wr TBr.out TCr.out FC.out hcl (by omega) FB.out.1 FB.out.2.1 FB.out.2.2
        rw [RB.out] at CALL
        go_upto_region 12 with (fail)
        refine lbeg (opsOf Try.f82 12) ?_
        refine lnow 0 (.slice (some ⟨qr, 0, none⟩) i i) (some 59) ?_
        refine lrl 1 (cb) (some 60) 25 5 (b) 0 (B6r.out).whole Try.underlying25 (t5Size CB5.out) ?_
        refine lnow 2 (.slice ca i cc) (some 61) ?_
        refine lcal 3 55 #[.agg cb.toArray, .slice ca i cc] (some 62) _ (CALL) ?_
        rintro e w9 ⟨hb9, cd, rfl, hcd⟩
        refine ⟨_, rfl, ?_⟩
        obtain ⟨dl, da, rfl, -, -⟩ := id hcd.open
        obtain ⟨ka, hka⟩ : ∃ y, Hid (rb.kind = y) := ⟨_, rfl⟩
        obtain ⟨na', hna⟩ : ∃ y, Hid (rb.n = y) := ⟨_, rfl⟩
        obtain ⟨sa', hsa⟩ : ∃ y, Hid (rb.name = y) := ⟨_, rfl⟩
        rw [hka.out, hna.out, hsa.out] at hcd ⊢
        have OD := hcd.one
        refine lin_value 4 (.agg ([.slice (some ⟨qr, 0, none⟩) i i, .int .i64 ka, .int .i64 na', strT sa', dl, da] : List Value).toArray) (some 63) w9 (by kernel_rfl) (by kernel_rfl) (exec_build_op hcd w9 (by kernel_rfl)) ?_
        have BR9 : Blk w9 q 97 z6O := BRr.out.below hb9 BRr.out.lt
        refine lin_put 5 97 (.tmp 3) (.tmp 63) (q) _ (z6O) ([.slice (some ⟨qr, 0, none⟩) i i, .int .i64 ka, .int .i64 na', strT sa', dl, da]) (by kernel_rfl) (by kernel_rfl) (by kernel_rfl) (by kernel_rfl) (by kernel_rfl) BR9 (by rfl) (o6Size (by rfl)) (by
          simp only [List.all_toArray, List.all_eq_true]
          intro u hu
          rcases List.mem_cons.1 hu with rfl | hu
          · rfl
          · exact OD u hu) ?_
        intro wz bwz uwz
        refine ldn 6 ?_
        generalize hact : Act.put _ none _ = act
        simp only [Act.put, sA, sC, sZ] at hact
        subst hact
        go_wp2
        refine bodyPost_ret (v := .agg ([.slice (some ⟨qr, 0, none⟩) i i, .int .i64 ka, .int .i64 na', strT sa', dl, da] : List Value).toArray) ?_ rfl ⟨_, _, rfl, ?_, ?_, ?_⟩
        · exact results_cell_row (g := q) (t := 97) (cs := ([.slice (some ⟨qr, 0, none⟩) i i, .int .i64 ka, .int .i64 na', strT sa', dl, da] : List Value).toArray) (fr := (0, 0)) Try.results82 _ _ _ rfl bwz Try.underlying97 rfl (by kernel_rfl)
        · exact ((LOC.out.below hb9).step (Step.of_upd uwz (List.mem_range.2 (by omega)))).sub (fun k hk => .inl (by simp at hk ⊢; omega))
        · exact (TmAt.step (Step.of_upd uwz (List.mem_range.2 (by omega))) _ _ hcd).range (by omega)
        · exact uwz.below (BEr.out.trans (hb9.mono (by omega))) (by omega) (by have := hb9.size; omega)
      have rlt : (i : Int) < (M : Int) := by omega
      have NMr : Hid (NmsAt wr (.slice na M nc) ns) := HN.out.below (by rw [hq.out]; exact BEr.out)
      obtain ⟨s, nb, no, hs1, hna, -, hc1⟩ := NMr.out.get hM hlt
      subst hna
      have HC := Lib.hid hc1
      obtain ⟨x, pb, po, cx, hx, hxm, hta, PNF, hpb, -, hrx, htx⟩ := TVr.out.get hTN.out (show i < TN by omega)
      subst hta
      have HRX := Lib.hid hrx
      have PBN : Hid (pb ≠ qr) := fun e => PNF (by rw [e]; simp)
      have X5 := Lib.hid htx.len
      have HTX := Lib.hid htx
      obtain ⟨r, hr1⟩ : ∃ r, rs[i]? = some r := ⟨_, List.getElem?_eq_getElem (by omega)⟩
      have RX := RR.out i x r hx hr1
      have FX := FT.out x hxm
      have hsplit2 : ns.map conT = (ns.take i).map conT ++ (ns.drop i).map conT := by rw [← List.map_append, List.take_append_drop]
      have htl2 : ((ns.take i).map conT).length = i := by rw [List.length_map, List.length_take]; omega
      obtain ⟨vh, hvh⟩ := tms_high_all (ts1 := (ns.take i).map conT) (ts2 := (ns.drop i).map conT) (by rw [← hsplit2]; exact TCr.out) htl2
      have VR := fun w' => (hvh w').1
      have VT := Lib.hid (hvh wr).2
      have ZX : Hid ((ns.zip rs).take (i + 1) = (ns.zip rs).take i ++ [(s, r)]) := by rw [Hid, List.take_add_one, (List.getElem?_zip_eq_some (z := (s, r))).2 ⟨hs1, hr1⟩]; rfl
      obtain ⟨va, vc, rfl⟩ := VT.out.slice
      rw [htl2] at VR VT
      have CALL := fun w' (h1 : TmAt (List.range (q + 1) ++ [b, qr]) w' x cx) (h2 : TmsAt (List.range (q + 1) ++ [b, qr]) w' ((ns.take i).map conT) (.slice va i vc)) => replaced_walk (F := List.range (q + 1) ++ [b, qr]) ((ns.take i).map conT) i va vc x cx w' h1 h2 (fun y hy => FC.out y (by rw [hsplit2]; exact List.mem_append_left _ hy)) htl2 (by omega) FX.1 FX.2.1 FX.2.2
      rw [RX] at CALL
      clear hs1 hc1 hx hxm hpb hrx htx hr1 RX FX hsplit2 hvh NMr
      go_upto_region 9 with (fail)
      refine lbeg (opsOf Try.f82 9) ?_
      refine lnow 0 (.int .i64 (i : Int)) (some 42) ?_
      refine lix 1 (.pointer (some ⟨nb, no + i, none⟩)) (some 43) 44 38 40 (run_at_str nb no M nc i hlt _) ?_
      refine lcl 2 (strT s) (some 44) 9 43 nb (no + i) HC.out Try.underlying9 ?_
      refine lnow 3 (.int .i64 (i : Int)) (some 8) ?_
      refine lnow 4 (strT s) (some 9) ?_
      refine ldn 5 ?_
      generalize hact : Act.put _ (some 9) _ = act
      simp only [Act.put, sA, sC, sZ] at hact
      subst hact
      go_upto_region 10 with (fail)
      refine region_begin (opsOf Try.f82 10) (fun W => W.rangeAt pb (po + 5 * i) cx) (by kernel_rfl) (by kernel_rfl) 14 (by kernel_rfl) ?_
      intro Q' hQN hN
      have HS : wr.drew.rangeAt pb (po + 5 * i) cx := HRX.out
      refine reg_now 0 (.slice (some ⟨qr, 0, none⟩) M M) (some 45) hQN HS (by kernel_rfl) (by kernel_rfl) (fun w => by kernel_rfl) ?_
      refine reg_now 1 (.int .i64 (i : Int)) (some 46) hQN HS (by kernel_rfl) (by kernel_rfl) (fun w => by kernel_rfl) ?_
      refine reg_now 2 (strT s) (some 47) hQN HS (by kernel_rfl) (by kernel_rfl) (fun w => by kernel_rfl) ?_
      refine reg_now 3 (.slice (some ⟨pb, po, none⟩) TN tc) (some 48) hQN HS (by kernel_rfl) (by kernel_rfl) (fun w => by kernel_rfl) ?_
      refine reg_now 4 (.int .i64 (i : Int)) (some 49) hQN HS (by kernel_rfl) (by kernel_rfl) (fun w => by kernel_rfl) ?_
      refine reg_now 5 (.pointer (some ⟨pb, po + 5 * i, none⟩)) (some 50) hQN HS (by kernel_rfl) (by kernel_rfl) (fun w' => exec_indexAt 23 (.tmp 48) (.tmp 49) (by kernel_rfl) _ _ _ (by kernel_rfl) (by kernel_rfl) (run_at_tm pb po TN tc i (by omega) w')) ?_
      refine reg_nowIf 6 (.agg cx.toArray) (some 51) hQN HS (by kernel_rfl) (by kernel_rfl) (fun w' hw => exec_load_mid 25 (.tmp 50) (by kernel_rfl) pb (po + 5 * i) (by kernel_rfl) cx _ hw Try.underlying25 rfl (t5Size X5.out)) ?_
      refine reg_now 7 (.slice ca M cc) (some 52) hQN HS (by kernel_rfl) (by kernel_rfl) (fun w => by kernel_rfl) ?_
      refine reg_now 8 (.int .i64 (i : Int)) (some 53) hQN HS (by kernel_rfl) (by kernel_rfl) (fun w => by kernel_rfl) ?_
      refine reg_now 9 (.slice va i vc) (some 54) hQN HS (by kernel_rfl) (by kernel_rfl) (fun w' => exec_of _ _ (by kernel_rfl) (VR w')) ?_
      refine reg_call 10 55 #[.agg cx.toArray, .slice va i vc] (some 55) _ (by kernel_rfl) (by kernel_rfl) (by kernel_rfl) (CALL wr.drew (HTX.out.below (Below.refl _ _).drew) (VT.out.below (Below.refl _ _).drew)) ?_
      rintro e w9 ⟨hb9, cd, rfl, hcd⟩
      have HS9 : w9.rangeAt pb (po + 5 * i) cx := fun j u hu => (hb9.cell (p := ⟨pb, po + 5 * i + j, none⟩) (block_lt_of_cell (HS j u hu))).trans (HS j u hu)
      refine ⟨_, rfl, HS9, ?_⟩
      obtain ⟨dl, da, rfl, -, -⟩ := id hcd.open
      obtain ⟨ka, hka⟩ : ∃ y, Hid (r.kind = y) := ⟨_, rfl⟩
      obtain ⟨na', hna⟩ : ∃ y, Hid (r.n = y) := ⟨_, rfl⟩
      obtain ⟨sa', hsa⟩ : ∃ y, Hid (r.name = y) := ⟨_, rfl⟩
      rw [hka.out, hna.out, hsa.out] at hcd ⊢
      have OD := hcd.one
      refine reg_value 11 (.agg ([strT s, .int .i64 ka, .int .i64 na', strT sa', dl, da] : List Value).toArray) (some 56) w9 (by kernel_rfl) (by kernel_rfl) (exec_build_loc hcd w9 (by kernel_rfl)) HS9 ?_
      refine reg_now 12 (.pointer (some ⟨qr, 0 + 6 * i, none⟩)) (some 57) hQN HS9 (by kernel_rfl) (by kernel_rfl) (fun w' => exec_indexAt 66 (.tmp 45) (.tmp 46) (by kernel_rfl) _ _ _ (by kernel_rfl) (by kernel_rfl) (run_at_loc qr 0 M M i hlt w')) ?_
      have zq : qr < wr.drew.heap.size := Nat.lt_of_lt_of_le (show qr < w6.heap.size by omega) uz
      have BXd : Blk wr.drew qr 71 X := BX.out
      have BX9 : Blk w9 qr 71 X := BXd.below hb9 zq
      refine reg_putM 13 (0 + 6 * i) 71 (.tmp 57) (.tmp 56) qr 71 X [strT s, .int .i64 ka, .int .i64 na', strT sa', dl, da] (by kernel_rfl) (by kernel_rfl) (by kernel_rfl) (by kernel_rfl) (by kernel_rfl) BX9 (by have := LX.out; simp; omega) (l6Size (by rfl)) (by
        simp only [List.all_toArray, List.all_eq_true]
        intro u hu
        rcases List.mem_cons.1 hu with rfl | hu
        · rfl
        · exact OD u hu) ?_
      intro w10 bw10 uw10
      refine ⟨fun j u hu => (uw10.cell (p := ⟨pb, po + 5 * i + j, none⟩) (block_lt_of_cell (HS9 j u hu)) (by have := PBN.out; omega)).trans (HS9 j u hu), ?_⟩
      refine reg_done (by kernel_rfl) (hN _ _ ?_)
      generalize hact : Act.put _ none _ = act
      simp only [Act.put, sA, sC, sZ] at hact
      subst hact
      have SP := splice_take6 (c := [strT s, .int .i64 ka, .int .i64 na', strT sa', dl, da]) LX.out hlt rfl TX.out
      have zd : wr.drew.heap.size = wr.heap.size := rfl
      have z9 := hb9.size
      have NX := Lib.hid SP.1
      have NT := Lib.hid SP.2
      have NB : Hid (Blk w10 qr 71 (splice X (0 + 6 * i) [strT s, .int .i64 ka, .int .i64 na', strT sa', dl, da])) := bw10
      have NL : Hid (LocCells (List.range (qr + 1)) w10 ((ns.zip rs).take (i + 1)) (D ++ [[strT s, .int .i64 ka, .int .i64 na', strT sa', dl, da]])) := by
        rw [Hid, ZX.out]
        refine LocCells.snoc (x := (s, r)) (TmAt.step (Step.of_upd uw10 (List.mem_range.2 (by omega))) _ _ (hcd.range (by omega))) (LocCells.step (Step.of_upd uw10 (List.mem_range.2 (by omega))) (LocCells.step (Step.of_below (((Below.refl _ wr).drew).trans hb9) (Nat.le_refl _)) LC.out))
      have NU : Hid (Upd qr w6 w10) := UU.out.trans ⟨uw10.os.trans hb9.os, uw10.tape.trans hb9.tape, uw10.output.trans hb9.output, Nat.le_trans hb9.size uw10.size, fun j hj hne => (uw10.block j (by omega) hne).trans (hb9.block j hj)⟩
      clear hQN hN HS HS9 hcd hb9 bw10 uw10 BX9 BX UU LC LX TX SP B6r TBr TVr TCr BRr BEr CALL VR VT HC HRX HTX ZX OD
      go_wp2
      go_roundw
      case rel => exact ⟨i + 1, splice X (0 + 6 * i) [strT s, .int .i64 ka, .int .i64 na', strT sa', dl, da], D ++ [[strT s, .int .i64 ka, .int .i64 na', strT sa', dl, da]], by omega, by go_num, NX, NT, NL, NB, NU⟩
      case measure => simp [intOf]; omega
  refine reg_nowIf 0 (.agg (cs).toArray) (some 14) hQN HS (by kernel_rfl) (by kernel_rfl) (fun w' hw => exec_load_mid 25 (.tmp 1) (by kernel_rfl) (pt) 0 (by kernel_rfl) (cs) _ (K1.out.below hw K1.out.lt).whole Try.underlying25 rfl (t5Size C5.out)) ?_
  refine reg_nowIf 2 (.int .i64 k) (some 16) hQN HS (by kernel_rfl) (by kernel_rfl) (fun w' hw => exec_load_cell 3 (.tmp 0) (by kernel_rfl) pk 0 (by kernel_rfl) _ ((K0.out.below hw K0.out.lt).cell rfl) _ Try.underlying3 rfl) ?_
  refine reg_two 1 7 (by kernel_rfl) ?_ ?_
  · skip
    refine op_call 1 52 #[.agg cs.toArray] (some 15) _ (by kernel_rfl) (by kernel_rfl) (by kernel_rfl) (valid_ok t cs w1.drew (HT.out.step (Step.of_below (BE.out.trans (HS.mono (by have := S1.out; omega))) (by have := hq.out; omega))) hs hv) ?_
    rintro e u1 ⟨rfl, hbl⟩
    have HS : Below w1.heap.size w1 u1 := HS.trans (hbl.mono HS.size)
    refine ⟨_, rfl, HS, ?_⟩
    clear hbl
    refine reg_two 3 7 (by kernel_rfl) ?_ ?_
    · skip
      refine op_call 3 12 #[.agg cs.toArray, .int .i64 k] (some 17) _ (by kernel_rfl) (by kernel_rfl) (by kernel_rfl) (STW u1 (HT.out.step (Step.of_below (BE.out.trans (HS.mono (by have := S1.out; omega))) (by have := hq.out; omega)))) ?_
      rintro e u2 ⟨v, cr, rfl, hv1, hc1, hbl⟩
      have hz1 := HS.size
      have hz2 := S1.out
      have TV : Hid (TmsAt (List.range (q + 1)) u2 types v) := TmsAt.sub (fun k hk => .inl (by simp at hk ⊢; omega)) _ _ hv1
      have TC : Hid (TmAt (List.range (q + 1)) u2 rest cr) := TmAt.sub (fun k hk => .inl (by simp at hk ⊢; omega)) _ _ hc1
      have HS : Below w1.heap.size w1 u2 := HS.trans (hbl.mono HS.size)
      refine ⟨_, rfl, HS, ?_⟩
      clear hbl hv1 hc1 hz1 hz2
      refine reg_now 4 (.tuple #[v, .agg cr.toArray]) (some 13) hQN HS (by kernel_rfl) (by kernel_rfl) (fun w => by kernel_rfl) ?_
      refine reg_now 5 (v) (some 18) hQN HS (by kernel_rfl) (by kernel_rfl) (fun w => by kernel_rfl) ?_
      refine reg_now 6 (.agg cr.toArray) (some 19) hQN HS (by kernel_rfl) (by kernel_rfl) (fun w => by kernel_rfl) ?_
      refine wpAnyH_one (i := 7) (beq_iff_eq.1 (by kernel_rfl)) ?_
      obtain ⟨b, hbN⟩ : ∃ b, Hid (u2.heap.size = b) := ⟨_, rfl⟩
      refine op_allocT 7 b (some 5) (by kernel_rfl) (by kernel_rfl) (by kernel_rfl) hbN ?_
      intro u3 BA0 hbl
      have BB : Hid (w1.heap.size ≤ b) := by have := HS.size; have := hbN.out; rw [Hid]; omega
      have HS : Below w1.heap.size w1 u3 := HS.trans (hbl.mono HS.size)
      have BA := Lib.hid BA0
      have TV : Hid (TmsAt (List.range (q + 1) ++ [b]) u3 types v) := (TmsAt.sub (fun k hk => by have := hbN.out; simp at hk ⊢; omega) _ _ TV.out).below hbl
      have TC : Hid (TmAt (List.range (q + 1) ++ [b]) u3 rest cr) := (TmAt.sub (fun k hk => by have := hbN.out; simp at hk ⊢; omega) _ _ TC.out).below hbl
      clear BA0 hbl
      refine ⟨HS, ?_⟩
      have CR5 := TC.out.len
      have CR1 := TC.out.one
      refine wpAnyH_one (i := 8) (beq_iff_eq.1 (by kernel_rfl)) ?_
      refine op_value 8 v (some 4) _ (by kernel_rfl) (by kernel_rfl) (by kernel_rfl) ⟨HS, ?_⟩
      refine reg_putT 9 25 (.tmp 5) (.tmp 19) b 25 z5T cr (by kernel_rfl) (by kernel_rfl) (by kernel_rfl) (by kernel_rfl) (by kernel_rfl) BA.out (CR5.trans (rfl : z5T.length = 5).symm) (t5Size CR5) (by simpa using CR1) ?_
      intro vE bE uE
      have HE : Below w1.heap.size w1 vE := uE.below HS BB.out (by have := HS.size; have := BA.out.lt; omega)
      refine ⟨HE, ?_⟩
      refine reg_done (by kernel_rfl) ?_
      generalize hact : Act.put _ none _ = act
      simp only [Act.put, sA, sC, sZ] at hact
      subst hact
      exact FIN b v cr vE HE BB bE (TmsAt.step (Step.of_upd uE (by simp : b ∈ List.range (q + 1) ++ [b])) _ _ TV.out) (TmAt.step (Step.of_upd uE (by simp : b ∈ List.range (q + 1) ++ [b])) _ _ TC.out)
    · skip
      obtain ⟨b, hbN⟩ : ∃ b, Hid (u1.heap.size = b) := ⟨_, rfl⟩
      refine op_allocT 7 b (some 5) (by kernel_rfl) (by kernel_rfl) (by kernel_rfl) hbN ?_
      intro u2 BA0 hbl
      have BB : Hid (w1.heap.size ≤ b) := by have := HS.size; have := hbN.out; rw [Hid]; omega
      have HS : Below w1.heap.size w1 u2 := HS.trans (hbl.mono HS.size)
      have BA := Lib.hid BA0
      clear BA0 hbl
      refine ⟨HS, ?_⟩
      refine wpAnyH_one (i := 3) (beq_iff_eq.1 (by kernel_rfl)) ?_
      refine op_call 3 12 #[.agg cs.toArray, .int .i64 k] (some 17) _ (by kernel_rfl) (by kernel_rfl) (by kernel_rfl) (STW u2 (HT.out.step (Step.of_below (BE.out.trans (HS.mono (by have := S1.out; omega))) (by have := hq.out; omega)))) ?_
      rintro e u3 ⟨v, cr, rfl, hv1, hc1, hbl⟩
      have hz1 := HS.size
      have hz2 := S1.out
      have bl := BA.out.lt
      have TV : Hid (TmsAt (List.range (q + 1) ++ [b]) u3 types v) := TmsAt.sub (fun k hk => .inl (by simp at hk ⊢; omega)) _ _ hv1
      have TC : Hid (TmAt (List.range (q + 1) ++ [b]) u3 rest cr) := TmAt.sub (fun k hk => .inl (by simp at hk ⊢; omega)) _ _ hc1
      have HS : Below w1.heap.size w1 u3 := HS.trans (hbl.mono HS.size)
      have BA := Lib.hid (BA.out.below hbl BA.out.lt)
      refine ⟨_, rfl, HS, ?_⟩
      clear hbl hv1 hc1 hz1 hz2
      refine reg_now 4 (.tuple #[v, .agg cr.toArray]) (some 13) hQN HS (by kernel_rfl) (by kernel_rfl) (fun w => by kernel_rfl) ?_
      refine reg_now 5 (v) (some 18) hQN HS (by kernel_rfl) (by kernel_rfl) (fun w => by kernel_rfl) ?_
      refine reg_now 6 (.agg cr.toArray) (some 19) hQN HS (by kernel_rfl) (by kernel_rfl) (fun w => by kernel_rfl) ?_
      have CR5 := TC.out.len
      have CR1 := TC.out.one
      refine wpAnyH_one (i := 8) (beq_iff_eq.1 (by kernel_rfl)) ?_
      refine op_value 8 v (some 4) _ (by kernel_rfl) (by kernel_rfl) (by kernel_rfl) ⟨HS, ?_⟩
      refine reg_putT 9 25 (.tmp 5) (.tmp 19) b 25 z5T cr (by kernel_rfl) (by kernel_rfl) (by kernel_rfl) (by kernel_rfl) (by kernel_rfl) BA.out (CR5.trans (rfl : z5T.length = 5).symm) (t5Size CR5) (by simpa using CR1) ?_
      intro vE bE uE
      have HE : Below w1.heap.size w1 vE := uE.below HS BB.out (by have := HS.size; have := BA.out.lt; omega)
      refine ⟨HE, ?_⟩
      refine reg_done (by kernel_rfl) ?_
      generalize hact : Act.put _ none _ = act
      simp only [Act.put, sA, sC, sZ] at hact
      subst hact
      exact FIN b v cr vE HE BB bE (TmsAt.step (Step.of_upd uE (by simp : b ∈ List.range (q + 1) ++ [b])) _ _ TV.out) (TmAt.step (Step.of_upd uE (by simp : b ∈ List.range (q + 1) ++ [b])) _ _ TC.out)
  · skip
    obtain ⟨b, hbN⟩ : ∃ b, Hid (w1.drew.heap.size = b) := ⟨_, rfl⟩
    refine op_allocT 7 b (some 5) (by kernel_rfl) (by kernel_rfl) (by kernel_rfl) hbN ?_
    intro u1 BA0 hbl
    have BB : Hid (w1.heap.size ≤ b) := by have := HS.size; have := hbN.out; rw [Hid]; omega
    have HS : Below w1.heap.size w1 u1 := HS.trans (hbl.mono HS.size)
    have BA := Lib.hid BA0
    clear BA0 hbl
    refine ⟨HS, ?_⟩
    refine wpAnyH_one (i := 1) (beq_iff_eq.1 (by kernel_rfl)) ?_
    refine op_call 1 52 #[.agg cs.toArray] (some 15) _ (by kernel_rfl) (by kernel_rfl) (by kernel_rfl) (valid_ok t cs u1 (HT.out.step (Step.of_below (BE.out.trans (HS.mono (by have := S1.out; omega))) (by have := hq.out; omega))) hs hv) ?_
    rintro e u2 ⟨rfl, hbl⟩
    have HS : Below w1.heap.size w1 u2 := HS.trans (hbl.mono HS.size)
    have BA := Lib.hid (BA.out.below hbl BA.out.lt)
    refine ⟨_, rfl, HS, ?_⟩
    clear hbl
    refine wpAnyH_one (i := 3) (beq_iff_eq.1 (by kernel_rfl)) ?_
    refine op_call 3 12 #[.agg cs.toArray, .int .i64 k] (some 17) _ (by kernel_rfl) (by kernel_rfl) (by kernel_rfl) (STW u2 (HT.out.step (Step.of_below (BE.out.trans (HS.mono (by have := S1.out; omega))) (by have := hq.out; omega)))) ?_
    rintro e u3 ⟨v, cr, rfl, hv1, hc1, hbl⟩
    have hz1 := HS.size
    have hz2 := S1.out
    have bl := BA.out.lt
    have TV : Hid (TmsAt (List.range (q + 1) ++ [b]) u3 types v) := TmsAt.sub (fun k hk => .inl (by simp at hk ⊢; omega)) _ _ hv1
    have TC : Hid (TmAt (List.range (q + 1) ++ [b]) u3 rest cr) := TmAt.sub (fun k hk => .inl (by simp at hk ⊢; omega)) _ _ hc1
    have HS : Below w1.heap.size w1 u3 := HS.trans (hbl.mono HS.size)
    have BA := Lib.hid (BA.out.below hbl BA.out.lt)
    refine ⟨_, rfl, HS, ?_⟩
    clear hbl hv1 hc1 hz1 hz2
    refine reg_now 4 (.tuple #[v, .agg cr.toArray]) (some 13) hQN HS (by kernel_rfl) (by kernel_rfl) (fun w => by kernel_rfl) ?_
    refine reg_now 5 (v) (some 18) hQN HS (by kernel_rfl) (by kernel_rfl) (fun w => by kernel_rfl) ?_
    refine reg_now 6 (.agg cr.toArray) (some 19) hQN HS (by kernel_rfl) (by kernel_rfl) (fun w => by kernel_rfl) ?_
    have CR5 := TC.out.len
    have CR1 := TC.out.one
    refine wpAnyH_one (i := 8) (beq_iff_eq.1 (by kernel_rfl)) ?_
    refine op_value 8 v (some 4) _ (by kernel_rfl) (by kernel_rfl) (by kernel_rfl) ⟨HS, ?_⟩
    refine reg_putT 9 25 (.tmp 5) (.tmp 19) b 25 z5T cr (by kernel_rfl) (by kernel_rfl) (by kernel_rfl) (by kernel_rfl) (by kernel_rfl) BA.out (CR5.trans (rfl : z5T.length = 5).symm) (t5Size CR5) (by simpa using CR1) ?_
    intro vE bE uE
    have HE : Below w1.heap.size w1 vE := uE.below HS BB.out (by have := HS.size; have := BA.out.lt; omega)
    refine ⟨HE, ?_⟩
    refine reg_done (by kernel_rfl) ?_
    generalize hact : Act.put _ none _ = act
    simp only [Act.put, sA, sC, sZ] at hact
    subst hact
    exact FIN b v cr vE HE BB bE (TmsAt.step (Step.of_upd uE (by simp : b ∈ List.range (q + 1) ++ [b])) _ _ TV.out) (TmAt.step (Step.of_upd uE (by simp : b ∈ List.range (q + 1) ++ [b])) _ _ TC.out)
end Go.Proofs.Ytndbpmkglddjjaa
