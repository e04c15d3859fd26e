import Derived.Test.YteohjbggicchgaaBGenT
import Derived.Test.YteohjbggicchgaaBCodX
import Derived.Test.YteohjbggicchgaaCodSh
namespace Go.Proofs.Yteohjbggicchgaa
open Go Go.RowKit
set_option maxRecDepth 100000
theorem bclone_walk (v : Value) (zs : List Int) (w : World) (h : BytesIn w v zs) (hl : zs.length ≤ 1000000000) : Calls Try.prog 75 #[v] w fun e w' => ∃ v', e = .returned v' ∧ RowB w.heap.size w' v' zs ∧ Below w.heap.size w w' := by
 obtain ⟨a, cap, rfl, hc, hp⟩ := h
 cases a with
 | none =>
  have h0 : zs = [] := by
   cases zs with
   | nil => rfl
   | cons z zs =>
    obtain ⟨pb, po, e, -⟩ := hp (by simp)
    cases e
  subst h0
  refine (Try.bytes_Clone_nil _ _ w).mono ?_
  rintro e w' ⟨rfl, hw⟩
  obtain rfl := hw.symm
  exact ⟨_, rfl, RowB.nil _ _, Below.refl _ _⟩
 | some ad =>
  refine (Try.bytes_Clone_at ad zs.length cap zs w rfl (by omega) (fun i hi => ?_)).mono ?_
  ·obtain ⟨pb, po, e, -, hr⟩ := hp (by omega)
   obtain rfl := Option.some.inj e
   rw [Addr.add_mid]
   refine hr i _ ?_
   unfold ints
   rw [List.getElem?_map, List.getElem?_eq_getElem hi]
   simp [List.getD, hi]
  ·rintro e w' ⟨v', rfl, hr, -, hb⟩
   exact ⟨v', rfl, hr, hb⟩
theorem infoDc : (Try.prog.info? 38).map (fun i => (i.zero, i.size, i.bytes)) = some (some (.agg zD.toArray), 15, 224) := by kernel_rfl
theorem elemDcs1 : Try.prog.underlying 26 = some (.slice 38) := by kernel_rfl
theorem lin_makeD {ops : Array Oper} {Q : Exit → Act → World → Prop} {a : Act} {w : World} (i : Nat) (n q : Nat) (kl kc : IntKind) (d : Option Tmp) (hi : (ops[i]?.isSome && Region.wanted (opAt ops i) (yielded ops a.tmps)) = true) (hd : (opAt ops i).dst = d)
    (he : execOp a.eval (opAt ops i) = (Instr.makeSlice 26 (.int kl (n : Int)) (.int kc (n : Int)) >>= fun x => pure (.value x))) (hn : n * 224 ≤ 140737488351232) (hq : Hid (w.heap.size = q))
    (h : ∀ w' X, X.length = 15 * n → Blk w' q 38 X → Below q w w' → Hid (w'.heap.size = q + 1) → wpFrom Try.prog ops Q (i + 1) (a.put d (.slice (some ⟨q, 0, none⟩) n n)) w') : wpFrom Try.prog ops Q i a w := by
  obtain ⟨i0, hi0, hz0, hz1, hz2⟩ := info_parts infoDc
  obtain rfl := hq.out
  have hr := run_make w 26 38 i0 _ elemDcs1 hi0 hz0 kl kc (n : Int) (n : Int) (by omega) (by omega) (by rw [hz2]; omega) (by omega)
  rw [Int.toNat_natCast, hz1] at hr
  refine lin_value i _ d _ hi hd (exec_of _ _ he hr) (h _ (madeCells (Value.agg zD.toArray).cells (n * 15)).toList (by rw [Array.length_toList]; simp [madeCells]; omega) (Blk.new2 _ _ _ _ _ rfl (by simp)) ((Below.refl _ _).alloc (Nat.le_refl _) _) (by unfold Hid; simp))
def DcCells (F : List Nat) (w : World) : List Dc → List (List Value) → Prop
 | [], [] => True
 | d :: ds, c :: cs => DcAt F w d c ∧ DcCells F w ds cs
 | _, _ => False
theorem DcCells.step {F F' : List Nat} {w w' : World} (hs : Step F w F' w') : ∀ {ds : List Dc} {cs : List (List Value)}, DcCells F w ds cs → DcCells F' w' ds cs
 | [], [], _ => trivial
 | _ :: _, _ :: _, h => ⟨h.1.step hs, DcCells.step hs h.2⟩
 | [], _ :: _, h => h.elim
 | _ :: _, [], h => h.elim
theorem DcCells.sub {F G : List Nat} {w : World} (hG : ∀ k ∈ G, k ∈ F ∨ w.heap.size ≤ k) : ∀ {ds : List Dc} {cs : List (List Value)}, DcCells F w ds cs → DcCells G w ds cs
 | [], [], _ => trivial
 | _ :: _, _ :: _, h => ⟨h.1.sub hG, DcCells.sub hG h.2⟩
 | [], _ :: _, h => h.elim
 | _ :: _, [], h => h.elim
theorem DcCells.snoc {F : List Nat} {w : World} {d : Dc} {c : List Value} (ht : DcAt F w d c) : ∀ {ds : List Dc} {cs : List (List Value)}, DcCells F w ds cs → DcCells F w (ds ++ [d]) (cs ++ [c])
 | [], [], _ => ⟨ht, trivial⟩
 | _ :: _, _ :: _, h => ⟨h.1, DcCells.snoc ht h.2⟩
 | [], _ :: _, h => h.elim
 | _ :: _, [], h => h.elim
theorem DcCells.at {F : List Nat} {w : World} : ∀ {ds : List Dc} {cs : List (List Value)} {i : Nat} {d : Dc}, DcCells F w ds cs → ds[i]? = some d → ∃ c, DcAt F w d c ∧ ∀ (j : Nat) (u : Value), c[j]? = some u → cs.flatten[15 * i + j]? = some u
 | [], _, _, _, _, h => by simp at h
 | x :: ds, [], _, _, h, _ => h.elim
 | x :: ds, c :: cs, 0, d, h, hd => by
  obtain rfl : x = d := by simpa using hd
  refine ⟨c, h.1, fun j u hu => ?_⟩
  have hj := (List.getElem?_eq_some_iff.1 hu).1
  rw [List.flatten_cons, List.getElem?_append_left (by omega)]
  simpa using hu
 | x :: ds, c :: cs, i + 1, d, h, hd => by
  obtain ⟨c', h1, h2⟩ := DcCells.at (i := i) h.2 (by simpa using hd)
  refine ⟨c', h1, fun j u hu => ?_⟩
  rw [List.flatten_cons, List.getElem?_append_right (by rw [h.1.len]; omega), h.1.len, show 15 * (i + 1) + j - 15 = 15 * i + j by omega]
  exact h2 j u hu
theorem DcCells.dcs {F : List Nat} {w : World} {ds : List Dc} {cs : List (List Value)} {g n : Nat} {X : List Value} (h : DcCells F w ds cs) (hn : ds.length = n) (hb : Blk w g 38 X) (hX : X = cs.flatten) (hg : g ∉ F) : DcsAt F w ds (.slice (some ⟨g, 0, none⟩) n n) := by
 subst hn
 refine ⟨_, _, rfl, Nat.le_refl _, fun _ => ⟨g, 0, rfl, hg, hb.lt, fun i d hi => ?_⟩⟩
 obtain ⟨c, h1, h2⟩ := DcCells.at h hi
 exact ⟨c, fun j u hu => hb.cell (by rw [hX, Nat.zero_add]; exact h2 j u hu), h1⟩
noncomputable def libQ (l : List Int) : Option (List Dc × List Int) := match libP l with
 | none => none
 | some ds => some (ds, [])
theorem libQ_a {l : List Int} (h : numP l = none) : libQ l = none := by unfold libQ libP; rw [h]
theorem libQ_b {l l1 : List Int} {n : Int} (h : numP l = some (n, l1)) (h2 : ¬ n ≤ 64) : libQ l = none := by
 unfold libQ libP
 rw [h]
 dsimp only
 rw [if_neg h2]
theorem libQ_c {l l1 : List Int} {n : Int} (h : numP l = some (n, l1)) (h2 : n ≤ 64) (h3 : timesP declP n.toNat l1 = none) : libQ l = none := by
 unfold libQ libP
 rw [h]
 dsimp only
 rw [if_pos h2, h3]
theorem libQ_d {l l1 r : List Int} {n : Int} {ds : List Dc} (h : numP l = some (n, l1)) (h2 : n ≤ 64) (h3 : timesP declP n.toNat l1 = some (ds, r)) (h4 : ¬ r = []) : libQ l = none := by
 unfold libQ libP
 rw [h]
 dsimp only
 rw [if_pos h2, h3]
 dsimp only
 rw [if_neg h4]
theorem libQ_y {l l1 : List Int} {n : Int} {ds : List Dc} (h : numP l = some (n, l1)) (h2 : n ≤ 64) (h3 : timesP declP n.toNat l1 = some (ds, [])) : libQ l = some (ds, []) := by
 unfold libQ libP
 rw [h]
 dsimp only
 rw [if_pos h2, h3]
 dsimp only
 rw [if_pos rfl]
theorem BytesLt.at {q : Nat} {w w' : World} {v : Value} {zs : List Int} (h : BytesLt w.heap.size w v zs) (hq : w.heap.size = q) (hb : Below q w w') : BytesLt q w' v zs := by
 subst hq
 exact h.keep (fun k hk _ => hb.block k hk) hb.size
def RDs (ds : List Dc) (v : Value) (w w' : World) : Prop := DcsAt (List.range w.heap.size) w' ds v
def TkP {β : Type} (o : Option (β × List Int)) (R : β → Value → World → World → Prop) (zero : Value) (w : World) (e : Ending) (w' : World) : Prop :=
 Below w.heap.size w w' ∧ match o with
 | none => e = .returned (.tuple #[zero, .slice none 0 0, .bool false])
 | some (x, r) => ∃ v v', e = .returned (.tuple #[v, v', .bool true]) ∧ R x v w w' ∧ RowB w.heap.size w' v' r
theorem TkP.no {β : Type} {o : Option (β × List Int)} {R : β → Value → World → World → Prop} {z : Value} {w w' : World} (h : Below w.heap.size w w') (ho : o = none) : TkP o R z w (.returned (.tuple #[z, .slice none 0 0, .bool false])) w' := by
 subst ho
 exact ⟨h, rfl⟩
theorem TkP.yes {β : Type} {o : Option (β × List Int)} {R : β → Value → World → World → Prop} {z v v' : Value} {w w' : World} {x : β} {r : List Int} (h : Below w.heap.size w w') (ho : o = some (x, r)) (hR : R x v w w') (hr : RowB w.heap.size w' v' r) : TkP o R z w (.returned (.tuple #[v, v', .bool true])) w' := by
 subst ho
 exact ⟨h, v, v', rfl, hR, hr⟩
theorem takenum1_walk (q : Nat) (w : World) (l : List Int) (m : Nat) (h : RdAt q w l m) : Calls Try.prog 49 #[.pointer (some ⟨q, 0, none⟩)] w (RdM q (numP l) RInt w) := by
 have CALL := num_walkR q w l m h
 clear h
 go_enter Try.func49, Try.ntmps49
 go_upto_region 0 with (fail)
 refine lbeg (opsOf Try.f49 0) ?_
 refine lnow 0 (.int .i64 0) (some 2) ?_
 refine ldn 1 ?_
 generalize hact : Act.put _ (some 2) _ = act
 simp only [Act.put, sA, sC, sZ] at hact
 subst hact
 go_upto_region 1 with (fail)
 refine lbeg (opsOf Try.f49 1) ?_
 refine lnow 0 (.pointer (some ⟨q, 0, none⟩)) (some 3) ?_
 cases hn : numP l with
 | none =>
  rw [hn] at CALL
  refine lin_callP 1 50 #[.pointer (some ⟨q, 0, none⟩)] (some 4) _ (by kernel_rfl) (by kernel_rfl) (by kernel_rfl) (CALL) ?_
  rintro e w' ⟨hb, hr⟩
  obtain rfl : e = fellF := hr
  exact .inr ⟨_, rfl, rfl, RdM.no hb rfl⟩
 | some y =>
  obtain ⟨n, l2⟩ := y
  rw [hn] at CALL
  refine lin_callP 1 50 #[.pointer (some ⟨q, 0, none⟩)] (some 4) _ (by kernel_rfl) (by kernel_rfl) (by kernel_rfl) (CALL) ?_
  rintro e w2 ⟨hb, v, rfl, hv, hr⟩
  obtain rfl : v = .int .i64 n := hv
  refine .inl ⟨_, rfl, ?_⟩
  have POST : Hid (RdM q (numP l) RInt w (.returned (.int .i64 n)) w2) := RdM.yes hb hn rfl hr
  clear hb hr CALL
  refine lnow 2 (.int .i64 n) (some 2) ?_
  refine ldn 3 ?_
  generalize hact : Act.put _ (some 2) _ = act
  simp only [Act.put, sA, sC, sZ] at hact
  subst hact
  go_wp2
  go_ret
  exact POST.out
theorem splice_len {Y c : List Value} {o : Nat} (h : o + c.length ≤ Y.length) : (splice Y o c).length = Y.length := by
 unfold splice
 simp only [List.length_append, List.length_take, List.length_drop]
 omega
set_option maxHeartbeats 4000000 in
theorem takelib1_walk (q : Nat) (w : World) (l : List Int) (m : Nat) (h : RdAt q w l m) : Calls Try.prog 59 #[.pointer (some ⟨q, 0, none⟩)] w (RdM q (libQ l) RDs w) := by
 obtain ⟨B, hB⟩ : ∃ B, Hid (w.heap.size = B) := ⟨_, rfl⟩
 have QB : Hid (q < B) := by rw [← hB.out]; exact h.lt
 have IBL := h.bytes.1
 have CALL := num_walkR q w l m h
 clear h
 go_enter Try.func59, Try.ntmps59
 go_upto_region 0 with (fail)
 refine lbeg (opsOf Try.f59 0) ?_
 refine lnow 0 (.slice none 0 0) (some 2) ?_
 refine ldn 1 ?_
 generalize hact : Act.put _ (some 2) _ = act
 simp only [Act.put, sA, sC, sZ] at hact
 subst hact
 go_upto_region 1 with (fail)
 refine lbeg (opsOf Try.f59 1) ?_
 refine lnow 0 (.pointer (some ⟨q, 0, none⟩)) (some 6) ?_
 cases hn : numP l with
 | none =>
  rw [hn] at CALL
  refine lin_callP 1 50 #[.pointer (some ⟨q, 0, none⟩)] (some 7) _ (by kernel_rfl) (by kernel_rfl) (by kernel_rfl) (CALL) ?_
  rintro e w' ⟨hb, hr⟩
  obtain rfl : e = fellF := hr
  exact .inr ⟨_, rfl, rfl, RdM.no hb (libQ_a hn)⟩
 | some y =>
  obtain ⟨n, l1⟩ := y
  rw [hn] at CALL
  refine lin_callP 1 50 #[.pointer (some ⟨q, 0, none⟩)] (some 7) _ (by kernel_rfl) (by kernel_rfl) (by kernel_rfl) (CALL) ?_
  rintro e w2 ⟨hb, v, rfl, hv, hr⟩
  obtain rfl : v = .int .i64 n := hv
  refine .inl ⟨_, rfl, ?_⟩
  have BB : Hid (Bel [q] B w w2) := by rw [← hB.out]; exact hb
  have RD := Lib.hid hr
  have SZ : Hid (B ≤ w2.heap.size) := by rw [← hB.out]; exact hb.size
  clear hb hr CALL
  refine lnow 2 (.int .i64 n) (some 3) ?_
  refine ldn 3 ?_
  generalize hact : Act.put _ (some 3) _ = act
  simp only [Act.put, sA, sC, sZ] at hact
  subst hact
  go_upto_region 2 with (fail)
  refine lbeg (opsOf Try.f59 2) ?_
  refine lnow 0 (.int .i64 n) (some 8) ?_
  refine lnow 1 (.bool (decide (n ≤ 64))) (some 9) ?_
  by_cases h64 : n ≤ 64
  rotate_left
  ·skip
   rw [decide_eq_false h64]
   refine lin_callP 2 54 #[.bool false] (some 10) _ (by kernel_rfl) (by kernel_rfl) (by kernel_rfl) (cneed_no w2) ?_
   rintro e w' ⟨rfl, hw'⟩
   obtain rfl := hw'.symm
   exact .inr ⟨_, rfl, rfl, RdM.no (by rw [hB.out]; exact BB.out) (libQ_b hn h64)⟩
  rw [decide_eq_true h64]
  refine lcal 2 54 #[.bool true] (some 10) _ (cneed_yes w2) ?_
  rintro e w' ⟨rfl, hw'⟩
  obtain rfl := hw'.symm
  refine ⟨_, rfl, ?_⟩
  refine ldn 3 ?_
  generalize hact : Act.put _ (some 10) _ = act
  simp only [Act.put, sA, sC, sZ] at hact
  subst hact
  have HN := Lib.hid (numP_sound IBL hn).1.1
  obtain ⟨n, rfl⟩ := Int.eq_ofNat_of_zero_le HN.out
  have N64 : Hid (n ≤ 64) := by rw [Hid]; omega
  obtain ⟨z, hz⟩ : ∃ z, Hid (w2.heap.size = z) := ⟨_, rfl⟩
  rw [hz.out] at SZ
  clear HN
  go_upto_region 3 with (fail)
  refine lbeg (opsOf Try.f59 3) ?_
  refine lnow 0 (.int .i64 (n : Int)) (some 11) ?_
  refine lin_makeD 1 n z .i64 .i64 (some 12) (by kernel_rfl) (by kernel_rfl) (by kernel_rfl) (by have := N64.out; omega) hz ?_
  intro w3 X hX b3 be3 hs3
  refine lnow 2 (.slice (some ⟨z, 0, none⟩) n n) (some 4) ?_
  refine ldn 3 ?_
  generalize hact : Act.put _ (some 4) _ = act
  simp only [Act.put, sA, sC, sZ] at hact
  subst hact
  have sz := SZ.out
  have qb := QB.out
  have RD3 := Lib.hid (RD.out.below be3 (by omega))
  have BB3 : Hid (Bel [q] B w w3) := BB.out.trans (Bel.of (be3.mono sz))
  have BX := Lib.hid b3
  have HX := Lib.hid hX
  clear b3 be3 hs3 hX RD BB hz sz qb
  go_upto_region 4 with (fail)
  refine lbeg (opsOf Try.f59 4) ?_
  refine lnow 0 (.slice (some ⟨z, 0, none⟩) n n) (some 13) ?_
  refine lnow 1 (.int .i64 (n : Int)) (some 14) ?_
  refine lnow 2 (.int .i64 0) (some 15) ?_
  refine ldn 3 ?_
  generalize hact : Act.put _ (some 15) _ = act
  simp only [Act.put, sA, sC, sZ] at hact
  subst hact
  go_wp2
  go_loopw [15] (fun iv wr => ∃ (i : Nat) (ds : List Dc) (css : List (List Value)) (Y : List Value) (li : List Int) (mi : Nat), i ≤ n ∧ iv = .int .i64 (i : Int) ∧ Hid (ds.length = i) ∧ Hid (Blk wr z 38 Y) ∧ Hid (Y.length = 15 * n) ∧ Hid (Y.take (15 * i) = css.flatten) ∧ Hid (DcCells (List.range (z + 1)) wr ds css) ∧ Hid (RdAt q wr li mi) ∧ Hid (Bel [q] B w wr) ∧ Hid (TimesAt declP n l1 i ds li)) (fun iv _ => n - (intOf iv).toNat)
  case atStart => exact ⟨0, [], [], X, l1, _, Nat.zero_le _, rfl, rfl, BX, HX, rfl, trivial, RD3, BB3, TimesAt.start _ _ _⟩
  case round =>
   clear BX HX RD3 BB3
   obtain ⟨i, ds, css, Y, li, mi, hi, rfl, LN, BX, HX, YT, DC, RD, BB, TA⟩ := hrel
   by_cases hlt : i < n
   ·skip
    have c1 : (i : Int) < (n : Int) := by omega
    go_upto_region 5 with (fail)
    refine lbeg (opsOf Try.f59 5) ?_
    refine lnow 0 (.bool (decide ((i : Int) < (n : Int)))) (some 16) ?_
    rw [decide_eq_true c1]
    refine ldn 1 ?_
    generalize hact : Act.put _ (some 16) _ = act
    simp only [Act.put, sA, sC, sZ] at hact
    subst hact
    go_upto_region 6 with (fail)
    refine lbeg (opsOf Try.f59 6) ?_
    refine lnow 0 (.int .i64 (i : Int)) (some 17) ?_
    refine lnow 1 (.int .i64 (i : Int)) (some 5) ?_
    refine ldn 2 ?_
    generalize hact : Act.put _ (some 5) _ = act
    simp only [Act.put, sA, sC, sZ] at hact
    subst hact
    go_upto_region 7 with (fail)
    refine lbeg (opsOf Try.f59 7) ?_
    refine lnow 0 (.slice (some ⟨z, 0, none⟩) n n) (some 18) ?_
    refine lnow 1 (.int .i64 (i : Int)) (some 19) ?_
    refine lnow 2 (.pointer (some ⟨q, 0, none⟩)) (some 20) ?_
    have CALL := decl_walkR q wr li mi RD.out
    have BW : Hid (Bel [q] wr.heap.size wr wr) := Bel.refl _ _ _
    have SB : Hid (B ≤ wr.heap.size) := Nat.le_trans SZ.out (Nat.le_of_lt BX.out.lt)
    cases hd : declP li with
    | none =>
     rw [hd] at CALL
     refine lin_callP 3 57 #[.pointer (some ⟨q, 0, none⟩)] (some 21) _ (by kernel_rfl) (by kernel_rfl) (by kernel_rfl) (CALL) ?_
     rintro e w' ⟨hb, hr⟩
     obtain rfl : e = fellF := hr
     exact .inr ⟨_, rfl, rfl, RdM.no (by rw [hB.out]; exact BB.out.trans (hb.mono SB.out)) (libQ_c hn h64 (by rw [Int.toNat_natCast]; exact TA.out.no hlt hd))⟩
    | some y =>
     obtain ⟨d, l3⟩ := y
     rw [hd] at CALL
     refine lin_callP 3 57 #[.pointer (some ⟨q, 0, none⟩)] (some 21) _ (by kernel_rfl) (by kernel_rfl) (by kernel_rfl) (CALL) ?_
     rintro e w5 ⟨hb, v, m5, rfl, ⟨c, rfl, hdc⟩, hr⟩
     refine .inl ⟨_, rfl, ?_⟩
     have zq : q < z := by have := QB.out; have := SZ.out; omega
     have S5 := BX.out.lt
     have BX5 : Hid (Blk w5 z 38 Y) := bel_keep hb BX.out (by omega) S5
     have BB5 : Hid (Bel [q] B w w5) := BB.out.trans (hb.mono SB.out)
     have DC5 : Hid (DcCells (List.range (z + 1)) w5 ds css) := DC.out.step (hb.step (Nat.le_refl _) (fun k hk => by rw [List.mem_singleton.1 hk]; exact List.mem_range.2 (by omega)))
     have D5 : Hid (DcAt (List.range (z + 1)) w5 d c) := hdc.sub (fun k hk => .inl (List.mem_range.2 (by have := List.mem_range.1 hk; omega)))
     have C15 := Lib.hid hdc.len
     have CONE := Lib.hid hdc.one
     have RD5 := Lib.hid hr
     clear hb hr hdc CALL BX BB DC RD BW
     refine lix 4 (.pointer (some ⟨z, 0 + 15 * i, none⟩)) (some 22) 26 18 19 (run_at_dc z 0 n n i hlt _) ?_
     have FIT : 15 * i + c.length ≤ Y.length := by rw [C15.out, HX.out]; omega
     refine lin_putM 5 (0 + 15 * i) 38 (.tmp 22) (.tmp 21) z 38 Y c (by kernel_rfl) (by kernel_rfl) (by kernel_rfl) (by kernel_rfl) (by kernel_rfl) BX5.out (by rw [Nat.zero_add]; exact FIT) (dcSize C15.out) (by simpa using CONE.out) ?_
     intro w6 b6 u6
     rw [Nat.zero_add] at b6
     refine ldn 6 ?_
     generalize hact : Act.put _ none _ = act
     simp only [Act.put, sA, sC, sZ] at hact
     subst hact
     have SU : Step (List.range (z + 1)) w5 (List.range (z + 1)) w6 := Step.of_upd u6 (List.mem_range.2 (by omega))
     have BX6 := Lib.hid b6
     have HX6 : Hid ((splice Y (15 * i) c).length = 15 * n) := by rw [Hid, splice_len FIT, HX.out]
     have YT6 : Hid ((splice Y (15 * i) c).take (15 * (i + 1)) = (css ++ [c]).flatten) := by rw [Hid, show 15 * (i + 1) = 15 * i + c.length by rw [C15.out]; omega, splice_take FIT, YT.out]; simp
     have DC6 : Hid (DcCells (List.range (z + 1)) w6 (ds ++ [d]) (css ++ [c])) := DcCells.snoc (D5.out.step SU) (DC5.out.step SU)
     have RD6 := Lib.hid (RD5.out.upd u6 zq)
     have BB6 : Hid (Bel [q] B w w6) := BB5.out.newBlk u6 SZ.out (Nat.le_trans SZ.out (Nat.le_of_lt BX5.out.lt))
     have LN6 : Hid ((ds ++ [d]).length = i + 1) := by rw [Hid, List.length_append, LN.out]; rfl
     have TA6 := Lib.hid (TA.out.step hlt hd)
     clear b6 u6 SU FIT BX5 BB5 DC5 D5 RD5 YT HX LN TA hd S5 SB
     have n64 := N64.out
     go_wp2
     go_roundw
     case rel => exact ⟨i + 1, _, _, _, l3, m5, by omega, by go_num, LN6, BX6, HX6, YT6, DC6, RD6, BB6, TA6⟩
     case measure => simp [intOf]; omega
   obtain rfl : i = n := by omega
   have c1 : ¬ ((i : Int) < (i : Int)) := by omega
   have HTS := Lib.hid TA.out.done
   obtain ⟨vb, hblk, hby, hisB, hlen⟩ := id RD.out
   obtain ⟨ba, bc, hvb, -⟩ := id hby
   subst hvb
   have BQ := Lib.hid hblk
   clear hblk hby hisB hlen TA
   go_upto_region 5 with (fail)
   refine lbeg (opsOf Try.f59 5) ?_
   refine lnow 0 (.bool (decide ((i : Int) < (i : Int)))) (some 16) ?_
   rw [decide_eq_false c1]
   refine ldn 1 ?_
   generalize hact : Act.put _ (some 16) _ = act
   simp only [Act.put, sA, sC, sZ] at hact
   subst hact
   go_upto_region 9 with (fail)
   refine lbeg (opsOf Try.f59 9) ?_
   refine lnow 0 (.pointer (some ⟨q, 0, none⟩)) (some 24) ?_
   refine lnow 1 (.pointer (some ⟨q, 0, none⟩)) (some 25) ?_
   refine lnow 2 (.pointer (some ⟨q, 0, none⟩)) (some 26) ?_
   refine lcl 3 (.slice ba li.length bc) (some 27) 30 26 q 0 (BQ.out.cell rfl) Try.underlying30 ?_
   refine lnow 4 (.int .i64 (li.length : Int)) (some 28) ?_
   refine lnow 5 (.bool (decide ((li.length : Int) = 0))) (some 29) ?_
   by_cases h0 : li.length = 0
   rotate_left
   ·skip
    rw [decide_eq_false (by omega : ¬ (li.length : Int) = 0)]
    refine lin_callP 6 54 #[.bool false] (some 30) _ (by kernel_rfl) (by kernel_rfl) (by kernel_rfl) (cneed_no wr) ?_
    rintro e w' ⟨rfl, hw'⟩
    obtain rfl := hw'.symm
    exact .inr ⟨_, rfl, rfl, RdM.no (by rw [hB.out]; exact BB.out) (libQ_d hn h64 (by rw [Int.toNat_natCast]; exact HTS.out) (fun e => h0 (by rw [e]; rfl)))⟩
   rw [decide_eq_true (by omega : (li.length : Int) = 0)]
   refine lcal 6 54 #[.bool true] (some 30) _ (cneed_yes wr) ?_
   rintro e w' ⟨rfl, hw'⟩
   obtain rfl := hw'.symm
   refine ⟨_, rfl, ?_⟩
   refine ldn 7 ?_
   generalize hact : Act.put _ (some 30) _ = act
   simp only [Act.put, sA, sC, sZ] at hact
   subst hact
   obtain rfl : li = [] := List.eq_nil_of_length_eq_zero h0
   have FIN : Hid (DcsAt (List.range z) wr ds (.slice (some ⟨z, 0, none⟩) i i)) := (DC.out.sub (fun k hk => .inl (List.mem_range.2 (by have := List.mem_range.1 hk; omega)))).dcs LN.out BX.out (by rw [← YT.out]; exact (List.take_of_length_le (by rw [HX.out]; omega)).symm) (fun hc => by have := List.mem_range.1 hc; omega)
   have POST : Hid (RdM q (libQ l) RDs w (.returned (.slice (some ⟨z, 0, none⟩) i i)) wr) := RdM.yes (by rw [hB.out]; exact BB.out) (libQ_y hn h64 (by rw [Int.toNat_natCast]; exact HTS.out)) (FIN.out.sub (fun k hk => .inl (List.mem_range.2 (by have := List.mem_range.1 hk; have := hB.out; have := SZ.out; omega)))) RD.out
   clear FIN BQ RD BB DC BX
   go_upto_region 10 with (fail)
   refine lbeg (opsOf Try.f59 10) ?_
   refine lnow 0 (.slice (some ⟨z, 0, none⟩) i i) (some 31) ?_
   refine lnow 1 (.slice (some ⟨z, 0, none⟩) i i) (some 2) ?_
   refine ldn 2 ?_
   generalize hact : Act.put _ (some 2) _ = act
   simp only [Act.put, sA, sC, sZ] at hact
   subst hact
   go_wp2
   go_ret
   exact POST.out
set_option maxHeartbeats 4000000 in
theorem taken_catchN (k : Int) (older : List PanicEntry) (w : World) : CallsD Try.prog 74 #[] (.panicking ({ v := .iface 101 (.int .i64 k), recovered := false } :: older)) w fun e u' w' => e = .returned (.tuple #[]) ∧ u' = .panicking ({ v := .iface 101 (.int .i64 k), recovered := true } :: older) ∧ w' = w := by
 refine callsD_of_wpS Try.func74 rfl fun c₀ cs hu => ?_
 apply wpS_seq
 apply wpS_region
 simp [wpOpsS, go_sem, recoverD, hu, Try.ntmps74, Exit.thenS]
 refine wpS_of_wp ?_
 simp only [Array.replicate_succ, Array.replicate_zero, List.push_toArray, List.nil_append, List.cons_append, List.setIfInBounds_toArray, List.set_cons_succ, List.set_cons_zero]
 go_upto_region 1 with (fail)
 refine lbeg (opsOf Try.f74 1) ?_
 refine lnow 0 (.iface 101 (.int .i64 k)) (some 5) ?_
 refine lnow 1 (.tuple #[.int .i64 k, .bool true]) (some 6) ?_
 refine lnow 2 (.tuple #[.int .i64 k, .bool true]) (some 4) ?_
 refine lnow 3 (.int .i64 k) (some 7) ?_
 refine lnow 4 (.bool true) (some 8) ?_
 refine lnow 5 (.int .i64 k) (some 1) ?_
 refine lnow 6 (.bool true) (some 2) ?_
 refine ldn 7 ?_
 generalize hact : Act.put _ (some 2) _ = act
 simp only [Act.put, sA, sC, sZ] at hact
 subst hact
 go_upto_region 2 with (fail)
 refine lbeg (opsOf Try.f74 2) ?_
 refine lnow 0 (.iface 101 (.int .i64 k)) (some 9) ?_
 refine lnow 1 (.bool true) (some 10) ?_
 refine lnow 2 (.bool true) (some 11) ?_
 refine lnow 3 (.bool true) (some 12) ?_
 refine lnow 4 (.bool false) (some 13) ?_
 refine lnow 5 (.bool false) (some 14) ?_
 refine ldn 6 ?_
 generalize hact : Act.put _ (some 14) _ = act
 simp only [Act.put, sA, sC, sZ] at hact
 subst hact
 go_wp2
 simp [bodyPostS, results, Try.results74]
set_option maxHeartbeats 4000000 in
theorem taken_idleN (w : World) : CallsD Try.prog 74 #[] .returning w fun e u' w' => e = .returned (.tuple #[]) ∧ u' = .returning ∧ w' = w := by
 refine callsD_of_wpS Try.func74 rfl fun c₀ cs hu => ?_
 apply wpS_seq
 apply wpS_region
 simp [wpOpsS, go_sem, recoverD, hu, Try.ntmps74, Exit.thenS]
 refine wpS_of_wp ?_
 simp only [Array.replicate_succ, Array.replicate_zero, List.push_toArray, List.nil_append, List.cons_append, List.setIfInBounds_toArray, List.set_cons_succ, List.set_cons_zero]
 go_upto_region 1 with (fail)
 refine lbeg (opsOf Try.f74 1) ?_
 refine lnow 0 (.nilIface) (some 5) ?_
 refine lnow 1 (.tuple #[.int .i64 0, .bool false]) (some 6) ?_
 refine lnow 2 (.tuple #[.int .i64 0, .bool false]) (some 4) ?_
 refine lnow 3 (.int .i64 0) (some 7) ?_
 refine lnow 4 (.bool false) (some 8) ?_
 refine lnow 5 (.int .i64 0) (some 1) ?_
 refine lnow 6 (.bool false) (some 2) ?_
 refine ldn 7 ?_
 generalize hact : Act.put _ (some 2) _ = act
 simp only [Act.put, sA, sC, sZ] at hact
 subst hact
 go_upto_region 2 with (fail)
 refine lbeg (opsOf Try.f74 2) ?_
 refine lnow 0 (.nilIface) (some 9) ?_
 refine lnow 1 (.bool false) (some 10) ?_
 refine lnow 2 (.bool false) (some 11) ?_
 refine lpas 3 (some 12) ?_
 refine lpas 4 (some 13) ?_
 refine lnow 5 (.bool false) (some 14) ?_
 refine ldn 6 ?_
 generalize hact : Act.put _ (some 14) _ = act
 simp only [Act.put, sA, sC, sZ] at hact
 subst hact
 go_wp2
 cases c₀
 simp_all [bodyPostS, results, Try.results74]
set_option maxHeartbeats 4000000 in
theorem taken_walkN (b : Value) (l : List Int) (w : World) (h : BytesIn w b l) (hi : isB l) (hl : l.length ≤ 1000000000) : Calls Try.prog 48 #[b, .func (.func 49) #[] #[]] w (TkP (numP l) RInt (.int .i64 0) w) := by
 obtain ⟨q, hq⟩ : ∃ q, Hid (w.heap.size = q) := ⟨_, rfl⟩
 obtain ⟨ba, bc, rfl, -⟩ := id h
 have HB := Lib.hid h
 have HI := Lib.hid hi
 have HL := Lib.hid hl
 clear h hi hl
 go_enter_defers Try.func48, Try.ntmps48
 go_upto_region 0 with (fail)
 refine lbeg (opsOf Try.f48 0) ?_
 refine lnow 0 (.int .i64 0) (some 4) ?_
 refine lnow 1 (.slice none 0 0) (some 5) ?_
 refine lnow 2 (.bool false) (some 6) ?_
 refine ldn 3 ?_
 generalize hact : Act.put _ (some 6) _ = act
 simp only [Act.put, sA, sC, sZ] at hact
 subst hact
 go_upto_region 2 with (fail)
 refine lbeg (opsOf Try.f48 2) ?_
 refine lnow 0 (.slice ba l.length bc) (some 8) ?_
 refine lnow 1 (.agg ([.slice ba l.length bc, .int .i64 0] : List Value).toArray) (some 9) ?_
 refine lall 2 87 [.slice none 0 0, .int .i64 0] q (some 7) hq ?_
 intro w0 b0 be0 hs0
 refine lput 3 87 (.tmp 7) (.tmp 9) q _ [.slice none 0 0, .int .i64 0] [.slice ba l.length bc, .int .i64 0] b0 rfl (by kernel_rfl) (by simpa using (by intro u hu; simp only [List.mem_cons, List.not_mem_nil, or_false] at hu; rcases hu with rfl | rfl <;> rfl : ∀ u ∈ ([.slice ba l.length bc, .int .i64 0] : List Value), u.oneCell' = true)) ?_
 intro w1 b1 u1
 refine ldn 4 ?_
 generalize hact : Act.put _ none _ = act
 simp only [Act.put, sA, sC, sZ] at hact
 subst hact
 have B01 : Below q w w1 := u1.below be0 (Nat.le_refl _) (by have := hs0.out; omega)
 have S1 : Hid (q < w1.heap.size) := b1.lt
 have RD : Hid (RdAt q w1 l 0) := ⟨.slice ba l.length bc, b1, (BytesLt.of HB.out).at hq.out B01, HI.out, HL.out⟩
 have BE := Lib.hid B01
 clear b0 be0 hs0 b1 u1 B01
 have CALL := takenum1_walk q w1 l 0 RD.out
 go_upto_region 3 with (fail)
 refine lbeg (opsOf Try.f48 3) ?_
 refine lnow 0 (.func (.func 49) #[] #[]) (some 10) ?_
 obtain ⟨oo, hoo⟩ : ∃ oo, Hid (numP l = oo) := ⟨_, rfl⟩
 rw [hoo.out] at CALL ⊢
 cases oo with
 | none =>
  refine lin_callP 1 49 #[.pointer (some ⟨q, 0, none⟩)] (some 11) _ (by kernel_rfl) (by kernel_rfl) (by kernel_rfl) (CALL) ?_
  rintro e w2 ⟨hb, hr⟩
  obtain rfl : e = fellF := hr
  refine .inr ⟨_, rfl, ?_⟩
  refine leaves_cons (f := 74) (args := #[]) (by simp) (by kernel_rfl) ?_
  refine (taken_catchN 10 [] w2).mono ?_
  rintro e u' w3 ⟨rfl, rfl, rfl⟩
  refine ⟨.tuple #[.int .i64 0, .slice none 0 0, .bool false], ?_, TkP.no ?_ rfl⟩
  ·kernel_rfl
  ·rw [hq.out]
   exact BE.out.trans (Bel.below (hb.mono (Nat.le_of_lt S1.out)) (fun k hk => by rw [List.mem_singleton.1 hk]; exact Nat.le_refl _))
 | some y =>
  obtain ⟨x, r⟩ := y
  refine lin_callP 1 49 #[.pointer (some ⟨q, 0, none⟩)] (some 11) _ (by kernel_rfl) (by kernel_rfl) (by kernel_rfl) (CALL) ?_
  rintro e w2 ⟨hb, v, m2, rfl, hx, hr⟩
  obtain rfl : v = .int .i64 x := hx
  refine .inl ⟨_, rfl, ?_⟩
  have BE2 : Hid (Below q w w2) := BE.out.trans (Bel.below (hb.mono (Nat.le_of_lt S1.out)) (fun k hk => by rw [List.mem_singleton.1 hk]; exact Nat.le_refl _))
  obtain ⟨vb, hblk, hby, hisB, hlen⟩ := hr
  have BQ := Lib.hid hblk
  have BY := Lib.hid hby.in
  have LL := Lib.hid hlen
  have S2 : Hid (w1.heap.size ≤ w2.heap.size) := hb.size
  clear hb hblk hby hisB hlen CALL
  refine lnow 2 (.int .i64 x) (some 4) ?_
  refine ldn 3 ?_
  generalize hact : Act.put _ (some 4) _ = act
  simp only [Act.put, sA, sC, sZ] at hact
  subst hact
  go_upto_region 4 with (fail)
  refine lbeg (opsOf Try.f48 4) ?_
  refine lnow 0 (.int .i64 x) (some 12) ?_
  refine lnow 1 (.pointer (some ⟨q, 0, none⟩)) (some 13) ?_
  refine lcl 2 (vb) (some 14) 30 13 q 0 (BQ.out.cell rfl) Try.underlying30 ?_
  refine lcal 3 75 #[vb] (some 15) _ (bclone_walk vb r w2 BY.out LL.out) ?_
  rintro e w4 ⟨v4, rfl, r4, hb4⟩
  refine ⟨_, rfl, ?_⟩
  refine lnow 4 (.int .i64 x) (some 4) ?_
  refine lnow 5 (v4) (some 5) ?_
  refine lnow 6 (.bool true) (some 6) ?_
  refine ldn 7 ?_
  generalize hact : Act.put _ (some 6) _ = act
  simp only [Act.put, sA, sC, sZ] at hact
  subst hact
  have B4 : Below q w w4 := BE2.out.trans (hb4.mono (by have := S1.out; have := S2.out; omega))
  have POST : Hid (TkP (some (x, r)) RInt (.int .i64 0) w (.returned (.tuple #[.int .i64 x, v4, .bool true])) w4) := TkP.yes (by rw [hq.out]; exact B4) rfl (rfl) (r4.mono (by have := hq.out; have := S1.out; have := S2.out; omega))
  clear r4 B4 hb4
  go_wp2
  refine leaves_cons (f := 74) (args := #[]) (by simp) (by kernel_rfl) ?_
  refine (taken_idleN w4).mono ?_
  rintro e u' w5 ⟨rfl, rfl, rfl⟩
  refine ⟨.tuple #[.int .i64 x, v4, .bool true], ?_, ?_⟩
  ·kernel_rfl
  ·rw [hoo.out]
   exact POST.out
set_option maxHeartbeats 4000000 in
theorem taken_catchL (k : Int) (older : List PanicEntry) (w : World) : CallsD Try.prog 82 #[] (.panicking ({ v := .iface 101 (.int .i64 k), recovered := false } :: older)) w fun e u' w' => e = .returned (.tuple #[]) ∧ u' = .panicking ({ v := .iface 101 (.int .i64 k), recovered := true } :: older) ∧ w' = w := by
 refine callsD_of_wpS Try.func82 rfl fun c₀ cs hu => ?_
 apply wpS_seq
 apply wpS_region
 simp [wpOpsS, go_sem, recoverD, hu, Try.ntmps82, Exit.thenS]
 refine wpS_of_wp ?_
 simp only [Array.replicate_succ, Array.replicate_zero, List.push_toArray, List.nil_append, List.cons_append, List.setIfInBounds_toArray, List.set_cons_succ, List.set_cons_zero]
 go_upto_region 1 with (fail)
 refine lbeg (opsOf Try.f82 1) ?_
 refine lnow 0 (.iface 101 (.int .i64 k)) (some 5) ?_
 refine lnow 1 (.tuple #[.int .i64 k, .bool true]) (some 6) ?_
 refine lnow 2 (.tuple #[.int .i64 k, .bool true]) (some 4) ?_
 refine lnow 3 (.int .i64 k) (some 7) ?_
 refine lnow 4 (.bool true) (some 8) ?_
 refine lnow 5 (.int .i64 k) (some 1) ?_
 refine lnow 6 (.bool true) (some 2) ?_
 refine ldn 7 ?_
 generalize hact : Act.put _ (some 2) _ = act
 simp only [Act.put, sA, sC, sZ] at hact
 subst hact
 go_upto_region 2 with (fail)
 refine lbeg (opsOf Try.f82 2) ?_
 refine lnow 0 (.iface 101 (.int .i64 k)) (some 9) ?_
 refine lnow 1 (.bool true) (some 10) ?_
 refine lnow 2 (.bool true) (some 11) ?_
 refine lnow 3 (.bool true) (some 12) ?_
 refine lnow 4 (.bool false) (some 13) ?_
 refine lnow 5 (.bool false) (some 14) ?_
 refine ldn 6 ?_
 generalize hact : Act.put _ (some 14) _ = act
 simp only [Act.put, sA, sC, sZ] at hact
 subst hact
 go_wp2
 simp [bodyPostS, results, Try.results82]
set_option maxHeartbeats 4000000 in
theorem taken_idleL (w : World) : CallsD Try.prog 82 #[] .returning w fun e u' w' => e = .returned (.tuple #[]) ∧ u' = .returning ∧ w' = w := by
 refine callsD_of_wpS Try.func82 rfl fun c₀ cs hu => ?_
 apply wpS_seq
 apply wpS_region
 simp [wpOpsS, go_sem, recoverD, hu, Try.ntmps82, Exit.thenS]
 refine wpS_of_wp ?_
 simp only [Array.replicate_succ, Array.replicate_zero, List.push_toArray, List.nil_append, List.cons_append, List.setIfInBounds_toArray, List.set_cons_succ, List.set_cons_zero]
 go_upto_region 1 with (fail)
 refine lbeg (opsOf Try.f82 1) ?_
 refine lnow 0 (.nilIface) (some 5) ?_
 refine lnow 1 (.tuple #[.int .i64 0, .bool false]) (some 6) ?_
 refine lnow 2 (.tuple #[.int .i64 0, .bool false]) (some 4) ?_
 refine lnow 3 (.int .i64 0) (some 7) ?_
 refine lnow 4 (.bool false) (some 8) ?_
 refine lnow 5 (.int .i64 0) (some 1) ?_
 refine lnow 6 (.bool false) (some 2) ?_
 refine ldn 7 ?_
 generalize hact : Act.put _ (some 2) _ = act
 simp only [Act.put, sA, sC, sZ] at hact
 subst hact
 go_upto_region 2 with (fail)
 refine lbeg (opsOf Try.f82 2) ?_
 refine lnow 0 (.nilIface) (some 9) ?_
 refine lnow 1 (.bool false) (some 10) ?_
 refine lnow 2 (.bool false) (some 11) ?_
 refine lpas 3 (some 12) ?_
 refine lpas 4 (some 13) ?_
 refine lnow 5 (.bool false) (some 14) ?_
 refine ldn 6 ?_
 generalize hact : Act.put _ (some 14) _ = act
 simp only [Act.put, sA, sC, sZ] at hact
 subst hact
 go_wp2
 cases c₀
 simp_all [bodyPostS, results, Try.results82]
set_option maxHeartbeats 4000000 in
theorem taken_walkL (b : Value) (l : List Int) (w : World) (h : BytesIn w b l) (hi : isB l) (hl : l.length ≤ 1000000000) : Calls Try.prog 58 #[b, .func (.func 59) #[] #[]] w (TkP (libQ l) RDs (.slice none 0 0) w) := by
 obtain ⟨q, hq⟩ : ∃ q, Hid (w.heap.size = q) := ⟨_, rfl⟩
 obtain ⟨ba, bc, rfl, -⟩ := id h
 have HB := Lib.hid h
 have HI := Lib.hid hi
 have HL := Lib.hid hl
 clear h hi hl
 go_enter_defers Try.func58, Try.ntmps58
 go_upto_region 0 with (fail)
 refine lbeg (opsOf Try.f58 0) ?_
 refine lnow 0 (.slice none 0 0) (some 4) ?_
 refine lnow 1 (.slice none 0 0) (some 5) ?_
 refine lnow 2 (.bool false) (some 6) ?_
 refine ldn 3 ?_
 generalize hact : Act.put _ (some 6) _ = act
 simp only [Act.put, sA, sC, sZ] at hact
 subst hact
 go_upto_region 2 with (fail)
 refine lbeg (opsOf Try.f58 2) ?_
 refine lnow 0 (.slice ba l.length bc) (some 8) ?_
 refine lnow 1 (.agg ([.slice ba l.length bc, .int .i64 0] : List Value).toArray) (some 9) ?_
 refine lall 2 87 [.slice none 0 0, .int .i64 0] q (some 7) hq ?_
 intro w0 b0 be0 hs0
 refine lput 3 87 (.tmp 7) (.tmp 9) q _ [.slice none 0 0, .int .i64 0] [.slice ba l.length bc, .int .i64 0] b0 rfl (by kernel_rfl) (by simpa using (by intro u hu; simp only [List.mem_cons, List.not_mem_nil, or_false] at hu; rcases hu with rfl | rfl <;> rfl : ∀ u ∈ ([.slice ba l.length bc, .int .i64 0] : List Value), u.oneCell' = true)) ?_
 intro w1 b1 u1
 refine ldn 4 ?_
 generalize hact : Act.put _ none _ = act
 simp only [Act.put, sA, sC, sZ] at hact
 subst hact
 have B01 : Below q w w1 := u1.below be0 (Nat.le_refl _) (by have := hs0.out; omega)
 have S1 : Hid (q < w1.heap.size) := b1.lt
 have RD : Hid (RdAt q w1 l 0) := ⟨.slice ba l.length bc, b1, (BytesLt.of HB.out).at hq.out B01, HI.out, HL.out⟩
 have BE := Lib.hid B01
 clear b0 be0 hs0 b1 u1 B01
 have CALL := takelib1_walk q w1 l 0 RD.out
 go_upto_region 3 with (fail)
 refine lbeg (opsOf Try.f58 3) ?_
 refine lnow 0 (.func (.func 59) #[] #[]) (some 10) ?_
 obtain ⟨oo, hoo⟩ : ∃ oo, Hid (libQ l = oo) := ⟨_, rfl⟩
 rw [hoo.out] at CALL ⊢
 cases oo with
 | none =>
  refine lin_callP 1 59 #[.pointer (some ⟨q, 0, none⟩)] (some 11) _ (by kernel_rfl) (by kernel_rfl) (by kernel_rfl) (CALL) ?_
  rintro e w2 ⟨hb, hr⟩
  obtain rfl : e = fellF := hr
  refine .inr ⟨_, rfl, ?_⟩
  refine leaves_cons (f := 82) (args := #[]) (by simp) (by kernel_rfl) ?_
  refine (taken_catchL 10 [] w2).mono ?_
  rintro e u' w3 ⟨rfl, rfl, rfl⟩
  refine ⟨.tuple #[.slice none 0 0, .slice none 0 0, .bool false], ?_, TkP.no ?_ rfl⟩
  ·kernel_rfl
  ·rw [hq.out]
   exact BE.out.trans (Bel.below (hb.mono (Nat.le_of_lt S1.out)) (fun k hk => by rw [List.mem_singleton.1 hk]; exact Nat.le_refl _))
 | some y =>
  obtain ⟨x, r⟩ := y
  refine lin_callP 1 59 #[.pointer (some ⟨q, 0, none⟩)] (some 11) _ (by kernel_rfl) (by kernel_rfl) (by kernel_rfl) (CALL) ?_
  rintro e w2 ⟨hb, v, m2, rfl, hx, hr⟩
  have DX : Hid (DcsAt (List.range w1.heap.size) w2 x v) := hx
  refine .inl ⟨_, rfl, ?_⟩
  have BE2 : Hid (Below q w w2) := BE.out.trans (Bel.below (hb.mono (Nat.le_of_lt S1.out)) (fun k hk => by rw [List.mem_singleton.1 hk]; exact Nat.le_refl _))
  obtain ⟨vb, hblk, hby, hisB, hlen⟩ := hr
  have BQ := Lib.hid hblk
  have BY := Lib.hid hby.in
  have LL := Lib.hid hlen
  have S2 : Hid (w1.heap.size ≤ w2.heap.size) := hb.size
  clear hb hblk hby hisB hlen CALL hx
  refine lnow 2 (v) (some 4) ?_
  refine ldn 3 ?_
  generalize hact : Act.put _ (some 4) _ = act
  simp only [Act.put, sA, sC, sZ] at hact
  subst hact
  go_upto_region 4 with (fail)
  refine lbeg (opsOf Try.f58 4) ?_
  refine lnow 0 (v) (some 12) ?_
  refine lnow 1 (.pointer (some ⟨q, 0, none⟩)) (some 13) ?_
  refine lcl 2 (vb) (some 14) 30 13 q 0 (BQ.out.cell rfl) Try.underlying30 ?_
  refine lcal 3 75 #[vb] (some 15) _ (bclone_walk vb r w2 BY.out LL.out) ?_
  rintro e w4 ⟨v4, rfl, r4, hb4⟩
  refine ⟨_, rfl, ?_⟩
  refine lnow 4 (v) (some 4) ?_
  refine lnow 5 (v4) (some 5) ?_
  refine lnow 6 (.bool true) (some 6) ?_
  refine ldn 7 ?_
  generalize hact : Act.put _ (some 6) _ = act
  simp only [Act.put, sA, sC, sZ] at hact
  subst hact
  have B4 : Below q w w4 := BE2.out.trans (hb4.mono (by have := S1.out; have := S2.out; omega))
  have POST : Hid (TkP (some (x, r)) RDs (.slice none 0 0) w (.returned (.tuple #[v, v4, .bool true])) w4) := TkP.yes (by rw [hq.out]; exact B4) rfl ((DX.out.below hb4).sub (fun k hk => .inl (List.mem_range.2 (by have := List.mem_range.1 hk; have := hq.out; have := S1.out; omega)))) (r4.mono (by have := hq.out; have := S1.out; have := S2.out; omega))
  clear r4 B4 hb4
  go_wp2
  refine leaves_cons (f := 82) (args := #[]) (by simp) (by kernel_rfl) ?_
  refine (taken_idleL w4).mono ?_
  rintro e u' w5 ⟨rfl, rfl, rfl⟩
  refine ⟨.tuple #[v, v4, .bool true], ?_, ?_⟩
  ·kernel_rfl
  ·rw [hoo.out]
   exact POST.out
end Go.Proofs.Yteohjbggicchgaa
namespace Go.Proofs.Yteohjbggicchgaa
open Go Go.RowKit
set_option maxRecDepth 100000
def TlP (o : Option (List Dc)) (w : World) (e : Ending) (w' : World) : Prop :=
 Below w.heap.size w w' ∧ match o with
 | none => e = .returned (.tuple #[.slice none 0 0, .bool false])
 | some ds => ∃ v, e = .returned (.tuple #[v, .bool true]) ∧ DcsAt (List.range w.heap.size) w' ds v
theorem TlP.no {o : Option (List Dc)} {w w' : World} (h : Below w.heap.size w w') (ho : o = none) : TlP o w (.returned (.tuple #[.slice none 0 0, .bool false])) w' := by
 subst ho
 exact ⟨h, rfl⟩
theorem TlP.yes {o : Option (List Dc)} {w w' : World} {ds : List Dc} {v : Value} (h : Below w.heap.size w w') (ho : o = some ds) (hd : DcsAt (List.range w.heap.size) w' ds v) : TlP o w (.returned (.tuple #[v, .bool true])) w' := by
 subst ho
 exact ⟨h, v, rfl, hd⟩
theorem libQ_no {l : List Int} (h : libP l = none) : libQ l = none := by unfold libQ; rw [h]
theorem libQ_yes {l : List Int} {ds : List Dc} (h : libP l = some ds) : libQ l = some (ds, []) := by unfold libQ; rw [h]
theorem TakeNum_walk (b : Value) (l : List Int) (w : World) (h : BytesIn w b l) (hi : isB l) (hl : l.length ≤ 1000000000) : Calls Try.prog 23 #[b] w (TkP (numP l) RInt (.int .i64 0) w) := by
 have CALL := taken_walkN b l w h hi hl
 clear h hi hl
 go_enter Try.func23, Try.ntmps23
 go_upto_region 0 with (fail)
 refine lbeg (opsOf Try.f23 0) ?_
 refine lnow 0 (.int .i64 0) (some 2) ?_
 refine lnow 1 (.slice none 0 0) (some 3) ?_
 refine lnow 2 (.bool false) (some 4) ?_
 refine ldn 3 ?_
 generalize hact : Act.put _ (some 4) _ = act
 simp only [Act.put, sA, sC, sZ] at hact
 subst hact
 go_upto_region 1 with (fail)
 refine lbeg (opsOf Try.f23 1) ?_
 refine lnow 0 (b) (some 5) ?_
 cases hn : numP l with
 | none =>
  rw [hn] at CALL
  refine lcal 1 48 #[b, .func (.func 49) #[] #[]] (some 6) _ (CALL) ?_
  rintro e w' ⟨hb, rfl⟩
  refine ⟨_, rfl, ?_⟩
  have POST : Hid (TkP (numP l) RInt (.int .i64 0) w _ w') := TkP.no hb hn
  refine lnow 2 (.int .i64 0) (some 7) ?_
  refine lnow 3 (.slice none 0 0) (some 8) ?_
  refine lnow 4 (.bool false) (some 9) ?_
  refine lnow 5 (.int .i64 0) (some 2) ?_
  refine lnow 6 (.slice none 0 0) (some 3) ?_
  refine lnow 7 (.bool false) (some 4) ?_
  refine ldn 8 ?_
  generalize hact : Act.put _ (some 4) _ = act
  simp only [Act.put, sA, sC, sZ] at hact
  subst hact
  go_wp2
  refine bodyPost_ret (v := .tuple #[.int .i64 0, .slice none 0 0, .bool false]) ?_ rfl (POST.out)
  kernel_rfl
 | some y =>
  obtain ⟨n, r⟩ := y
  rw [hn] at CALL
  refine lcal 1 48 #[b, .func (.func 49) #[] #[]] (some 6) _ (CALL) ?_
  rintro e w' ⟨hb, v, v', rfl, hv, hr⟩
  obtain rfl : v = .int .i64 n := hv
  refine ⟨_, rfl, ?_⟩
  have POST : Hid (TkP (numP l) RInt (.int .i64 0) w (.returned (.tuple #[.int .i64 n, v', .bool true])) w') := TkP.yes hb hn rfl hr
  refine lnow 2 (.int .i64 n) (some 7) ?_
  refine lnow 3 (v') (some 8) ?_
  refine lnow 4 (.bool true) (some 9) ?_
  refine lnow 5 (.int .i64 n) (some 2) ?_
  refine lnow 6 (v') (some 3) ?_
  refine lnow 7 (.bool true) (some 4) ?_
  refine ldn 8 ?_
  generalize hact : Act.put _ (some 4) _ = act
  simp only [Act.put, sA, sC, sZ] at hact
  subst hact
  go_wp2
  refine bodyPost_ret (v := .tuple #[.int .i64 n, v', .bool true]) ?_ rfl (POST.out)
  kernel_rfl
theorem TakeLib_walk (b : Value) (l : List Int) (w : World) (h : BytesIn w b l) (hi : isB l) (hl : l.length ≤ 1000000000) : Calls Try.prog 28 #[b] w (TlP (libP l) w) := by
 have CALL := taken_walkL b l w h hi hl
 clear h hi hl
 go_enter Try.func28, Try.ntmps28
 go_upto_region 0 with (fail)
 refine lbeg (opsOf Try.f28 0) ?_
 refine lnow 0 (.slice none 0 0) (some 2) ?_
 refine lnow 1 (.bool false) (some 3) ?_
 refine ldn 2 ?_
 generalize hact : Act.put _ (some 3) _ = act
 simp only [Act.put, sA, sC, sZ] at hact
 subst hact
 go_upto_region 1 with (fail)
 refine lbeg (opsOf Try.f28 1) ?_
 refine lnow 0 (b) (some 8) ?_
 cases hn : libP l with
 | none =>
  rw [libQ_no hn] at CALL
  refine lcal 1 58 #[b, .func (.func 59) #[] #[]] (some 9) _ (CALL) ?_
  rintro e w' ⟨hb, rfl⟩
  refine ⟨_, rfl, ?_⟩
  have POST : Hid (TlP (libP l) w _ w') := TlP.no hb hn
  refine lnow 2 (.tuple #[.slice none 0 0, .slice none 0 0, .bool false]) (some 7) ?_
  refine lnow 3 (.slice none 0 0) (some 10) ?_
  refine lnow 4 (.slice none 0 0) (some 11) ?_
  refine lnow 5 (.bool false) (some 12) ?_
  refine lnow 6 (.slice none 0 0) (some 4) ?_
  refine lnow 7 (.slice none 0 0) (some 5) ?_
  refine lnow 8 (.bool false) (some 6) ?_
  refine ldn 9 ?_
  generalize hact : Act.put _ (some 6) _ = act
  simp only [Act.put, sA, sC, sZ] at hact
  subst hact
  go_upto_region 2 with (fail)
  refine lbeg (opsOf Try.f28 2) ?_
  refine lnow 0 (.slice none 0 0) (some 13) ?_
  refine lnow 1 (.bool false) (some 14) ?_
  refine lnow 2 (.slice none 0 0) (some 2) ?_
  refine lnow 3 (.bool false) (some 3) ?_
  refine ldn 4 ?_
  generalize hact : Act.put _ (some 3) _ = act
  simp only [Act.put, sA, sC, sZ] at hact
  subst hact
  go_wp2
  go_ret2
  exact POST.out
 | some ds =>
  rw [libQ_yes hn] at CALL
  refine lcal 1 58 #[b, .func (.func 59) #[] #[]] (some 9) _ (CALL) ?_
  rintro e w' ⟨hb, v, v', rfl, hv, hr⟩
  have DX : DcsAt (List.range w.heap.size) w' ds v := hv
  refine ⟨_, rfl, ?_⟩
  have POST : Hid (TlP (libP l) w (.returned (.tuple #[v, .bool true])) w') := TlP.yes hb hn DX
  clear hv DX hr
  refine lnow 2 (.tuple #[v, v', .bool true]) (some 7) ?_
  refine lnow 3 (v) (some 10) ?_
  refine lnow 4 (v') (some 11) ?_
  refine lnow 5 (.bool true) (some 12) ?_
  refine lnow 6 (v) (some 4) ?_
  refine lnow 7 (v') (some 5) ?_
  refine lnow 8 (.bool true) (some 6) ?_
  refine ldn 9 ?_
  generalize hact : Act.put _ (some 6) _ = act
  simp only [Act.put, sA, sC, sZ] at hact
  subst hact
  go_upto_region 2 with (fail)
  refine lbeg (opsOf Try.f28 2) ?_
  refine lnow 0 (v) (some 13) ?_
  refine lnow 1 (.bool true) (some 14) ?_
  refine lnow 2 (v) (some 2) ?_
  refine lnow 3 (.bool true) (some 3) ?_
  refine ldn 4 ?_
  generalize hact : Act.put _ (some 3) _ = act
  simp only [Act.put, sA, sC, sZ] at hact
  subst hact
  go_wp2
  go_ret2
  exact POST.out
end Go.Proofs.Yteohjbggicchgaa
