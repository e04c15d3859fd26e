/- The reader's declaration. -/
import Derived.Test.YteohjbggicchgaaKGenT
import Derived.Test.YteohjbggicchgaaKCodW
namespace Go.Proofs.Yteohjbggicchgaa
open Go Go.RowKit
set_option maxRecDepth 100000
/-- Where decl stands ahead of its own block. -/
structure PSt (q B : Nat) (w0 : World) (l : List Int) (m : Nat) (wr : World) : Prop where
 br : Blk wr B 38 zD
 rd : RdAt q wr l m
 be : Bel [q] B w0 wr
 qb : q < B
theorem PSt.call {q B m m' : Nat} {w0 wr w' : World} {l l' : List Int} (h : PSt q B w0 l m wr) (hb : Bel [q] wr.heap.size wr w') (hr : RdAt q w' l' m') : PSt q B w0 l' m' w' :=
 ⟨bel_keep hb h.br (by have := h.qb; omega) h.br.lt, hr, h.be.trans (hb.mono (Nat.le_of_lt h.br.lt)), h.qb⟩
theorem PSt.fell {q B m : Nat} {w0 wr w' : World} {l : List Int} (h : PSt q B w0 l m wr) (hb : Bel [q] wr.heap.size wr w') : Bel [q] B w0 w' := h.be.trans (hb.mono (Nat.le_of_lt h.br.lt))
theorem DcForm.re {d d' : Dc} {cs tc vc : List Value} {cv : Value} (h : DcForm d cs tc vc cv) (h1 : d'.kind = d.kind) (h2 : d'.params = d.params) (h3 : d'.name = d.name) (h4 : d'.fixed = d.fixed) : DcForm d' cs tc vc cv := ⟨by rw [h.e, h1, h2, h3, h4], h.t5, h.v5⟩
theorem DcForm.putVal {d : Dc} {cs tc vc vc' : List Value} {cv : Value} (h : DcForm d cs tc vc cv) (hv : vc'.length = 5) : DcForm d (splice cs 8 vc') tc vc' cv := by
 obtain ⟨a, b, c, x, y, a', b', c', x', y', rfl, rfl, e⟩ := h.open
 match vc', hv with
 | [p, q, r, s, t], _ =>
  subst e
  exact ⟨rfl, rfl, rfl⟩
theorem DcForm.putFixed {d : Dc} {cs tc vc : List Value} {cv : Value} (h : DcForm d cs tc vc cv) (f : Int) : DcForm { d with fixed := f } (cs.set 13 (.int .i64 f)) tc vc cv := by
 obtain ⟨a, b, c, x, y, a', b', c', x', y', rfl, rfl, e⟩ := h.open
 subst e
 exact ⟨rfl, rfl, rfl⟩
theorem DcForm.putCts {d : Dc} {cs tc vc : List Value} {cv : Value} (h : DcForm d cs tc vc cv) (cv' : Value) : DcForm d (cs.set 14 cv') tc vc cv' := by
 obtain ⟨a, b, c, x, y, a', b', c', x', y', rfl, rfl, e⟩ := h.open
 subst e
 exact ⟨rfl, rfl, rfl⟩
theorem grown_stepD {F : List Nat} {w w' : World} {v v' : Value} (hg : w.grownBy w' v.ownBlock) (ha : v'.ownBlock = v.ownBlock ∨ v'.ownBlock = some w.heap.size) : Step (F ++ ownL v) w (F ++ ownL v') w' :=
 ⟨hg.os, hg.tape, hg.output, hg.size, fun k hk hn => hg.block k hk (fun e => hn (List.mem_append_right _ (ownL_mem.2 e.symm))), fun k hk => by
  rcases List.mem_append.1 hk with hk | hk
  ·exact .inl (List.mem_append_left _ hk)
  ·rcases ha with ha | ha
   ·exact .inl (List.mem_append_right _ (ownL_mem.2 (ha ▸ ownL_mem.1 hk)))
   ·refine .inr ?_
    have := ownL_mem.1 hk
    rw [ha] at this
    exact Nat.le_of_eq (Option.some.inj this)⟩
set_option maxHeartbeats 8000000 in
theorem decl_walkR (q : Nat) (w : World) (l : List Int) (m : Nat) (h : RdAt q w l m) : Calls Try.prog 57 #[.pointer (some ⟨q, 0, none⟩)] w (RdM q (declP l) RDc w) := by
 obtain ⟨B, hB⟩ : ∃ B, Hid (w.heap.size = B) := ⟨_, rfl⟩
 have H := Lib.hid h
 have QB : Hid (q < B) := by rw [← hB.out]; exact h.lt
 clear h
 go_enter Try.func57, Try.ntmps57
 go_upto_region 0 with (fail)
 refine lbeg (opsOf Try.f57 0) ?_
 refine lin_alloc 0 38 zD B (some 2) (by kernel_rfl) (by kernel_rfl) (by kernel_rfl) zeroDc hB ?_
 intro w1 b1 be1 hs1
 refine ldn 1 ?_
 generalize hact : Act.put _ (some 2) _ = act
 simp only [Act.put, sA, sC, sZ] at hact
 subst hact
 have PS : Hid (PSt q B w l m w1) := ⟨b1, H.out.below be1 QB.out, Bel.of be1, QB.out⟩
 clear b1 be1 hs1 H
 go_upto_region 1 with (fail)
 refine lbeg (opsOf Try.f57 1) ?_
 refine lnow 0 (.pointer (some ⟨q, 0, none⟩)) (some 4) ?_
 have SM := small_walk q w1 l _ PS.out.rd
 cases l with
 | nil =>
  refine lin_callP 1 77 #[.pointer (some ⟨q, 0, none⟩)] (some 5) _ (by kernel_rfl) (by kernel_rfl) (by kernel_rfl) (SM) ?_
  rintro e w' ⟨hb, hr⟩
  obtain rfl : e = fellF := hr
  exact .inr ⟨_, rfl, rfl, RdM.no (by rw [hB.out]; exact PS.out.fell hb) (declP_no (rawP_a))⟩
 | cons k l =>
  refine lin_callP 1 77 #[.pointer (some ⟨q, 0, none⟩)] (some 5) _ (by kernel_rfl) (by kernel_rfl) (by kernel_rfl) (SM) ?_
  rintro e w2 ⟨hb, v, rfl, hv, hr⟩
  obtain rfl : v = .int .i64 k := hv
  refine .inl ⟨_, rfl, ?_⟩
  have PS := Lib.hid (PS.out.call hb hr)
  clear hb hr SM
  refine lnow 2 (.pointer (some ⟨q, 0, none⟩)) (some 6) ?_
  have TG := fun s r => textP_good (s := s) (r := r) PS.out.rd.bytes.1 PS.out.rd.bytes.2
  have CALL := text_walkR q w2 l _ PS.out.rd
  cases hn : textP l with
  | none =>
   rw [hn] at CALL
   refine lin_callP 3 81 #[.pointer (some ⟨q, 0, none⟩)] (some 7) _ (by kernel_rfl) (by kernel_rfl) (by kernel_rfl) (CALL) ?_
   rintro e w' ⟨hb, hr⟩
   obtain rfl : e = fellF := hr
   exact .inr ⟨_, rfl, rfl, RdM.no (by rw [hB.out]; exact PS.out.fell hb) (declP_no (rawP_b hn))⟩
  | some y =>
   obtain ⟨s, l2⟩ := y
   have SL := Lib.hid (TG s l2 hn).1
   clear TG
   rw [hn] at CALL
   refine lin_callP 3 81 #[.pointer (some ⟨q, 0, none⟩)] (some 7) _ (by kernel_rfl) (by kernel_rfl) (by kernel_rfl) (CALL) ?_
   rintro e w3 ⟨hb, v, rfl, hv, hr⟩
   obtain rfl : v = strT s := hv
   refine .inl ⟨_, rfl, ?_⟩
   have PS := Lib.hid (PS.out.call hb hr)
   clear hb hr CALL
   refine lnow 4 (.pointer (some ⟨q, 0, none⟩)) (some 8) ?_
   have SM := small_walk q w3 l2 _ PS.out.rd
   cases l2 with
   | nil =>
    refine lin_callP 5 77 #[.pointer (some ⟨q, 0, none⟩)] (some 9) _ (by kernel_rfl) (by kernel_rfl) (by kernel_rfl) (SM) ?_
    rintro e w' ⟨hb, hr⟩
    obtain rfl : e = fellF := hr
    exact .inr ⟨_, rfl, rfl, RdM.no (by rw [hB.out]; exact PS.out.fell hb) (declP_no (rawP_c hn))⟩
   | cons p l3 =>
    refine lin_callP 5 77 #[.pointer (some ⟨q, 0, none⟩)] (some 9) _ (by kernel_rfl) (by kernel_rfl) (by kernel_rfl) (SM) ?_
    rintro e w4 ⟨hb, v, rfl, hv, hr⟩
    obtain rfl : v = .int .i64 p := hv
    refine .inl ⟨_, rfl, ?_⟩
    have PS := Lib.hid (PS.out.call hb hr)
    clear hb hr SM
    refine lnow 6 (.pointer (some ⟨q, 0, none⟩)) (some 10) ?_
    have TG := fun x r => termP_good (t := x) (r := r) PS.out.rd.bytes.1 PS.out.rd.bytes.2
    have CALL := term_walkR q w4 l3 _ PS.out.rd
    cases ht : termP l3 with
    | none =>
     rw [ht] at CALL
     refine lin_callP 7 53 #[.pointer (some ⟨q, 0, none⟩)] (some 11) _ (by kernel_rfl) (by kernel_rfl) (by kernel_rfl) (CALL) ?_
     rintro e w' ⟨hb, hr⟩
     obtain rfl : e = fellF := hr
     exact .inr ⟨_, rfl, rfl, RdM.no (by rw [hB.out]; exact PS.out.fell hb) (declP_no (rawP_d hn ht))⟩
    | some y =>
     obtain ⟨t, l4⟩ := y
     have TGD := Lib.hid (TG t l4 ht).1
     clear TG
     rw [ht] at CALL
     refine lin_callP 7 53 #[.pointer (some ⟨q, 0, none⟩)] (some 11) _ (by kernel_rfl) (by kernel_rfl) (by kernel_rfl) (CALL) ?_
     rintro e w5 ⟨hb, v, m5, rfl, ⟨tc, rfl, htc⟩, hr⟩
     refine .inl ⟨_, rfl, ?_⟩
     have S4 := Nat.le_of_lt PS.out.br.lt
     have B4 : Hid (B < w4.heap.size) := PS.out.br.lt
     have PS := Lib.hid (PS.out.call hb hr)
     have TC5 := Lib.hid htc.len
     have R1 : Hid (rawP (k :: l) = restP k p s t l4) := rawP_e hn ht
     have GD := Lib.hid (fun d r => restP_good (k := k) (p := p) (d := d) (r := r) PS.out.rd.bytes.1 PS.out.rd.bytes.2 SL.out TGD.out)
     obtain ⟨z, hz⟩ : ∃ z, Hid (w5.heap.size = z) := ⟨_, rfl⟩
     have BZ : Hid (B < z) := by have := PS.out.br.lt; have := hz.out; rw [Hid]; omega
     obtain ⟨F, hF⟩ : ∃ F, F = List.range (B + 1) ++ [z] := ⟨_, rfl⟩
     have QF : Hid (q ∈ F) := by rw [Hid, hF]; exact List.mem_append_left _ (List.mem_range.2 (by have := QB.out; omega))
     have BF : Hid (B ∈ F) := by rw [Hid, hF]; exact List.mem_append_left _ (List.mem_range.2 (by omega))
     have ZF : Hid (z ∈ F) := by rw [Hid, hF]; simp
     have FZ : Hid (∀ k ∈ F, k < z + 1) := fun k hk => by
      rw [hF] at hk
      have := BZ.out
      rcases List.mem_append.1 hk with hk | hk
      ·have := List.mem_range.1 hk; omega
      ·simp at hk; omega
     have RF : Hid (∀ k, k < B → k ∈ F) := fun k hk => by rw [hF]; exact List.mem_append_left _ (List.mem_range.2 (by omega))
     have TYF : Hid (TmAt F w5 t tc) := TmAt.sub (fun k hk => by
      rw [hF] at hk
      have := B4.out
      rcases List.mem_append.1 hk with hk | hk
      ·have := List.mem_range.1 hk; exact .inl (List.mem_range.2 (by omega))
      ·simp at hk; exact .inr (by have := hz.out; omega)) _ _ htc
     have BUILD := Lib.hid (run_build_dc htc k p s)
     clear hF hb hr CALL htc S4 B4 SL TGD
     refine lnowP 8 (.agg (dC0 k p s tc).toArray) (some 12) (exec_of (Instr.build 38 #[(0, .int .i64 k), (2, strT s), (1, .int .i64 p), (3, .agg tc.toArray)]) _ (by kernel_rfl) (BUILD.out _)) ?_
     obtain ⟨CS, hCS⟩ : ∃ x, Hid (dC0 k p s tc = x) := ⟨_, rfl⟩
     have FM : Hid (DcForm ⟨k, p, s, t, nT, 0, []⟩ CS tc z5T (.slice none 0 0)) := by rw [← hCS.out]; exact dC0_form TC5.out
     have ONE : Hid (∀ u ∈ CS, u.oneCell' = true) := (show DcAt F w5 _ CS from ⟨tc, z5T, _, FM.out, TYF.out, nT_at _ _, CtsAt.nil _ _ _ _⟩).one
     rw [hCS.out]
     clear hCS BUILD
     refine lin_alloc 9 38 zD z (some 3) (by kernel_rfl) (by kernel_rfl) (by kernel_rfl) zeroDc hz ?_
     intro w6 b6 be6 hs6
     refine lput 10 38 (.tmp 3) (.tmp 12) z _ zD CS b6 (FM.out.len.trans (rfl : 15 = zD.length)) (dcSize FM.out.len) (by simpa using ONE.out) ?_
     intro w7 b7 u7
     refine ldn 11 ?_
     generalize hact : Act.put _ none _ = act
     simp only [Act.put, sA, sC, sZ] at hact
     subst hact
     have B57 : Below z w5 w7 := u7.below be6 (Nat.le_refl _) (by have := hs6.out; omega)
     have bz := BZ.out
     have qb := QB.out
     have NS : Hid (DSt q B w CS z l4 m5 w7) := ⟨b7, PS.out.br.below B57 bz, PS.out.rd.below B57 (by omega), PS.out.be.trans (Bel.of (B57.mono (Nat.le_of_lt bz))), qb, bz⟩
     have TY : Hid (TmAt F w7 t tc) := TYF.out.below (by rw [hz.out]; exact B57)
     clear b6 be6 hs6 b7 u7 B57 PS TYF ONE hz bz qb
     go_upto_region 2 with (fail)
     refine lbeg (opsOf Try.f57 2) ?_
     refine lnow 0 (.pointer (some ⟨z, 0, none⟩)) (some 13) ?_
     refine lcl 1 (.int .i64 k) (some 14) 3 13 (z) 0 (FM.out.k NS.out.bt) Try.underlying3 ?_
     refine ldn 2 ?_
     generalize hact : Act.put _ (some 14) _ = act
     simp only [Act.put, sA, sC, sZ] at hact
     subst hact
     go_upto_block 0 with (fail)
     go_cut [] from 15 (fun wc => ∃ (d : Dc) (r : List Int) (m' : Nat) (cs : List Value), Hid (restP k p s t l4 = some (d, r)) ∧ Hid (DcAt F wc d cs) ∧ Hid (DSt q B w cs z r m' wc))
     case first =>
      go_upto_region 3 with (fail)
      refine lbeg (opsOf Try.f57 3) ?_
      refine lnow 0 (.bool (decide (k = 2))) (some 16) ?_
      refine lnow 1 (.bool (decide (k = 2))) (some 15) ?_
      refine ldn 2 ?_
      generalize hact : Act.put _ (some 15) _ = act
      simp only [Act.put, sA, sC, sZ] at hact
      subst hact
      by_cases h2 : k = 2
      ·skip
       rw [decide_eq_true h2]
       have e2 := Lib.hid h2
       clear h2
       go_upto_region 5 with (fail)
       refine lbeg (opsOf Try.f57 5) ?_
       refine lnow 0 (.pointer (some ⟨q, 0, none⟩)) (some 18) ?_
       have CALL := term_walkR q w7 l4 _ NS.out.rd
       cases hv : termP l4 with
       | none =>
        rw [hv] at CALL
        refine lin_callP 1 53 #[.pointer (some ⟨q, 0, none⟩)] (some 19) _ (by kernel_rfl) (by kernel_rfl) (by kernel_rfl) (CALL) ?_
        rintro e w' ⟨hb, hr⟩
        obtain rfl : e = fellF := hr
        exact .inr ⟨_, rfl, rfl, RdM.no (by rw [hB.out]; exact NS.out.fell hb) (declP_no (R1.out.trans (restP_2n (.inl e2.out) hv)))⟩
       | some y =>
        obtain ⟨vt, l5⟩ := y
        rw [hv] at CALL
        refine lin_callP 1 53 #[.pointer (some ⟨q, 0, none⟩)] (some 19) _ (by kernel_rfl) (by kernel_rfl) (by kernel_rfl) (CALL) ?_
        rintro e w8 ⟨hb, v, m8, rfl, ⟨vc, rfl, hvc⟩, hr⟩
        refine .inl ⟨_, rfl, ?_⟩
        have SZ7 := NS.out.bt.lt
        have NS := Lib.hid (NS.out.call hb hr)
        have VC5 := Lib.hid hvc.len
        have VONE := Lib.hid hvc.one
        have TY8 : Hid (TmAt F w8 t tc) := TmAt.step (hb.step (Nat.le_refl _) (fun k hk => by rw [List.mem_singleton.1 hk]; exact QF.out)) _ _ TY.out
        have VT8 : Hid (TmAt F w8 vt vc) := TmAt.sub (fun k hk => .inl (List.mem_range.2 (by have := FZ.out k hk; omega))) _ _ hvc
        clear TY hvc hb hr CALL SZ7
        refine lnow 2 (.pointer (some ⟨z, 8, none⟩)) (some 20) ?_
        refine lin_putM 3 8 25 (.tmp 20) (.tmp 19) z 38 CS vc (by kernel_rfl) (by kernel_rfl) (by kernel_rfl) (by kernel_rfl) (by kernel_rfl) NS.out.bt (by rw [FM.out.len, VC5.out]; decide) (t5Size VC5.out) (by simpa using VONE.out) ?_
        intro w9 b9 u9
        refine ldn 4 ?_
        generalize hact : Act.put _ none _ = act
        simp only [Act.put, sA, sC, sZ] at hact
        subst hact
        have SU : Step F w8 F w9 := Step.of_upd u9 ZF.out
        have DA : Hid (DcAt F w9 ⟨k, p, s, t, vt, 0, []⟩ (splice CS 8 vc)) := ⟨tc, vc, _, (FM.out.putVal VC5.out).re rfl rfl rfl rfl, TmAt.step SU _ _ TY8.out, TmAt.step SU _ _ VT8.out, CtsAt.nil _ _ _ _⟩
        have RP : Hid (restP k p s t l4 = some (⟨k, p, s, t, vt, 0, []⟩, l5)) := restP_2 (.inl e2.out) hv
        have NS9 : Hid (DSt q B w (splice CS 8 vc) z l5 m8 w9) := NS.out.set b9 u9
        clear b9 u9 NS TY8 VT8 SU
        go_wp2
        go_meet
        case rel => exact ⟨_, _, _, _, RP, DA, NS9⟩
      rw [decide_eq_false h2]
      go_upto_region 4 with (fail)
      refine lbeg (opsOf Try.f57 4) ?_
      refine lnow 0 (.bool (decide (k = 3))) (some 17) ?_
      refine lnow 1 (.bool (decide (k = 3))) (some 15) ?_
      refine ldn 2 ?_
      generalize hact : Act.put _ (some 15) _ = act
      simp only [Act.put, sA, sC, sZ] at hact
      subst hact
      by_cases h3 : k = 3
      ·skip
       rw [decide_eq_true h3]
       have e3 := Lib.hid h3
       clear h3
       go_upto_region 5 with (fail)
       refine lbeg (opsOf Try.f57 5) ?_
       refine lnow 0 (.pointer (some ⟨q, 0, none⟩)) (some 18) ?_
       have CALL := term_walkR q w7 l4 _ NS.out.rd
       cases hv : termP l4 with
       | none =>
        rw [hv] at CALL
        refine lin_callP 1 53 #[.pointer (some ⟨q, 0, none⟩)] (some 19) _ (by kernel_rfl) (by kernel_rfl) (by kernel_rfl) (CALL) ?_
        rintro e w' ⟨hb, hr⟩
        obtain rfl : e = fellF := hr
        exact .inr ⟨_, rfl, rfl, RdM.no (by rw [hB.out]; exact NS.out.fell hb) (declP_no (R1.out.trans (restP_2n (.inr e3.out) hv)))⟩
       | some y =>
        obtain ⟨vt, l5⟩ := y
        rw [hv] at CALL
        refine lin_callP 1 53 #[.pointer (some ⟨q, 0, none⟩)] (some 19) _ (by kernel_rfl) (by kernel_rfl) (by kernel_rfl) (CALL) ?_
        rintro e w8 ⟨hb, v, m8, rfl, ⟨vc, rfl, hvc⟩, hr⟩
        refine .inl ⟨_, rfl, ?_⟩
        have SZ7 := NS.out.bt.lt
        have NS := Lib.hid (NS.out.call hb hr)
        have VC5 := Lib.hid hvc.len
        have VONE := Lib.hid hvc.one
        have TY8 : Hid (TmAt F w8 t tc) := TmAt.step (hb.step (Nat.le_refl _) (fun k hk => by rw [List.mem_singleton.1 hk]; exact QF.out)) _ _ TY.out
        have VT8 : Hid (TmAt F w8 vt vc) := TmAt.sub (fun k hk => .inl (List.mem_range.2 (by have := FZ.out k hk; omega))) _ _ hvc
        clear TY hvc hb hr CALL SZ7
        refine lnow 2 (.pointer (some ⟨z, 8, none⟩)) (some 20) ?_
        refine lin_putM 3 8 25 (.tmp 20) (.tmp 19) z 38 CS vc (by kernel_rfl) (by kernel_rfl) (by kernel_rfl) (by kernel_rfl) (by kernel_rfl) NS.out.bt (by rw [FM.out.len, VC5.out]; decide) (t5Size VC5.out) (by simpa using VONE.out) ?_
        intro w9 b9 u9
        refine ldn 4 ?_
        generalize hact : Act.put _ none _ = act
        simp only [Act.put, sA, sC, sZ] at hact
        subst hact
        have SU : Step F w8 F w9 := Step.of_upd u9 ZF.out
        have DA : Hid (DcAt F w9 ⟨k, p, s, t, vt, 0, []⟩ (splice CS 8 vc)) := ⟨tc, vc, _, (FM.out.putVal VC5.out).re rfl rfl rfl rfl, TmAt.step SU _ _ TY8.out, TmAt.step SU _ _ VT8.out, CtsAt.nil _ _ _ _⟩
        have RP : Hid (restP k p s t l4 = some (⟨k, p, s, t, vt, 0, []⟩, l5)) := restP_2 (.inr e3.out) hv
        have NS9 : Hid (DSt q B w (splice CS 8 vc) z l5 m8 w9) := NS.out.set b9 u9
        clear b9 u9 NS TY8 VT8 SU
        go_wp2
        go_meet
        case rel => exact ⟨_, _, _, _, RP, DA, NS9⟩
      rw [decide_eq_false h3]
      go_upto_region 6 with (fail)
      refine lbeg (opsOf Try.f57 6) ?_
      refine lnow 0 (.bool (decide (k = 4))) (some 22) ?_
      refine lnow 1 (.bool (decide (k = 4))) (some 21) ?_
      refine ldn 2 ?_
      generalize hact : Act.put _ (some 21) _ = act
      simp only [Act.put, sA, sC, sZ] at hact
      subst hact
      by_cases h4 : k = 4
      ·skip
       rw [decide_eq_true h4]
       have e4 := Lib.hid h4
       clear h4
       go_upto_region 7 with (fail)
       refine lbeg (opsOf Try.f57 7) ?_
       refine lnow 0 (.pointer (some ⟨q, 0, none⟩)) (some 23) ?_
       have SM := small_walk q w7 l4 _ NS.out.rd
       cases l4 with
       | nil =>
        refine lin_callP 1 77 #[.pointer (some ⟨q, 0, none⟩)] (some 24) _ (by kernel_rfl) (by kernel_rfl) (by kernel_rfl) (SM) ?_
        rintro e w' ⟨hb, hr⟩
        obtain rfl : e = fellF := hr
        exact .inr ⟨_, rfl, rfl, RdM.no (by rw [hB.out]; exact NS.out.fell hb) (declP_no (R1.out.trans (restP_4a e4.out)))⟩
       | cons f l5 =>
        refine lin_callP 1 77 #[.pointer (some ⟨q, 0, none⟩)] (some 24) _ (by kernel_rfl) (by kernel_rfl) (by kernel_rfl) (SM) ?_
        rintro e w8 ⟨hb, v, rfl, hv, hr⟩
        obtain rfl : v = .int .i64 f := hv
        refine .inl ⟨_, rfl, ?_⟩
        have NSn := Lib.hid (NS.out.call hb hr)
        have TYn : Hid (TmAt F w8 t tc) := TmAt.step (hb.step (Nat.le_refl _) (fun k hk => by rw [List.mem_singleton.1 hk]; exact QF.out)) _ _ TY.out
        clear hb hr SM NS TY
        have NS := NSn
        have TY := TYn
        clear NSn TYn
        refine lnow 2 (.pointer (some ⟨z, 13, none⟩)) (some 25) ?_
        refine lin_putF 3 13 3 (.tmp 25) (.tmp 24) z 38 CS (.int .i64 f) (by kernel_rfl) (by kernel_rfl) (by kernel_rfl) (by kernel_rfl) (by kernel_rfl) NS.out.bt (by rw [FM.out.len]; decide) sizeIntR rfl rfl ?_
        intro w9 b9 u9
        refine ldn 4 ?_
        generalize hact : Act.put _ none _ = act
        simp only [Act.put, sA, sC, sZ] at hact
        subst hact
        have TYn : Hid (TmAt F w9 t tc) := TmAt.step (Step.of_upd u9 ZF.out) _ _ TY.out
        have FMF := Lib.hid (FM.out.putFixed f)
        obtain ⟨CF, hCF⟩ : ∃ x, Hid (CS.set 13 (.int .i64 f) = x) := ⟨_, rfl⟩
        rw [hCF.out] at b9 FMF
        have NSn : Hid (DSt q B w CF z l5 _ w9) := NS.out.set b9 u9
        clear b9 u9 hCF NS TY
        have NS := NSn
        have TY := TYn
        clear NSn TYn
        go_upto_region 8 with (fail)
        refine lbeg (opsOf Try.f57 8) ?_
        refine lnow 0 (.pointer (some ⟨q, 0, none⟩)) (some 26) ?_
        have SM := small_walk q w9 l5 _ NS.out.rd
        cases l5 with
        | nil =>
         refine lin_callP 1 77 #[.pointer (some ⟨q, 0, none⟩)] (some 27) _ (by kernel_rfl) (by kernel_rfl) (by kernel_rfl) (SM) ?_
         rintro e w' ⟨hb, hr⟩
         obtain rfl : e = fellF := hr
         exact .inr ⟨_, rfl, rfl, RdM.no (by rw [hB.out]; exact NS.out.fell hb) (declP_no (R1.out.trans (restP_4b e4.out)))⟩
        | cons c l6 =>
         obtain ⟨c, rfl⟩ := Int.eq_ofNat_of_zero_le NS.out.rd.bytes.1.head.1
         have C255 : Hid (c ≤ 255) := by have := NS.out.rd.bytes.1.head.2; rw [Hid]; omega
         refine lin_callP 1 77 #[.pointer (some ⟨q, 0, none⟩)] (some 27) _ (by kernel_rfl) (by kernel_rfl) (by kernel_rfl) (SM) ?_
         rintro e w10 ⟨hb, v, rfl, hv, hr⟩
         obtain rfl : v = .int .i64 (c : Int) := hv
         refine .inl ⟨_, rfl, ?_⟩
         have NSn := Lib.hid (NS.out.call hb hr)
         have TYn : Hid (TmAt F w10 t tc) := TmAt.step (hb.step (Nat.le_refl _) (fun k hk => by rw [List.mem_singleton.1 hk]; exact QF.out)) _ _ TY.out
         clear hb hr SM NS TY
         have NS := NSn
         have TY := TYn
         clear NSn TYn
         refine lnow 2 (.int .i64 0) (some 28) ?_
         refine ldn 3 ?_
         generalize hact : Act.put _ (some 28) _ = act
         simp only [Act.put, sA, sC, sZ] at hact
         subst hact
         obtain ⟨wo, hwo⟩ : ∃ y, Hid (w10 = y) := ⟨_, rfl⟩
         rw [hwo.out] at TY NS ⊢
         clear hwo
         go_wp2
         go_loopw [28] (fun iv wr => ∃ (i : Nat) (cv : Value) (cs : List (List UInt8 × Tm)) (li : List Int) (mi : Nat) (CI : List Value), i ≤ c ∧ iv = .int .i64 (i : Int) ∧ Hid (cs.length = i) ∧ Hid (RowK (z + 1) wr cv cs) ∧ Hid (DSt q B w CI z li mi wr) ∧ Hid (DcForm ⟨k, p, s, t, nT, f, []⟩ CI tc z5T cv) ∧ Hid (TmAt (F ++ ownL cv) wr t tc) ∧ Hid (TimesAt ctorP c l6 i cs li)) (fun iv _ => c - (intOf iv).toNat)
         case atStart => exact ⟨0, .slice none 0 0, [], l6, _, CF, Nat.zero_le _, rfl, rfl, RowK.nil _ _, NS, FMF, TmAt.sub (fun k hk => .inl (by simpa [ownL, Value.ownBlock] using hk)) _ _ TY.out, TimesAt.start _ _ _⟩
         case round =>
          clear NS TY FMF
          obtain ⟨i, cv, cs, li, mi, CI, hi, rfl, LN, RK, NS, FI, TY, TA⟩ := hrel
          by_cases hlt : i < c
          ·skip
           have c1 : (i : Int) < (c : Int) := by omega
           go_upto_region 9 with (fail)
           refine lbeg (opsOf Try.f57 9) ?_
           refine lnow 0 (.bool (decide ((i : Int) < (c : Int)))) (some 29) ?_
           rw [decide_eq_true c1]
           refine ldn 1 ?_
           generalize hact : Act.put _ (some 29) _ = act
           simp only [Act.put, sA, sC, sZ] at hact
           subst hact
           go_upto_region 10 with (fail)
           refine region_beginP (opsOf Try.f57 10) (fun _ => True) (by kernel_rfl) (by kernel_rfl) 11 (by kernel_rfl) ?_
           intro Q' hQN hN hP
           have HD : Below wr.heap.size wr wr.drew := (Below.refl _ _).drew
           have NS := Lib.hid (NS.out.below HD NS.out.bt.lt)
           have RK := Lib.hid (RK.out.below HD)
           have TY := Lib.hid (TY.out.below HD)
           clear HD
           generalize wr.drew = wd at NS RK TY ⊢
           refine reg_now 0 (.pointer (some ⟨z, 14, none⟩)) (some 30) hQN trivial (by kernel_rfl) (by kernel_rfl) (fun w => by kernel_rfl) ?_
           refine reg_now 2 (.pointer (some ⟨q, 0, none⟩)) (some 32) hQN trivial (by kernel_rfl) (by kernel_rfl) (fun w => by kernel_rfl) ?_
           refine reg_now 4 (.pointer (some ⟨q, 0, none⟩)) (some 34) hQN trivial (by kernel_rfl) (by kernel_rfl) (fun w => by kernel_rfl) ?_
           refine reg_lccP (fun w1 => Bel [q] wd.heap.size wd w1) 1 3 5 6 7 cv 31 33 35 36 37 81 53 #[.pointer (some ⟨q, 0, none⟩)] #[.pointer (some ⟨q, 0, none⟩)] _ trivial (fun _ _ => trivial) (by kernel_rfl) (by kernel_rfl) (by kernel_rfl) (by kernel_rfl) (by kernel_rfl) (by kernel_rfl) (by kernel_rfl) (by decide) (by decide) (exec_load_cell 36 (.tmp 30) (by kernel_rfl) z 14 (by kernel_rfl) _ (FI.out.c (NS.out.bt)) _ Try.underlying36 rfl) (fun v1 w1 hb1 => exec_load_cell 36 (.tmp 30) (by kernel_rfl) z 14 (by kernel_rfl) _ (FI.out.c (bel_keep hb1 NS.out.bt (by have := NS.out.qb; have := NS.out.bz; omega) NS.out.bt.lt)) _ Try.underlying36 rfl) (fun v1 v2 w1 hb1 => exec_load_cell 36 (.tmp 30) (by kernel_rfl) z 14 (by kernel_rfl) _ (FI.out.c (bel_keep hb1 NS.out.bt (by have := NS.out.qb; have := NS.out.bz; omega) NS.out.bt.lt)) _ Try.underlying36 rfl) (fun v1 v2 u1 w1 hb1 => exec_load_cell 36 (.tmp 30) (by kernel_rfl) z 14 (by kernel_rfl) _ (FI.out.c (bel_keep hb1 NS.out.bt (by have := NS.out.qb; have := NS.out.bz; omega) NS.out.bt.lt)) _ Try.underlying36 rfl) (fun v1 v2 u1 u2 w1 hb1 => exec_load_cell 36 (.tmp 30) (by kernel_rfl) z 14 (by kernel_rfl) _ (FI.out.c (bel_keep hb1 NS.out.bt (by have := NS.out.qb; have := NS.out.bz; omega) NS.out.bt.lt)) _ Try.underlying36 rfl) (by kernel_rfl) (by kernel_rfl) (fun v1 w1 => by kernel_rfl) (fun v1 w1 => by kernel_rfl) (text_walkR q wd li mi NS.out.rd) ?_
           rintro e w5 ⟨hb5, hr5⟩
           cases hl : textP li with
           | none =>
            rw [hl] at hr5
            obtain rfl : e = fellF := hr5
            exact .inl ⟨_, rfl, fun a1 h1 => hP _ _ _ fun a' ha' => ⟨ha'.trans h1, RdM.no (by rw [hB.out]; exact NS.out.fell (hb5)) (declP_no (R1.out.trans (restP_4n e4.out (by rw [Int.toNat_natCast]; exact TA.out.no hlt (ctorP_a hl)))))⟩⟩
           | some y =>
            obtain ⟨s1, l7⟩ := y
            rw [hl] at hr5
            obtain ⟨v5, rfl, hv5, hr5⟩ := hr5
            obtain rfl : v5 = strT s1 := hv5
            refine .inr ⟨hb5, _, rfl, _, term_walkR q w5 l7 _ hr5, ?_⟩
            rintro e w6 ⟨hb6, hr6⟩
            cases hl2 : termP l7 with
            | none =>
             rw [hl2] at hr6
             obtain rfl : e = fellF := hr6
             exact .inl ⟨_, rfl, fun a1 h1 => hP _ _ _ fun a' ha' => ⟨ha'.trans h1, RdM.no (by rw [hB.out]; exact NS.out.fell (hb5.trans (hb6.mono hb5.size))) (declP_no (R1.out.trans (restP_4n e4.out (by rw [Int.toNat_natCast]; exact TA.out.no hlt (ctorP_b hl hl2)))))⟩⟩
            | some y =>
             obtain ⟨t1, l8⟩ := y
             rw [hl2] at hr6
             obtain ⟨v6, m6, rfl, ⟨xs, rfl, hx⟩, hr6⟩ := hr6
             have HB6 : Bel [q] wd.heap.size wd w6 := hb5.trans (hb6.mono hb5.size)
             have zb : q < z := by have := NS.out.qb; have := NS.out.bz; omega
             have SZD := NS.out.bt.lt
             have GC : Hid (TmAt (List.range (z + 1) ++ ownL cv) w6 t1 xs) := TmAt.off hx (fun k hk => by
              have := hb5.size
              rcases List.mem_append.1 hk with hk | hk
              ·have := List.mem_range.1 hk; exact .inl (by omega)
              ·have := (RK.out.own k (ownL_mem.1 hk)).2; exact .inl (by omega))
             have RV := run_build_ctw hx s1 w6
             have RB := run_build_ct1 hx s1 w6
             have bw7 := Blk.new w6 67 (strT s1 :: xs)
             have bew7 : Below w6.heap.size w6 (w6.alloc (.cells (strT s1 :: xs).toArray 67)) := (Below.refl _ _).alloc (Nat.le_refl _) _
             refine .inr ⟨HB6, _, rfl, _, _, _, HB6.trans (Bel.of (bew7.mono HB6.size)), exec_of _ _ (by kernel_rfl) RV, exec_of _ _ (by kernel_rfl) RV, exec_of _ _ (by kernel_rfl) RB, exec_of _ _ (by kernel_rfl) RB, ?_⟩
             have ST6 := HB6.step (Nat.le_refl _) (fun k hk => hk)
             have NS6 := Lib.hid (NS.out.call HB6 hr6)
             have RK6 : Hid (RowK (z + 1) w6 cv cs) := RK.out.step ST6 (fun k hk => by simp at hk; omega)
             have TY6 : Hid (TmAt (F ++ ownL cv) w6 t tc) := TmAt.step (HB6.step (Nat.le_refl _) (fun k hk => by rw [List.mem_singleton.1 hk]; exact List.mem_append_left _ QF.out)) _ _ TY.out
             clear NS RK TY RV RB hr6 hr5 hx SZD ST6
             generalize w6.alloc (.cells (strT s1 :: xs).toArray 67) = w7 at bw7 bew7 ⊢
             have NS7 := Lib.hid (NS6.out.below bew7 NS6.out.bt.lt)
             have RK7 := Lib.hid (RK6.out.below bew7)
             have TY7 := Lib.hid (TY6.out.below bew7)
             have IC := Lib.hid (GC.out.below bew7)
             have S7 : z + 1 ≤ w7.heap.size := NS7.out.bt.lt
             obtain ⟨cv', w8, hrun, r8, hg8, hat8⟩ := RK7.out.append bw7 IC.out (by have := LN.out; have := C255.out; omega) S7
             have B78 : Below (z + 1) w7 w8 := (Below.refl _ _).grown hg8 S7 (fun g hg => (RK7.out.own g hg).1)
             refine reg_value 8 cv' (some 38) w8 (by kernel_rfl) (by kernel_rfl) (exec_of _ _ (by kernel_rfl) hrun) trivial ?_
             have NS8 := Lib.hid (NS7.out.below B78 (Nat.lt_succ_self z))
             have RK8 := Lib.hid r8
             have TY8 : Hid (TmAt (F ++ ownL cv') w8 t tc) := TmAt.step (grown_stepD hg8 hat8) _ _ TY7.out
             have CV1 := slice_one r8.slice
             clear NS6 RK6 TY6 NS7 RK7 TY7 IC GC bw7 bew7 hrun r8 hg8 hat8 B78 S7 hb5 hb6 HB6
             refine reg_now 9 (.pointer (some ⟨z, 14, none⟩)) (some 39) hQN trivial (by kernel_rfl) (by kernel_rfl) (fun w => by kernel_rfl) ?_
             refine reg_putF 10 14 36 (.tmp 39) (.tmp 38) z 38 CI cv' (by kernel_rfl) (by kernel_rfl) (by kernel_rfl) (by kernel_rfl) (by kernel_rfl) NS8.out.bt (by rw [FI.out.len]; decide) sizeCts CV1.1 CV1.2 ?_
             intro w9 bw9 uw9
             refine ⟨trivial, ?_⟩
             have NS9 : Hid (DSt q B w (CI.set 14 cv') z l8 m6 w9) := NS8.out.set bw9 uw9
             have RK9 := Lib.hid (RK8.out.upd uw9 (Nat.lt_succ_self z))
             have TY9 : Hid (TmAt (F ++ ownL cv') w9 t tc) := TmAt.step (Step.of_upd uw9 (List.mem_append_left _ ZF.out)) _ _ TY8.out
             have FI9 := Lib.hid (FI.out.putCts cv')
             have LN9 : Hid ((cs ++ [(s1, t1)]).length = i + 1) := by rw [Hid, List.length_append, LN.out]; rfl
             have TA9 := Lib.hid (TA.out.step hlt (ctorP_c hl hl2))
             clear bw9 uw9 NS8 RK8 TY8 CV1 LN TA hl hl2 FI
             refine reg_done (by kernel_rfl) (hN _ _ ?_)
             generalize hact : Act.put _ none _ = act
             simp only [Act.put, sA, sC, sZ] at hact
             subst hact
             have ca := C255.out
             clear hQN hN hP
             go_wp2
             go_roundw
             case rel => exact ⟨i + 1, cv', _, l8, m6, _, by omega, by go_num, LN9, RK9, NS9, FI9, TY9, TA9⟩
             case measure => simp [intOf]; omega
          obtain rfl : i = c := by omega
          have c1 : ¬ ((i : Int) < (i : Int)) := by omega
          have RP : Hid (restP k p s t (f :: (i : Int) :: l6) = some (⟨k, p, s, t, nT, f, cs⟩, li)) := restP_4 e4.out (by rw [Int.toNat_natCast]; exact TA.out.done)
          have DA : Hid (DcAt F wr ⟨k, p, s, t, nT, f, cs⟩ CI) := ⟨tc, z5T, cv, FI.out.re rfl rfl rfl rfl, TmAt.sub (fun k hk => .inl (List.mem_append_left _ hk)) _ _ TY.out, nT_at _ _, RK.out.in.sub (fun k hk => .inl (List.mem_range.2 (FZ.out k hk)))⟩
          clear TA TY RK FI
          go_upto_region 9 with (fail)
          refine lbeg (opsOf Try.f57 9) ?_
          refine lnow 0 (.bool (decide ((i : Int) < (i : Int)))) (some 29) ?_
          rw [decide_eq_false c1]
          refine ldn 1 ?_
          generalize hact : Act.put _ (some 29) _ = act
          simp only [Act.put, sA, sC, sZ] at hact
          subst hact
          go_wp2
          go_meet
          case rel => exact ⟨_, _, _, _, RP, DA, NS⟩
      rw [decide_eq_false h4]
      have RP : Hid (restP k p s t l4 = some (⟨k, p, s, t, nT, 0, []⟩, l4)) := restP_0 (fun e => e.elim h2 h3) h4
      have DA : Hid (DcAt F w7 ⟨k, p, s, t, nT, 0, []⟩ CS) := ⟨tc, z5T, _, FM.out, TY.out, nT_at _ _, CtsAt.nil _ _ _ _⟩
      go_wp2
      go_meet
      case rel => exact ⟨_, _, _, _, RP, DA, NS⟩
     clear NS TY FM
     obtain ⟨d, r, m', cs, RP, DA, NS⟩ := hcut
     have GOOD := Lib.hid (GD.out d r RP.out)
     have C15 := Lib.hid DA.out.len
     go_upto_region 12 with (fail)
     refine lbeg (opsOf Try.f57 12) ?_
     refine lrl 0 cs (some 41) 38 3 z 0 NS.out.bt.whole Try.underlying38 (dcSize C15.out) ?_
     refine lcal 1 20 #[.agg cs.toArray] (some 42) _ (Formed_walk d cs wc DA.out GOOD.out.sm GOOD.out.big) ?_
     rintro e w9 ⟨rfl, hb9⟩
     refine ⟨_, rfl, ?_⟩
     have DA9 := Lib.hid (DA.out.below hb9)
     have NS9 := Lib.hid (NS.out.below hb9 NS.out.bt.lt)
     clear NS DA hb9
     cases hf : formB d
     ·skip
      refine lin_callP 2 54 #[.bool false] (some 43) _ (by kernel_rfl) (by kernel_rfl) (by kernel_rfl) (cneed_no w9) ?_
      rintro e w' ⟨rfl, hw'⟩
      obtain rfl := hw'.symm
      exact .inr ⟨_, rfl, rfl, RdM.no (by rw [hB.out]; exact NS9.out.be) (declP_form (R1.out.trans RP.out) hf)⟩
     refine lcal 2 54 #[.bool true] (some 43) _ (cneed_yes w9) ?_
     rintro e w' ⟨rfl, hw'⟩
     obtain rfl := hw'.symm
     refine ⟨_, rfl, ?_⟩
     refine ldn 3 ?_
     generalize hact : Act.put _ (some 43) _ = act
     simp only [Act.put, sA, sC, sZ] at hact
     subst hact
     go_upto_region 13 with (fail)
     refine lbeg (opsOf Try.f57 13) ?_
     refine lrl 0 cs (some 44) 38 3 z 0 NS9.out.bt.whole Try.underlying38 (dcSize C15.out) ?_
     refine lput 1 38 (.tmp 2) (.tmp 44) B _ zD cs NS9.out.br (C15.out.trans (rfl : 15 = zD.length)) (dcSize C15.out) (by simpa using DA9.out.one) ?_
     intro w10 b10 u10
     refine ldn 2 ?_
     generalize hact : Act.put _ none _ = act
     simp only [Act.put, sA, sC, sZ] at hact
     subst hact
     have POST : Hid (RdM q (declP (k :: l)) RDc w (.returned (.agg cs.toArray)) w10) := RdM.yes (by rw [hB.out]; exact NS9.out.be.newBlk u10 (Nat.le_refl _) (Nat.le_of_lt NS9.out.br.lt)) (declP_yes (R1.out.trans RP.out) hf) ⟨cs, rfl, (DA9.out.step (Step.of_upd u10 BF.out)).sub (fun k hk => .inl (RF.out k (by have := List.mem_range.1 hk; have := hB.out; omega)))⟩ (NS9.out.rd.upd u10 NS9.out.qb)
     have HB10 := Lib.hid b10
     clear b10 u10 NS9 DA9
     go_wp2
     refine bodyPost_ret (v := .agg cs.toArray) ?_ rfl POST.out
     exact results_cell_row (g := B) (t := 38) (cs := cs.toArray) (fr := (0, 0)) Try.results57 _ _ _ rfl HB10.out Try.underlying38 rfl (by rw [List.size_toArray]; exact dcSize C15.out)
end Go.Proofs.Yteohjbggicchgaa
