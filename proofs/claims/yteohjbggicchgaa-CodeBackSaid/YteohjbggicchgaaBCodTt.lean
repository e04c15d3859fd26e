import Derived.Test.YteohjbggicchgaaBGenT
import Derived.Test.YteohjbggicchgaaBCodZ
namespace Go.Proofs.Yteohjbggicchgaa
open Go Go.RowKit
set_option maxRecDepth 100000
theorem results_cell2 {P : Program} {fn : Func} {p q r : Tmp} {ty : TypeId} (h : fn.results = #[.cell p ty, .tmp q, .tmp r]) (tmps : Array Value) (w : World) (g : Nat) (t : TypeId) (cs : Array Value) (fr : Nat × Nat) (d : TypeDesc) (v u : Value)
    (hp : tmps.getD p undef = .pointer (some ⟨g, 0, none⟩)) (hq : tmps.getD q undef = v) (hr : tmps.getD r undef = u) (hg : w.heap[g]? = some (.cells cs t fr))
    (hu : P.underlying ty = some d) (hd : (match d with | .struct _ | .array _ _ => true | _ => false) = true) (hi : (P.info? ty).map (·.size) = some cs.size) :
    (results fn tmps).run P w = .ok (.tuple #[.agg cs, v, u]) w := by
  have hp' : tmps[p]?.getD undef = .pointer (some ⟨g, 0, none⟩) := by simpa using hp
  have hq' : tmps[q]?.getD undef = v := by simpa using hq
  have hr' : tmps[r]?.getD undef = u := by simpa using hr
  simp [results, h, hp', hq', hr', asAddr, run_loadVar_row w g t ty cs fr d hg hu hd hi]
theorem zD_one : ∀ u ∈ zD, u.oneCell' = true := by
 intro u hu
 simp only [zD, List.mem_cons, List.not_mem_nil, or_false] at hu
 rcases hu with rfl | rfl | rfl | rfl | rfl | rfl | rfl | rfl | rfl | rfl | rfl | rfl | rfl | rfl | rfl <;> rfl
theorem zD_no8 (o : Nat) (z : Int) : zD[o]? ≠ some (.int .u8 z) := by
 intro h
 match o with
 | 0 | 1 | 2 | 3 | 4 | 5 | 6 | 7 | 8 | 9 | 10 | 11 | 12 | 13 | 14 => simp [zD, strT] at h
 | n + 15 => simp [zD] at h
theorem BytesIn.updD {q : Nat} {w w' : World} {v : Value} {zs : List Int} (h : BytesIn w v zs) (hb : Blk w q 38 zD) (hu : Upd q w w') : BytesIn w' v zs := by
 obtain ⟨a, cap, h1, h2, h3⟩ := h
 refine ⟨a, cap, h1, h2, fun hp => ?_⟩
 obtain ⟨pb, po, e, hlt, hr⟩ := h3 hp
 have hne : pb ≠ q := by
  intro hc
  subst hc
  have h0 : (ints .u8 zs)[0]? = some (.int .u8 (zs[0]'hp)) := by
   unfold ints
   rw [List.getElem?_map, List.getElem?_eq_getElem hp]
   rfl
  have h5 := hr 0 _ h0
  rw [Nat.add_zero] at h5
  rw [cell_of_row w pb po zD.toArray 38 (0, 0) hb] at h5
  exact zD_no8 po _ (by simpa using h5)
 exact ⟨pb, po, e, Nat.lt_of_lt_of_le hlt hu.size, fun j u hj => by
  rw [World.cell?_of_block (w := w) (a := ⟨pb, po + j, none⟩) (hu.block pb hlt hne)]
  exact hr j u hj⟩
theorem takedecl1_walk (q : Nat) (w : World) (l : List Int) (m : Nat) (h : RdAt q w l m) : Calls Try.prog 56 #[.pointer (some ⟨q, 0, none⟩)] w (RdM q (declP l) RDc w) := by
 obtain ⟨B, hB⟩ : ∃ B, Hid (w.heap.size = B) := ⟨_, rfl⟩
 have QB : Hid (q < B) := by rw [← hB.out]; exact h.lt
 have H := Lib.hid h
 clear h
 go_enter Try.func56, Try.ntmps56
 go_upto_region 0 with (fail)
 refine lbeg (opsOf Try.f56 0) ?_
 refine lin_alloc 0 38 zD B (some 2) (by kernel_rfl) (by kernel_rfl) (by kernel_rfl) zeroDc hB ?_
 intro w1 b1 be1 hs1
 refine ldn 1 ?_
 generalize hact : Act.put _ (some 2) _ = act
 simp only [Act.put, sA, sC, sZ] at hact
 subst hact
 have RD := Lib.hid (H.out.below be1 QB.out)
 have BR := Lib.hid b1
 have BE := Lib.hid be1
 clear b1 be1 hs1 H
 have CALL := decl_walkR q w1 l m RD.out
 go_upto_region 1 with (fail)
 refine lbeg (opsOf Try.f56 1) ?_
 refine lnow 0 (.pointer (some ⟨q, 0, none⟩)) (some 3) ?_
 cases hn : declP l with
 | none =>
  rw [hn] at CALL
  refine lin_callP 1 57 #[.pointer (some ⟨q, 0, none⟩)] (some 4) _ (by kernel_rfl) (by kernel_rfl) (by kernel_rfl) (CALL) ?_
  rintro e w' ⟨hb, hr⟩
  obtain rfl : e = fellF := hr
  exact .inr ⟨_, rfl, rfl, RdM.no (by rw [hB.out]; exact (Bel.of BE.out).trans (hb.mono (Nat.le_of_lt BR.out.lt))) rfl⟩
 | some y =>
  obtain ⟨d, r⟩ := y
  rw [hn] at CALL
  refine lin_callP 1 57 #[.pointer (some ⟨q, 0, none⟩)] (some 4) _ (by kernel_rfl) (by kernel_rfl) (by kernel_rfl) (CALL) ?_
  rintro e w2 ⟨hb, v, m2, rfl, ⟨cs, rfl, hdc⟩, hr⟩
  refine .inl ⟨_, rfl, ?_⟩
  have qb := QB.out
  have S1 := BR.out.lt
  have BR2 : Hid (Blk w2 B 38 zD) := bel_keep hb BR.out (by omega) S1
  have C15 := Lib.hid hdc.len
  have ONE := Lib.hid hdc.one
  refine lput 2 38 (.tmp 2) (.tmp 4) B _ zD cs BR2.out (C15.out.trans (rfl : 15 = zD.length)) (dcSize C15.out) (by simpa using ONE.out) ?_
  intro w3 b3 u3
  refine ldn 3 ?_
  generalize hact : Act.put _ none _ = act
  simp only [Act.put, sA, sC, sZ] at hact
  subst hact
  have POST : Hid (RdM q (declP l) RDc w (.returned (.agg cs.toArray)) w3) := RdM.yes (by rw [hB.out]; exact ((Bel.of BE.out).trans (hb.mono (Nat.le_of_lt S1))).newBlk u3 (Nat.le_refl _) (Nat.le_of_lt BR2.out.lt)) hn ⟨cs, rfl, (hdc.step (Step.of_upd u3 (List.mem_range.2 S1))).sub (fun k hk => .inl (List.mem_range.2 (by have := List.mem_range.1 hk; have := hB.out; omega)))⟩ (hr.upd u3 qb)
  have HB3 := Lib.hid b3
  clear b3 u3 hdc hr hb CALL
  go_wp2
  refine bodyPost_ret (v := .agg cs.toArray) ?_ rfl POST.out
  exact results_cell_row (g := B) (t := 38) (cs := cs.toArray) (fr := (0, 0)) Try.results56 _ _ _ rfl HB3.out Try.underlying38 rfl (by rw [List.size_toArray]; exact dcSize C15.out)
set_option maxHeartbeats 4000000 in
theorem taken_catchD (k : Int) (older : List PanicEntry) (w : World) : CallsD Try.prog 80 #[] (.panicking ({ v := .iface 101 (.int .i64 k), recovered := false } :: older)) w fun e u' w' => e = .returned (.tuple #[]) ∧ u' = .panicking ({ v := .iface 101 (.int .i64 k), recovered := true } :: older) ∧ w' = w := by
 refine callsD_of_wpS Try.func80 rfl fun c₀ cs hu => ?_
 apply wpS_seq
 apply wpS_region
 simp [wpOpsS, go_sem, recoverD, hu, Try.ntmps80, Exit.thenS]
 refine wpS_of_wp ?_
 simp only [Array.replicate_succ, Array.replicate_zero, List.push_toArray, List.nil_append, List.cons_append, List.setIfInBounds_toArray, List.set_cons_succ, List.set_cons_zero]
 go_upto_region 1 with (fail)
 refine lbeg (opsOf Try.f80 1) ?_
 refine lnow 0 (.iface 101 (.int .i64 k)) (some 5) ?_
 refine lnow 1 (.tuple #[.int .i64 k, .bool true]) (some 6) ?_
 refine lnow 2 (.tuple #[.int .i64 k, .bool true]) (some 4) ?_
 refine lnow 3 (.int .i64 k) (some 7) ?_
 refine lnow 4 (.bool true) (some 8) ?_
 refine lnow 5 (.int .i64 k) (some 1) ?_
 refine lnow 6 (.bool true) (some 2) ?_
 refine ldn 7 ?_
 generalize hact : Act.put _ (some 2) _ = act
 simp only [Act.put, sA, sC, sZ] at hact
 subst hact
 go_upto_region 2 with (fail)
 refine lbeg (opsOf Try.f80 2) ?_
 refine lnow 0 (.iface 101 (.int .i64 k)) (some 9) ?_
 refine lnow 1 (.bool true) (some 10) ?_
 refine lnow 2 (.bool true) (some 11) ?_
 refine lnow 3 (.bool true) (some 12) ?_
 refine lnow 4 (.bool false) (some 13) ?_
 refine lnow 5 (.bool false) (some 14) ?_
 refine ldn 6 ?_
 generalize hact : Act.put _ (some 14) _ = act
 simp only [Act.put, sA, sC, sZ] at hact
 subst hact
 go_wp2
 simp [bodyPostS, results, Try.results80]
set_option maxHeartbeats 4000000 in
theorem taken_idleD (w : World) : CallsD Try.prog 80 #[] .returning w fun e u' w' => e = .returned (.tuple #[]) ∧ u' = .returning ∧ w' = w := by
 refine callsD_of_wpS Try.func80 rfl fun c₀ cs hu => ?_
 apply wpS_seq
 apply wpS_region
 simp [wpOpsS, go_sem, recoverD, hu, Try.ntmps80, Exit.thenS]
 refine wpS_of_wp ?_
 simp only [Array.replicate_succ, Array.replicate_zero, List.push_toArray, List.nil_append, List.cons_append, List.setIfInBounds_toArray, List.set_cons_succ, List.set_cons_zero]
 go_upto_region 1 with (fail)
 refine lbeg (opsOf Try.f80 1) ?_
 refine lnow 0 (.nilIface) (some 5) ?_
 refine lnow 1 (.tuple #[.int .i64 0, .bool false]) (some 6) ?_
 refine lnow 2 (.tuple #[.int .i64 0, .bool false]) (some 4) ?_
 refine lnow 3 (.int .i64 0) (some 7) ?_
 refine lnow 4 (.bool false) (some 8) ?_
 refine lnow 5 (.int .i64 0) (some 1) ?_
 refine lnow 6 (.bool false) (some 2) ?_
 refine ldn 7 ?_
 generalize hact : Act.put _ (some 2) _ = act
 simp only [Act.put, sA, sC, sZ] at hact
 subst hact
 go_upto_region 2 with (fail)
 refine lbeg (opsOf Try.f80 2) ?_
 refine lnow 0 (.nilIface) (some 9) ?_
 refine lnow 1 (.bool false) (some 10) ?_
 refine lnow 2 (.bool false) (some 11) ?_
 refine lpas 3 (some 12) ?_
 refine lpas 4 (some 13) ?_
 refine lnow 5 (.bool false) (some 14) ?_
 refine ldn 6 ?_
 generalize hact : Act.put _ (some 14) _ = act
 simp only [Act.put, sA, sC, sZ] at hact
 subst hact
 go_wp2
 cases c₀
 simp_all [bodyPostS, results, Try.results80]
set_option maxHeartbeats 4000000 in
theorem taken_walkD (b : Value) (l : List Int) (w : World) (h : BytesIn w b l) (hi : isB l) (hl : l.length ≤ 1000000000) : Calls Try.prog 55 #[b, .func (.func 56) #[] #[]] w (TkP (declP l) RDc (.agg zD.toArray) w) := by
 obtain ⟨q, hq⟩ : ∃ q, Hid (w.heap.size = q) := ⟨_, rfl⟩
 obtain ⟨ba, bc, rfl, -⟩ := id h
 have HB := Lib.hid h
 have HI := Lib.hid hi
 have HL := Lib.hid hl
 clear h hi hl
 go_enter_defers Try.func55, Try.ntmps55
 go_upto_region 0 with (fail)
 refine lbeg (opsOf Try.f55 0) ?_
 refine lin_alloc 0 38 zD q (some 4) (by kernel_rfl) (by kernel_rfl) (by kernel_rfl) zeroDc hq ?_
 intro wa bA beA hsA
 refine lnow 1 (.slice none 0 0) (some 5) ?_
 refine lnow 2 (.bool false) (some 6) ?_
 refine ldn 3 ?_
 generalize hact : Act.put _ (some 6) _ = act
 simp only [Act.put, sA, sC, sZ] at hact
 subst hact
 obtain ⟨p, hp⟩ : ∃ p, Hid (wa.heap.size = p) := ⟨_, rfl⟩
 have QP : Hid (q < p) := by have := bA.lt; have := hp.out; rw [Hid]; omega
 have BA := Lib.hid bA
 have BEA := Lib.hid beA
 have HB := Lib.hid (HB.out.below (by rw [hq.out]; exact BEA.out) (Nat.le_refl _))
 clear bA beA hsA
 go_upto_region 2 with (fail)
 refine lbeg (opsOf Try.f55 2) ?_
 refine lnow 0 (.slice ba l.length bc) (some 8) ?_
 refine lnow 1 (.agg ([.slice ba l.length bc, .int .i64 0] : List Value).toArray) (some 9) ?_
 refine lall 2 87 [.slice none 0 0, .int .i64 0] p (some 7) hp ?_
 intro w0 b0 be0 hs0
 refine lput 3 87 (.tmp 7) (.tmp 9) p _ [.slice none 0 0, .int .i64 0] [.slice ba l.length bc, .int .i64 0] b0 rfl (by kernel_rfl) (by simpa using (by intro u hu; simp only [List.mem_cons, List.not_mem_nil, or_false] at hu; rcases hu with rfl | rfl <;> rfl : ∀ u ∈ ([.slice ba l.length bc, .int .i64 0] : List Value), u.oneCell' = true)) ?_
 intro w1 b1 u1
 refine ldn 4 ?_
 generalize hact : Act.put _ none _ = act
 simp only [Act.put, sA, sC, sZ] at hact
 subst hact
 have B01 : Below p wa w1 := u1.below be0 (Nat.le_refl _) (by have := hs0.out; omega)
 have S1 : Hid (p < w1.heap.size) := b1.lt
 have RD : Hid (RdAt p w1 l 0) := ⟨.slice ba l.length bc, b1, (BytesLt.of HB.out).at hp.out B01, HI.out, HL.out⟩
 have qp := QP.out
 have BE : Hid (Below q w w1) := BEA.out.trans (B01.mono (Nat.le_of_lt qp))
 have BA := Lib.hid (BA.out.below B01 qp)
 clear b0 be0 hs0 b1 u1 B01
 have CALL := takedecl1_walk p w1 l 0 RD.out
 go_upto_region 3 with (fail)
 refine lbeg (opsOf Try.f55 3) ?_
 refine lnow 0 (.func (.func 56) #[] #[]) (some 10) ?_
 obtain ⟨oo, hoo⟩ : ∃ oo, Hid (declP l = oo) := ⟨_, rfl⟩
 rw [hoo.out] at CALL ⊢
 cases oo with
 | none =>
  refine lin_callP 1 56 #[.pointer (some ⟨p, 0, none⟩)] (some 11) _ (by kernel_rfl) (by kernel_rfl) (by kernel_rfl) (CALL) ?_
  rintro e w2 ⟨hb, hr⟩
  obtain rfl : e = fellF := hr
  refine .inr ⟨_, rfl, ?_⟩
  have BA2 : Hid (Blk w2 q 38 zD) := bel_keep hb BA.out (by omega) BA.out.lt
  refine leaves_cons (f := 80) (args := #[]) (by simp) (by kernel_rfl) ?_
  refine (taken_catchD 10 [] w2).mono ?_
  rintro e u' w3 ⟨rfl, rfl, rfl⟩
  refine ⟨.tuple #[.agg zD.toArray, .slice none 0 0, .bool false], ?_, TkP.no ?_ rfl⟩
  ·exact results_cell2 Try.results55 _ _ q 38 zD.toArray (0, 0) _ _ _ rfl rfl rfl BA2.out Try.underlying38 rfl (dcSize rfl)
  ·rw [hq.out]
   exact BE.out.trans (Bel.below (hb.mono (Nat.le_of_lt S1.out)) (fun k hk => by rw [List.mem_singleton.1 hk]; exact Nat.le_refl _) |>.mono (Nat.le_of_lt qp))
 | some y =>
  obtain ⟨x, r⟩ := y
  refine lin_callP 1 56 #[.pointer (some ⟨p, 0, none⟩)] (some 11) _ (by kernel_rfl) (by kernel_rfl) (by kernel_rfl) (CALL) ?_
  rintro e w2 ⟨hb, v, m2, rfl, ⟨cs, rfl, hdc⟩, hr⟩
  refine .inl ⟨_, rfl, ?_⟩
  have BA2 : Hid (Blk w2 q 38 zD) := bel_keep hb BA.out (by omega) BA.out.lt
  have BE2 : Hid (Below q w w2) := BE.out.trans (Bel.below (hb.mono (Nat.le_of_lt S1.out)) (fun k hk => by rw [List.mem_singleton.1 hk]; exact Nat.le_refl _) |>.mono (Nat.le_of_lt qp))
  obtain ⟨vb, hblk, hby, hisB, hlen⟩ := hr
  have BQ := Lib.hid hblk
  have BY := Lib.hid hby
  have LL := Lib.hid hlen
  have S2 : Hid (w1.heap.size ≤ w2.heap.size) := hb.size
  have C15 := Lib.hid hdc.len
  have ONE := Lib.hid hdc.one
  have DX := Lib.hid hdc
  clear hb hblk hby hisB hlen CALL hdc
  refine lput 2 38 (.tmp 4) (.tmp 11) q _ zD cs BA2.out (C15.out.trans (rfl : 15 = zD.length)) (dcSize C15.out) (by simpa using ONE.out) ?_
  intro w3 b3 u3
  refine ldn 3 ?_
  generalize hact : Act.put _ none _ = act
  simp only [Act.put, sA, sC, sZ] at hact
  subst hact
  have BA3 := Lib.hid b3
  have BQ3 := Lib.hid (u3.blk BQ.out (by omega))
  have S3 : Hid (p < w3.heap.size) := BQ3.out.lt
  have BY3 : Hid (BytesIn w3 vb r) := (BytesLt.in BY.out).updD BA2.out u3
  have DX3 : Hid (DcAt (List.range p) w3 x cs) := (DX.out.sub (fun k hk => .inl (List.mem_range.2 (by have := List.mem_range.1 hk; have := S1.out; omega)))).step (Step.of_upd u3 (List.mem_range.2 qp))
  have BE3 : Hid (Below q w w3) := u3.below BE2.out (Nat.le_refl _) (by have := BQ.out.lt; omega)
  clear b3 u3 BA2 BQ BY DX BE2
  go_upto_region 4 with (fail)
  refine region_begin (opsOf Try.f55 4) (fun W' => Blk W' q 38 cs ∧ Blk W' p 87 [vb, .int .i64 (m2 : Int)]) (by kernel_rfl) (by kernel_rfl) 7 (by kernel_rfl) ?_
  intro Q' hQN hN
  have HS : Blk w3.drew q 38 cs ∧ Blk w3.drew p 87 [vb, .int .i64 (m2 : Int)] := ⟨BA3.out, BQ3.out⟩
  have HD : Below w3.heap.size w3 w3.drew := (Below.refl _ _).drew
  have BY4 := Lib.hid (BY3.out.below HD (Nat.le_refl _))
  have DX4 := Lib.hid (DX3.out.below HD)
  have BE4 : Hid (Below q w w3.drew) := BE3.out.trans (HD.mono (by have := S3.out; omega))
  have S4 : Hid (p < w3.drew.heap.size) := S3.out
  clear HD
  generalize w3.drew = wd at HS BY4 DX4 BE4 S4 ⊢
  refine reg_now 1 (.pointer (some ⟨p, 0, none⟩)) (some 13) hQN HS (by kernel_rfl) (by kernel_rfl) (fun w => by kernel_rfl) ?_
  refine reg_nowIf 0 (.agg cs.toArray) (some 12) hQN HS (by kernel_rfl) (by kernel_rfl) (fun w' hw => exec_load_mid 38 (.tmp 4) (by kernel_rfl) q 0 (by kernel_rfl) cs _ hw.1.whole Try.underlying38 rfl (dcSize C15.out)) ?_
  refine reg_nowIf 2 (vb) (some 14) hQN HS (by kernel_rfl) (by kernel_rfl) (fun w' hw => exec_load_cell 30 (.tmp 13) (by kernel_rfl) p 0 (by kernel_rfl) _ (hw.2.cell rfl) _ Try.underlying30 rfl) ?_
  refine reg_call 3 75 #[vb] (some 15) _ (by kernel_rfl) (by kernel_rfl) (by kernel_rfl) (bclone_walk vb r wd BY4.out LL.out) ?_
  rintro e w5 ⟨v5, rfl, r5, hb5⟩
  have HS5 : Blk w5 q 38 cs ∧ Blk w5 p 87 [vb, .int .i64 (m2 : Int)] := ⟨HS.1.below hb5 HS.1.lt, HS.2.below hb5 HS.2.lt⟩
  refine ⟨_, rfl, HS5, ?_⟩
  refine reg_putT 4 38 (.tmp 4) (.tmp 12) q 38 cs cs (by kernel_rfl) (by kernel_rfl) (by kernel_rfl) (by kernel_rfl) (by kernel_rfl) HS5.1 rfl (dcSize C15.out) (by simpa using ONE.out) ?_
  intro w6 b6 u6
  have HS6 : Blk w6 q 38 cs ∧ Blk w6 p 87 [vb, .int .i64 (m2 : Int)] := ⟨b6, u6.blk HS5.2 (by omega)⟩
  refine ⟨HS6, ?_⟩
  refine reg_now 5 (v5) (some 5) hQN HS6 (by kernel_rfl) (by kernel_rfl) (fun w => by kernel_rfl) ?_
  refine reg_now 6 (.bool true) (some 6) hQN HS6 (by kernel_rfl) (by kernel_rfl) (fun w => by kernel_rfl) ?_
  have R6 : Hid (RowB q w6 v5 r) := (r5.step (Step.of_upd u6 (List.mem_singleton.2 rfl)) (fun g hg hc => by have e := List.mem_singleton.1 hc; have h1 := (r5.own g hg).1; have := S4.out; omega)).mono (by have := S4.out; omega)
  have DX6 : Hid (DcAt (List.range p) w6 x cs) := (DX4.out.below hb5).step (Step.of_upd u6 (List.mem_range.2 qp))
  have BE6 : Hid (Below q w w6) := u6.below (BE4.out.trans (hb5.mono (by have := S4.out; omega))) (Nat.le_refl _) (by have := HS5.2.lt; omega)
  have HB6 := Lib.hid b6
  refine reg_done (by kernel_rfl) (hN _ _ ?_)
  generalize hact : Act.put _ (some 6) _ = act
  simp only [Act.put, sA, sC, sZ] at hact
  subst hact
  clear HS HS5 HS6 b6 u6 r5 hb5 hQN hN
  have POST : Hid (TkP (some (x, r)) RDc (.agg zD.toArray) w (.returned (.tuple #[.agg cs.toArray, v5, .bool true])) w6) := TkP.yes (by rw [hq.out]; exact BE6.out) rfl ⟨cs, rfl, DX6.out.sub (fun k hk => .inl (List.mem_range.2 (by have := List.mem_range.1 hk; have := hq.out; omega)))⟩ (by rw [hq.out]; exact R6.out)
  go_wp2
  refine leaves_cons (f := 80) (args := #[]) (by simp) (by kernel_rfl) ?_
  refine (taken_idleD w6).mono ?_
  rintro e u' w7 ⟨rfl, rfl, rfl⟩
  refine ⟨.tuple #[.agg cs.toArray, v5, .bool true], ?_, ?_⟩
  ·exact results_cell2 Try.results55 _ _ q 38 cs.toArray (0, 0) _ _ _ rfl rfl rfl HB6.out Try.underlying38 rfl (by rw [List.size_toArray]; exact dcSize C15.out)
  ·rw [hoo.out]
   exact POST.out
set_option maxHeartbeats 4000000 in
theorem TakeDecl_walk (b : Value) (l : List Int) (w : World) (h : BytesIn w b l) (hi : isB l) (hl : l.length ≤ 1000000000) : Calls Try.prog 27 #[b] w (TkP (declP l) RDc (.agg zD.toArray) w) := by
 obtain ⟨q, hq⟩ : ∃ q, Hid (w.heap.size = q) := ⟨_, rfl⟩
 have HB := Lib.hid h
 clear h
 go_enter Try.func27, Try.ntmps27
 go_upto_region 0 with (fail)
 refine lbeg (opsOf Try.f27 0) ?_
 refine lin_alloc 0 38 zD q (some 2) (by kernel_rfl) (by kernel_rfl) (by kernel_rfl) zeroDc hq ?_
 intro w1 b1 be1 hs1
 refine lnow 1 (.slice none 0 0) (some 3) ?_
 refine lnow 2 (.bool false) (some 4) ?_
 refine ldn 3 ?_
 generalize hact : Act.put _ (some 4) _ = act
 simp only [Act.put, sA, sC, sZ] at hact
 subst hact
 have BA := Lib.hid b1
 have BE := Lib.hid be1
 have S1 := b1.lt
 have CALL := taken_walkD b l w1 (HB.out.below (by rw [hq.out]; exact be1) (Nat.le_refl _)) hi hl
 clear b1 be1 hs1 hi hl
 go_upto_region 1 with (fail)
 refine lbeg (opsOf Try.f27 1) ?_
 refine lnow 0 (b) (some 5) ?_
 cases hn : declP l with
 | none =>
  rw [hn] at CALL
  refine lcal 1 55 #[b, .func (.func 56) #[] #[]] (some 6) _ (CALL) ?_
  rintro e w2 ⟨hb, rfl⟩
  refine ⟨_, rfl, ?_⟩
  refine lnow 2 (.agg (zD).toArray) (some 7) ?_
  refine lnow 3 (.slice none 0 0) (some 8) ?_
  refine lnow 4 (.bool false) (some 9) ?_
  have BA2 := Lib.hid (BA.out.below hb S1)
  refine lput 5 38 (.tmp 2) (.tmp 7) q _ zD (zD) BA2.out ((rfl : zD.length = 15).trans (rfl : 15 = zD.length)) (dcSize (rfl : zD.length = 15)) (by simpa using zD_one) ?_
  intro w3 b3 u3
  refine lnow 6 (.slice none 0 0) (some 3) ?_
  refine lnow 7 (.bool false) (some 4) ?_
  refine ldn 8 ?_
  generalize hact : Act.put _ (some 4) _ = act
  simp only [Act.put, sA, sC, sZ] at hact
  subst hact
  have BE3 : Hid (Below w.heap.size w w3) := by rw [Hid, hq.out]; exact u3.below (BE.out.trans (hb.mono (Nat.le_of_lt S1))) (Nat.le_refl _) (by have := hb.size; omega)
  have HB3 := Lib.hid b3
  have POST : Hid (TkP (declP l) RDc (.agg zD.toArray) w (.returned (.tuple #[.agg zD.toArray, .slice none 0 0, .bool false])) w3) := TkP.no BE3.out hn
  clear b3 u3 hb
  go_wp2
  refine bodyPost_ret (v := .tuple #[.agg (zD).toArray, .slice none 0 0, .bool false]) ?_ rfl POST.out
  exact results_cell2 Try.results27 _ _ q 38 (zD).toArray (0, 0) _ _ _ rfl rfl rfl HB3.out Try.underlying38 rfl (by rw [List.size_toArray]; exact dcSize (rfl : zD.length = 15))
 | some y =>
  obtain ⟨x, r⟩ := y
  rw [hn] at CALL
  refine lcal 1 55 #[b, .func (.func 56) #[] #[]] (some 6) _ (CALL) ?_
  rintro e w2 ⟨hb, v, v', rfl, ⟨cs, rfl, hdc⟩, hr⟩
  refine ⟨_, rfl, ?_⟩
  have C15 := Lib.hid hdc.len
  have ONE := Lib.hid hdc.one
  refine lnow 2 (.agg (cs).toArray) (some 7) ?_
  refine lnow 3 (v') (some 8) ?_
  refine lnow 4 (.bool true) (some 9) ?_
  have BA2 := Lib.hid (BA.out.below hb S1)
  refine lput 5 38 (.tmp 2) (.tmp 7) q _ zD (cs) BA2.out (C15.out.trans (rfl : 15 = zD.length)) (dcSize C15.out) (by simpa using ONE.out) ?_
  intro w3 b3 u3
  refine lnow 6 (v') (some 3) ?_
  refine lnow 7 (.bool true) (some 4) ?_
  refine ldn 8 ?_
  generalize hact : Act.put _ (some 4) _ = act
  simp only [Act.put, sA, sC, sZ] at hact
  subst hact
  have BE3 : Hid (Below w.heap.size w w3) := by rw [Hid, hq.out]; exact u3.below (BE.out.trans (hb.mono (Nat.le_of_lt S1))) (Nat.le_refl _) (by have := hb.size; omega)
  have HB3 := Lib.hid b3
  have POST : Hid (TkP (declP l) RDc (.agg zD.toArray) w (.returned (.tuple #[.agg cs.toArray, v', .bool true])) w3) := TkP.yes BE3.out hn ⟨cs, rfl, (hdc.step (Step.of_upd u3 (List.mem_range.2 S1))).sub (fun k hk => .inl (List.mem_range.2 (by have := List.mem_range.1 hk; have := hq.out; omega)))⟩ ((hr.step (Step.of_upd u3 (List.mem_singleton.2 rfl)) (fun g hg hc => by have e := List.mem_singleton.1 hc; have h1 := (hr.own g hg).1; omega)).mono (by have := hq.out; omega))
  clear b3 u3 hb
  go_wp2
  refine bodyPost_ret (v := .tuple #[.agg (cs).toArray, v', .bool true]) ?_ rfl POST.out
  exact results_cell2 Try.results27 _ _ q 38 (cs).toArray (0, 0) _ _ _ rfl rfl rfl HB3.out Try.underlying38 rfl (by rw [List.size_toArray]; exact dcSize C15.out)
end Go.Proofs.Yteohjbggicchgaa
namespace Go.Proofs.Yteohjbggicchgaa
open Go Go.RowKit
set_option maxRecDepth 100000
theorem z5T_one : ∀ u ∈ z5T, u.oneCell' = true := by
 intro u hu
 simp only [z5T, List.mem_cons, List.not_mem_nil, or_false] at hu
 rcases hu with rfl | rfl | rfl | rfl | rfl <;> rfl
theorem z5T_no8 (o : Nat) (z : Int) : z5T[o]? ≠ some (.int .u8 z) := by
 intro h
 match o with
 | 0 | 1 | 2 | 3 | 4 => simp [z5T, strT] at h
 | n + 5 => simp [z5T] at h
theorem TmAt.stepx {F F' : List Nat} {w w' : World} {t : Tm} {cs : List Value} (h : TmAt F w t cs) (hs : Step F w F' w') : TmAt F' w' t cs := TmAt.step hs _ _ h
theorem TmAt.subx {F G : List Nat} {w : World} {t : Tm} {cs : List Value} (h : TmAt F w t cs) (hG : ∀ k ∈ G, k ∈ F ∨ w.heap.size ≤ k) : TmAt G w t cs := TmAt.sub hG _ _ h
theorem BytesIn.updT {q : Nat} {w w' : World} {v : Value} {zs : List Int} (h : BytesIn w v zs) (hb : Blk w q 25 z5T) (hu : Upd q w w') : BytesIn w' v zs := by
 obtain ⟨a, cap, h1, h2, h3⟩ := h
 refine ⟨a, cap, h1, h2, fun hp => ?_⟩
 obtain ⟨pb, po, e, hlt, hr⟩ := h3 hp
 have hne : pb ≠ q := by
  intro hc
  subst hc
  have h0 : (ints .u8 zs)[0]? = some (.int .u8 (zs[0]'hp)) := by
   unfold ints
   rw [List.getElem?_map, List.getElem?_eq_getElem hp]
   rfl
  have h5 := hr 0 _ h0
  rw [Nat.add_zero] at h5
  rw [cell_of_row w pb po z5T.toArray 25 (0, 0) hb] at h5
  exact z5T_no8 po _ (by simpa using h5)
 exact ⟨pb, po, e, Nat.lt_of_lt_of_le hlt hu.size, fun j u hj => by
  rw [World.cell?_of_block (w := w) (a := ⟨pb, po + j, none⟩) (hu.block pb hlt hne)]
  exact hr j u hj⟩
def takeT (l : List Int) : Option (Tm × List Int) := match termP l with
 | none => none
 | some (t, r) => if rightP 4 1099511627776 t then some (t, r) else none
theorem takeT_no {l : List Int} (h : termP l = none) : takeT l = none := by unfold takeT; rw [h]
theorem takeT_bad {l r : List Int} {t : Tm} (h : termP l = some (t, r)) (hr : rightP 4 1099511627776 t = false) : takeT l = none := by
 unfold takeT
 rw [h]
 dsimp only
 rw [if_neg (by simp [hr])]
theorem takeT_yes {l r : List Int} {t : Tm} (h : termP l = some (t, r)) (hr : rightP 4 1099511627776 t = true) : takeT l = some (t, r) := by
 unfold takeT
 rw [h]
 dsimp only
 rw [if_pos hr]
theorem taketerm1_walk (q : Nat) (w : World) (l : List Int) (m : Nat) (h : RdAt q w l m) : Calls Try.prog 52 #[.pointer (some ⟨q, 0, none⟩)] w (RdM q (takeT l) RTm w) := by
 obtain ⟨B, hB⟩ : ∃ B, Hid (w.heap.size = B) := ⟨_, rfl⟩
 have QB : Hid (q < B) := by rw [← hB.out]; exact h.lt
 have H := Lib.hid h
 clear h
 go_enter Try.func52, Try.ntmps52
 go_upto_region 0 with (fail)
 refine lbeg (opsOf Try.f52 0) ?_
 refine lall 0 25 z5T (B) (some 2) hB ?_
 intro w1 bw1 bew1 hsw1
 refine ldn 1 ?_
 generalize hact : Act.put _ (some 2) _ = act
 simp only [Act.put, sA, sC, sZ] at hact
 subst hact
 have RD := Lib.hid (H.out.below bew1 QB.out)
 have BR := Lib.hid bw1
 have BE : Hid (Bel [q] B w w1) := Bel.of bew1
 clear bw1 bew1 hsw1 H
 have IB := RD.out.bytes
 have CALL := term_walkR q w1 l m RD.out
 go_upto_region 1 with (fail)
 refine lbeg (opsOf Try.f52 1) ?_
 refine lnow 0 (.pointer (some ⟨q, 0, none⟩)) (some 4) ?_
 obtain ⟨oo, hn⟩ : ∃ oo, termP l = oo := ⟨_, rfl⟩
 rw [hn] at CALL
 cases oo with
 | none =>
  refine lin_callP 1 53 #[.pointer (some ⟨q, 0, none⟩)] (some 5) _ (by kernel_rfl) (by kernel_rfl) (by kernel_rfl) (CALL) ?_
  rintro e w' ⟨hb, hr⟩
  obtain rfl : e = fellF := hr
  exact .inr ⟨_, rfl, rfl, RdM.no (by rw [hB.out]; exact BE.out.trans (hb.mono (Nat.le_of_lt BR.out.lt))) (takeT_no hn)⟩
 | some y =>
  obtain ⟨x, r⟩ := y
  refine lin_callP 1 53 #[.pointer (some ⟨q, 0, none⟩)] (some 5) _ (by kernel_rfl) (by kernel_rfl) (by kernel_rfl) (CALL) ?_
  rintro e w2 ⟨hb, v, m2, rfl, ⟨cs, rfl, ht⟩, hr⟩
  refine .inl ⟨_, rfl, ?_⟩
  have qb := QB.out
  have S1 := BR.out.lt
  have BR2 : Hid (Blk w2 B 25 z5T) := bel_keep hb BR.out (by omega) S1
  have BE2 : Hid (Bel [q] B w w2) := BE.out.trans (hb.mono (Nat.le_of_lt S1))
  have C5 := Lib.hid ht.len
  have ONE := Lib.hid ht.one
  have TX : Hid (TmAt (List.range (B + 1)) w2 x cs) := ht.range S1
  have GOOD := Lib.hid (termP_good IB.1 IB.2 hn).1
  have RD2 := Lib.hid hr
  clear hb hr ht CALL
  obtain ⟨z, hz⟩ : ∃ z, Hid (w2.heap.size = z) := ⟨_, rfl⟩
  have BZ : Hid (B < z) := by have := BR2.out.lt; have := hz.out; rw [Hid]; omega
  refine lall 2 25 z5T (z) (some 3) hz ?_
  intro w3 bw3 bew3 hsw3
  refine lput 3 25 (.tmp 3) (.tmp 5) (z) _ (z5T) (cs) bw3 (C5.out.trans (rfl : z5T.length = 5).symm) (t5Size C5.out) (by simpa using ONE.out) ?_
  intro w4 bw4 uw4
  refine ldn 4 ?_
  generalize hact : Act.put _ none _ = act
  simp only [Act.put, sA, sC, sZ] at hact
  subst hact
  have B24 : Below z w2 w4 := uw4.below bew3 (Nat.le_refl _) (by have := hsw3.out; omega)
  have bz := BZ.out
  have BZ4 := Lib.hid bw4
  have BR4 := Lib.hid (BR2.out.below B24 bz)
  have BE4 : Hid (Bel [q] B w w4) := BE2.out.trans (Bel.of (B24.mono (Nat.le_of_lt bz)))
  have RD4 := Lib.hid (RD2.out.below B24 (by omega))
  have TX4 : Hid (TmAt (List.range (B + 1)) w4 x cs) := TX.out.below (by rw [hz.out]; exact B24)
  clear bw3 bew3 hsw3 bw4 uw4 B24 hz BR2 BE2 RD2 TX
  go_upto_region 2 with (fail)
  refine lbeg (opsOf Try.f52 2) ?_
  refine lrl 0 (cs) (some 6) 25 3 (z) 0 (BZ4.out).whole Try.underlying25 (t5Size C5.out) ?_
  refine lcal 1 33 #[.agg cs.toArray, .int .i64 4, .int .i64 1099511627776] (some 7) _ (right_walk8 x cs 4 1099511627776 w4 TX4.out GOOD.out.1 (Nat.le_trans GOOD.out.2 (by decide))) ?_
  rintro e w5 ⟨rfl, hb5⟩
  refine ⟨_, rfl, ?_⟩
  have BZ5 := Lib.hid (BZ4.out.below hb5 BZ4.out.lt)
  have BR5 := Lib.hid (BR4.out.below hb5 BR4.out.lt)
  have BE5 : Hid (Bel [q] B w w5) := BE4.out.trans (Bel.of (hb5.mono (Nat.le_of_lt BR4.out.lt)))
  have RD5 := Lib.hid (RD4.out.below hb5 RD4.out.lt)
  have TX5 := Lib.hid (TX4.out.below hb5)
  clear hb5 BZ4 BR4 BE4 RD4 TX4
  cases hR : rightP 4 1099511627776 x
  ·skip
   refine lin_callP 2 54 #[.bool false] (some 8) _ (by kernel_rfl) (by kernel_rfl) (by kernel_rfl) (cneed_no w5) ?_
   rintro e w' ⟨rfl, hw'⟩
   obtain rfl := hw'.symm
   exact .inr ⟨_, rfl, rfl, RdM.no (by rw [hB.out]; exact BE5.out) (takeT_bad hn hR)⟩
  refine lcal 2 54 #[.bool true] (some 8) _ (cneed_yes w5) ?_
  rintro e w' ⟨rfl, hw'⟩
  obtain rfl := hw'.symm
  refine ⟨_, rfl, ?_⟩
  refine ldn 3 ?_
  generalize hact : Act.put _ (some 8) _ = act
  simp only [Act.put, sA, sC, sZ] at hact
  subst hact
  go_upto_region 3 with (fail)
  refine lbeg (opsOf Try.f52 3) ?_
  refine lrl 0 (cs) (some 9) 25 3 (z) 0 (BZ5.out).whole Try.underlying25 (t5Size C5.out) ?_
  refine lput 1 25 (.tmp 2) (.tmp 9) (B) _ (z5T) (cs) BR5.out (C5.out.trans (rfl : z5T.length = 5).symm) (t5Size C5.out) (by simpa using ONE.out) ?_
  intro w6 bw6 uw6
  refine ldn 2 ?_
  generalize hact : Act.put _ none _ = act
  simp only [Act.put, sA, sC, sZ] at hact
  subst hact
  have POST : Hid (RdM q (takeT l) RTm w (.returned (.agg cs.toArray)) w6) := RdM.yes (by rw [hB.out]; exact BE5.out.newBlk uw6 (Nat.le_refl _) (Nat.le_of_lt BR5.out.lt)) (takeT_yes hn hR) ⟨cs, rfl, (TX5.out.stepx (Step.of_upd uw6 (List.mem_range.2 (by omega)))).range (by have := hB.out; omega)⟩ (RD5.out.upd uw6 qb)
  have HB6 := Lib.hid bw6
  clear bw6 uw6 TX5 RD5 BE5
  go_wp2
  refine bodyPost_ret (v := .agg cs.toArray) ?_ rfl POST.out
  exact results_cell_row (g := B) (t := 25) (cs := cs.toArray) (fr := (0, 0)) Try.results52 _ _ _ rfl HB6.out Try.underlying25 rfl (t5Size C5.out)
set_option maxHeartbeats 4000000 in
theorem taken_catchT (k : Int) (older : List PanicEntry) (w : World) : CallsD Try.prog 78 #[] (.panicking ({ v := .iface 101 (.int .i64 k), recovered := false } :: older)) w fun e u' w' => e = .returned (.tuple #[]) ∧ u' = .panicking ({ v := .iface 101 (.int .i64 k), recovered := true } :: older) ∧ w' = w := by
 refine callsD_of_wpS Try.func78 rfl fun c₀ cs hu => ?_
 apply wpS_seq
 apply wpS_region
 simp [wpOpsS, go_sem, recoverD, hu, Try.ntmps78, Exit.thenS]
 refine wpS_of_wp ?_
 simp only [Array.replicate_succ, Array.replicate_zero, List.push_toArray, List.nil_append, List.cons_append, List.setIfInBounds_toArray, List.set_cons_succ, List.set_cons_zero]
 go_upto_region 1 with (fail)
 refine lbeg (opsOf Try.f78 1) ?_
 refine lnow 0 (.iface 101 (.int .i64 k)) (some 5) ?_
 refine lnow 1 (.tuple #[.int .i64 k, .bool true]) (some 6) ?_
 refine lnow 2 (.tuple #[.int .i64 k, .bool true]) (some 4) ?_
 refine lnow 3 (.int .i64 k) (some 7) ?_
 refine lnow 4 (.bool true) (some 8) ?_
 refine lnow 5 (.int .i64 k) (some 1) ?_
 refine lnow 6 (.bool true) (some 2) ?_
 refine ldn 7 ?_
 generalize hact : Act.put _ (some 2) _ = act
 simp only [Act.put, sA, sC, sZ] at hact
 subst hact
 go_upto_region 2 with (fail)
 refine lbeg (opsOf Try.f78 2) ?_
 refine lnow 0 (.iface 101 (.int .i64 k)) (some 9) ?_
 refine lnow 1 (.bool true) (some 10) ?_
 refine lnow 2 (.bool true) (some 11) ?_
 refine lnow 3 (.bool true) (some 12) ?_
 refine lnow 4 (.bool false) (some 13) ?_
 refine lnow 5 (.bool false) (some 14) ?_
 refine ldn 6 ?_
 generalize hact : Act.put _ (some 14) _ = act
 simp only [Act.put, sA, sC, sZ] at hact
 subst hact
 go_wp2
 simp [bodyPostS, results, Try.results78]
set_option maxHeartbeats 4000000 in
theorem taken_idleT (w : World) : CallsD Try.prog 78 #[] .returning w fun e u' w' => e = .returned (.tuple #[]) ∧ u' = .returning ∧ w' = w := by
 refine callsD_of_wpS Try.func78 rfl fun c₀ cs hu => ?_
 apply wpS_seq
 apply wpS_region
 simp [wpOpsS, go_sem, recoverD, hu, Try.ntmps78, Exit.thenS]
 refine wpS_of_wp ?_
 simp only [Array.replicate_succ, Array.replicate_zero, List.push_toArray, List.nil_append, List.cons_append, List.setIfInBounds_toArray, List.set_cons_succ, List.set_cons_zero]
 go_upto_region 1 with (fail)
 refine lbeg (opsOf Try.f78 1) ?_
 refine lnow 0 (.nilIface) (some 5) ?_
 refine lnow 1 (.tuple #[.int .i64 0, .bool false]) (some 6) ?_
 refine lnow 2 (.tuple #[.int .i64 0, .bool false]) (some 4) ?_
 refine lnow 3 (.int .i64 0) (some 7) ?_
 refine lnow 4 (.bool false) (some 8) ?_
 refine lnow 5 (.int .i64 0) (some 1) ?_
 refine lnow 6 (.bool false) (some 2) ?_
 refine ldn 7 ?_
 generalize hact : Act.put _ (some 2) _ = act
 simp only [Act.put, sA, sC, sZ] at hact
 subst hact
 go_upto_region 2 with (fail)
 refine lbeg (opsOf Try.f78 2) ?_
 refine lnow 0 (.nilIface) (some 9) ?_
 refine lnow 1 (.bool false) (some 10) ?_
 refine lnow 2 (.bool false) (some 11) ?_
 refine lpas 3 (some 12) ?_
 refine lpas 4 (some 13) ?_
 refine lnow 5 (.bool false) (some 14) ?_
 refine ldn 6 ?_
 generalize hact : Act.put _ (some 14) _ = act
 simp only [Act.put, sA, sC, sZ] at hact
 subst hact
 go_wp2
 cases c₀
 simp_all [bodyPostS, results, Try.results78]
set_option maxHeartbeats 4000000 in
theorem taken_walkT (b : Value) (l : List Int) (w : World) (h : BytesIn w b l) (hi : isB l) (hl : l.length ≤ 1000000000) : Calls Try.prog 51 #[b, .func (.func 52) #[] #[]] w (TkP (takeT l) RTm (.agg z5T.toArray) w) := by
 obtain ⟨q, hq⟩ : ∃ q, Hid (w.heap.size = q) := ⟨_, rfl⟩
 obtain ⟨ba, bc, rfl, -⟩ := id h
 have HB := Lib.hid h
 have HI := Lib.hid hi
 have HL := Lib.hid hl
 clear h hi hl
 go_enter_defers Try.func51, Try.ntmps51
 go_upto_region 0 with (fail)
 refine lbeg (opsOf Try.f51 0) ?_
 refine lall 0 25 z5T q (some 4) hq ?_
 intro wa bA beA hsA
 refine lnow 1 (.slice none 0 0) (some 5) ?_
 refine lnow 2 (.bool false) (some 6) ?_
 refine ldn 3 ?_
 generalize hact : Act.put _ (some 6) _ = act
 simp only [Act.put, sA, sC, sZ] at hact
 subst hact
 obtain ⟨p, hp⟩ : ∃ p, Hid (wa.heap.size = p) := ⟨_, rfl⟩
 have QP : Hid (q < p) := by have := bA.lt; have := hp.out; rw [Hid]; omega
 have BA := Lib.hid bA
 have BEA := Lib.hid beA
 have HB := Lib.hid (HB.out.below (by rw [hq.out]; exact BEA.out) (Nat.le_refl _))
 clear bA beA hsA
 go_upto_region 2 with (fail)
 refine lbeg (opsOf Try.f51 2) ?_
 refine lnow 0 (.slice ba l.length bc) (some 8) ?_
 refine lnow 1 (.agg ([.slice ba l.length bc, .int .i64 0] : List Value).toArray) (some 9) ?_
 refine lall 2 87 [.slice none 0 0, .int .i64 0] p (some 7) hp ?_
 intro w0 b0 be0 hs0
 refine lput 3 87 (.tmp 7) (.tmp 9) p _ [.slice none 0 0, .int .i64 0] [.slice ba l.length bc, .int .i64 0] b0 rfl (by kernel_rfl) (by simpa using (by intro u hu; simp only [List.mem_cons, List.not_mem_nil, or_false] at hu; rcases hu with rfl | rfl <;> rfl : ∀ u ∈ ([.slice ba l.length bc, .int .i64 0] : List Value), u.oneCell' = true)) ?_
 intro w1 b1 u1
 refine ldn 4 ?_
 generalize hact : Act.put _ none _ = act
 simp only [Act.put, sA, sC, sZ] at hact
 subst hact
 have B01 : Below p wa w1 := u1.below be0 (Nat.le_refl _) (by have := hs0.out; omega)
 have S1 : Hid (p < w1.heap.size) := b1.lt
 have RD : Hid (RdAt p w1 l 0) := ⟨.slice ba l.length bc, b1, (BytesLt.of HB.out).at hp.out B01, HI.out, HL.out⟩
 have qp := QP.out
 have BE : Hid (Below q w w1) := BEA.out.trans (B01.mono (Nat.le_of_lt qp))
 have BA := Lib.hid (BA.out.below B01 qp)
 clear b0 be0 hs0 b1 u1 B01
 have CALL := taketerm1_walk p w1 l 0 RD.out
 go_upto_region 3 with (fail)
 refine lbeg (opsOf Try.f51 3) ?_
 refine lnow 0 (.func (.func 52) #[] #[]) (some 10) ?_
 obtain ⟨oo, hoo⟩ : ∃ oo, Hid (takeT l = oo) := ⟨_, rfl⟩
 rw [hoo.out] at CALL ⊢
 cases oo with
 | none =>
  refine lin_callP 1 52 #[.pointer (some ⟨p, 0, none⟩)] (some 11) _ (by kernel_rfl) (by kernel_rfl) (by kernel_rfl) (CALL) ?_
  rintro e w2 ⟨hb, hr⟩
  obtain rfl : e = fellF := hr
  refine .inr ⟨_, rfl, ?_⟩
  have BA2 : Hid (Blk w2 q 25 z5T) := bel_keep hb BA.out (by omega) BA.out.lt
  refine leaves_cons (f := 78) (args := #[]) (by simp) (by kernel_rfl) ?_
  refine (taken_catchT 10 [] w2).mono ?_
  rintro e u' w3 ⟨rfl, rfl, rfl⟩
  refine ⟨.tuple #[.agg z5T.toArray, .slice none 0 0, .bool false], ?_, TkP.no ?_ rfl⟩
  ·exact results_cell2 Try.results51 _ _ q 25 z5T.toArray (0, 0) _ _ _ rfl rfl rfl BA2.out Try.underlying25 rfl (t5Size rfl)
  ·rw [hq.out]
   exact BE.out.trans (Bel.below (hb.mono (Nat.le_of_lt S1.out)) (fun k hk => by rw [List.mem_singleton.1 hk]; exact Nat.le_refl _) |>.mono (Nat.le_of_lt qp))
 | some y =>
  obtain ⟨x, r⟩ := y
  refine lin_callP 1 52 #[.pointer (some ⟨p, 0, none⟩)] (some 11) _ (by kernel_rfl) (by kernel_rfl) (by kernel_rfl) (CALL) ?_
  rintro e w2 ⟨hb, v, m2, rfl, ⟨cs, rfl, hdc⟩, hr⟩
  refine .inl ⟨_, rfl, ?_⟩
  have BA2 : Hid (Blk w2 q 25 z5T) := bel_keep hb BA.out (by omega) BA.out.lt
  have BE2 : Hid (Below q w w2) := BE.out.trans (Bel.below (hb.mono (Nat.le_of_lt S1.out)) (fun k hk => by rw [List.mem_singleton.1 hk]; exact Nat.le_refl _) |>.mono (Nat.le_of_lt qp))
  obtain ⟨vb, hblk, hby, hisB, hlen⟩ := hr
  have BQ := Lib.hid hblk
  have BY := Lib.hid hby
  have LL := Lib.hid hlen
  have S2 : Hid (w1.heap.size ≤ w2.heap.size) := hb.size
  have C15 := Lib.hid hdc.len
  have ONE := Lib.hid hdc.one
  have DX := Lib.hid hdc
  clear hb hblk hby hisB hlen CALL hdc
  refine lput 2 25 (.tmp 4) (.tmp 11) q _ z5T cs BA2.out (C15.out.trans (rfl : 5 = z5T.length)) (t5Size C15.out) (by simpa using ONE.out) ?_
  intro w3 b3 u3
  refine ldn 3 ?_
  generalize hact : Act.put _ none _ = act
  simp only [Act.put, sA, sC, sZ] at hact
  subst hact
  have BA3 := Lib.hid b3
  have BQ3 := Lib.hid (u3.blk BQ.out (by omega))
  have S3 : Hid (p < w3.heap.size) := BQ3.out.lt
  have BY3 : Hid (BytesIn w3 vb r) := (BytesLt.in BY.out).updT BA2.out u3
  have DX3 : Hid (TmAt (List.range p) w3 x cs) := (TmAt.subx DX.out (fun k hk => .inl (List.mem_range.2 (by have := List.mem_range.1 hk; have := S1.out; omega)))).stepx (Step.of_upd u3 (List.mem_range.2 qp))
  have BE3 : Hid (Below q w w3) := u3.below BE2.out (Nat.le_refl _) (by have := BQ.out.lt; omega)
  clear b3 u3 BA2 BQ BY DX BE2
  go_upto_region 4 with (fail)
  refine region_begin (opsOf Try.f51 4) (fun W' => Blk W' q 25 cs ∧ Blk W' p 87 [vb, .int .i64 (m2 : Int)]) (by kernel_rfl) (by kernel_rfl) 7 (by kernel_rfl) ?_
  intro Q' hQN hN
  have HS : Blk w3.drew q 25 cs ∧ Blk w3.drew p 87 [vb, .int .i64 (m2 : Int)] := ⟨BA3.out, BQ3.out⟩
  have HD : Below w3.heap.size w3 w3.drew := (Below.refl _ _).drew
  have BY4 := Lib.hid (BY3.out.below HD (Nat.le_refl _))
  have DX4 := Lib.hid (DX3.out.below HD)
  have BE4 : Hid (Below q w w3.drew) := BE3.out.trans (HD.mono (by have := S3.out; omega))
  have S4 : Hid (p < w3.drew.heap.size) := S3.out
  clear HD
  generalize w3.drew = wd at HS BY4 DX4 BE4 S4 ⊢
  refine reg_now 1 (.pointer (some ⟨p, 0, none⟩)) (some 13) hQN HS (by kernel_rfl) (by kernel_rfl) (fun w => by kernel_rfl) ?_
  refine reg_nowIf 0 (.agg cs.toArray) (some 12) hQN HS (by kernel_rfl) (by kernel_rfl) (fun w' hw => exec_load_mid 25 (.tmp 4) (by kernel_rfl) q 0 (by kernel_rfl) cs _ hw.1.whole Try.underlying25 rfl (t5Size C15.out)) ?_
  refine reg_nowIf 2 (vb) (some 14) hQN HS (by kernel_rfl) (by kernel_rfl) (fun w' hw => exec_load_cell 30 (.tmp 13) (by kernel_rfl) p 0 (by kernel_rfl) _ (hw.2.cell rfl) _ Try.underlying30 rfl) ?_
  refine reg_call 3 75 #[vb] (some 15) _ (by kernel_rfl) (by kernel_rfl) (by kernel_rfl) (bclone_walk vb r wd BY4.out LL.out) ?_
  rintro e w5 ⟨v5, rfl, r5, hb5⟩
  have HS5 : Blk w5 q 25 cs ∧ Blk w5 p 87 [vb, .int .i64 (m2 : Int)] := ⟨HS.1.below hb5 HS.1.lt, HS.2.below hb5 HS.2.lt⟩
  refine ⟨_, rfl, HS5, ?_⟩
  refine reg_putT 4 25 (.tmp 4) (.tmp 12) q 25 cs cs (by kernel_rfl) (by kernel_rfl) (by kernel_rfl) (by kernel_rfl) (by kernel_rfl) HS5.1 rfl (t5Size C15.out) (by simpa using ONE.out) ?_
  intro w6 b6 u6
  have HS6 : Blk w6 q 25 cs ∧ Blk w6 p 87 [vb, .int .i64 (m2 : Int)] := ⟨b6, u6.blk HS5.2 (by omega)⟩
  refine ⟨HS6, ?_⟩
  refine reg_now 5 (v5) (some 5) hQN HS6 (by kernel_rfl) (by kernel_rfl) (fun w => by kernel_rfl) ?_
  refine reg_now 6 (.bool true) (some 6) hQN HS6 (by kernel_rfl) (by kernel_rfl) (fun w => by kernel_rfl) ?_
  have R6 : Hid (RowB q w6 v5 r) := (r5.step (Step.of_upd u6 (List.mem_singleton.2 rfl)) (fun g hg hc => by have e := List.mem_singleton.1 hc; have h1 := (r5.own g hg).1; have := S4.out; omega)).mono (by have := S4.out; omega)
  have DX6 : Hid (TmAt (List.range p) w6 x cs) := (DX4.out.below hb5).stepx (Step.of_upd u6 (List.mem_range.2 qp))
  have BE6 : Hid (Below q w w6) := u6.below (BE4.out.trans (hb5.mono (by have := S4.out; omega))) (Nat.le_refl _) (by have := HS5.2.lt; omega)
  have HB6 := Lib.hid b6
  refine reg_done (by kernel_rfl) (hN _ _ ?_)
  generalize hact : Act.put _ (some 6) _ = act
  simp only [Act.put, sA, sC, sZ] at hact
  subst hact
  clear HS HS5 HS6 b6 u6 r5 hb5 hQN hN
  have POST : Hid (TkP (some (x, r)) RTm (.agg z5T.toArray) w (.returned (.tuple #[.agg cs.toArray, v5, .bool true])) w6) := TkP.yes (by rw [hq.out]; exact BE6.out) rfl ⟨cs, rfl, DX6.out.subx (fun k hk => .inl (List.mem_range.2 (by have := List.mem_range.1 hk; have := hq.out; omega)))⟩ (by rw [hq.out]; exact R6.out)
  go_wp2
  refine leaves_cons (f := 78) (args := #[]) (by simp) (by kernel_rfl) ?_
  refine (taken_idleT w6).mono ?_
  rintro e u' w7 ⟨rfl, rfl, rfl⟩
  refine ⟨.tuple #[.agg cs.toArray, v5, .bool true], ?_, ?_⟩
  ·exact results_cell2 Try.results51 _ _ q 25 cs.toArray (0, 0) _ _ _ rfl rfl rfl HB6.out Try.underlying25 rfl (by rw [List.size_toArray]; exact t5Size C15.out)
  ·rw [hoo.out]
   exact POST.out
set_option maxHeartbeats 4000000 in
theorem TakeTerm_walk (b : Value) (l : List Int) (w : World) (h : BytesIn w b l) (hi : isB l) (hl : l.length ≤ 1000000000) : Calls Try.prog 25 #[b] w (TkP (takeT l) RTm (.agg z5T.toArray) w) := by
 obtain ⟨q, hq⟩ : ∃ q, Hid (w.heap.size = q) := ⟨_, rfl⟩
 have HB := Lib.hid h
 clear h
 go_enter Try.func25, Try.ntmps25
 go_upto_region 0 with (fail)
 refine lbeg (opsOf Try.f25 0) ?_
 refine lall 0 25 z5T q (some 2) hq ?_
 intro w1 b1 be1 hs1
 refine lnow 1 (.slice none 0 0) (some 3) ?_
 refine lnow 2 (.bool false) (some 4) ?_
 refine ldn 3 ?_
 generalize hact : Act.put _ (some 4) _ = act
 simp only [Act.put, sA, sC, sZ] at hact
 subst hact
 have BA := Lib.hid b1
 have BE := Lib.hid be1
 have S1 := b1.lt
 have CALL := taken_walkT b l w1 (HB.out.below (by rw [hq.out]; exact be1) (Nat.le_refl _)) hi hl
 clear b1 be1 hs1 hi hl
 go_upto_region 1 with (fail)
 refine lbeg (opsOf Try.f25 1) ?_
 refine lnow 0 (b) (some 5) ?_
 cases hn : takeT l with
 | none =>
  rw [hn] at CALL
  refine lcal 1 51 #[b, .func (.func 52) #[] #[]] (some 6) _ (CALL) ?_
  rintro e w2 ⟨hb, rfl⟩
  refine ⟨_, rfl, ?_⟩
  refine lnow 2 (.agg (z5T).toArray) (some 7) ?_
  refine lnow 3 (.slice none 0 0) (some 8) ?_
  refine lnow 4 (.bool false) (some 9) ?_
  have BA2 := Lib.hid (BA.out.below hb S1)
  refine lput 5 25 (.tmp 2) (.tmp 7) q _ z5T (z5T) BA2.out ((rfl : z5T.length = 5).trans (rfl : 5 = z5T.length)) (t5Size (rfl : z5T.length = 5)) (by simpa using z5T_one) ?_
  intro w3 b3 u3
  refine lnow 6 (.slice none 0 0) (some 3) ?_
  refine lnow 7 (.bool false) (some 4) ?_
  refine ldn 8 ?_
  generalize hact : Act.put _ (some 4) _ = act
  simp only [Act.put, sA, sC, sZ] at hact
  subst hact
  have BE3 : Hid (Below w.heap.size w w3) := by rw [Hid, hq.out]; exact u3.below (BE.out.trans (hb.mono (Nat.le_of_lt S1))) (Nat.le_refl _) (by have := hb.size; omega)
  have HB3 := Lib.hid b3
  have POST : Hid (TkP (takeT l) RTm (.agg z5T.toArray) w (.returned (.tuple #[.agg z5T.toArray, .slice none 0 0, .bool false])) w3) := TkP.no BE3.out hn
  clear b3 u3 hb
  go_wp2
  refine bodyPost_ret (v := .tuple #[.agg (z5T).toArray, .slice none 0 0, .bool false]) ?_ rfl POST.out
  exact results_cell2 Try.results25 _ _ q 25 (z5T).toArray (0, 0) _ _ _ rfl rfl rfl HB3.out Try.underlying25 rfl (by rw [List.size_toArray]; exact t5Size (rfl : z5T.length = 5))
 | some y =>
  obtain ⟨x, r⟩ := y
  rw [hn] at CALL
  refine lcal 1 51 #[b, .func (.func 52) #[] #[]] (some 6) _ (CALL) ?_
  rintro e w2 ⟨hb, v, v', rfl, ⟨cs, rfl, hdc⟩, hr⟩
  refine ⟨_, rfl, ?_⟩
  have C15 := Lib.hid hdc.len
  have ONE := Lib.hid hdc.one
  refine lnow 2 (.agg (cs).toArray) (some 7) ?_
  refine lnow 3 (v') (some 8) ?_
  refine lnow 4 (.bool true) (some 9) ?_
  have BA2 := Lib.hid (BA.out.below hb S1)
  refine lput 5 25 (.tmp 2) (.tmp 7) q _ z5T (cs) BA2.out (C15.out.trans (rfl : 5 = z5T.length)) (t5Size C15.out) (by simpa using ONE.out) ?_
  intro w3 b3 u3
  refine lnow 6 (v') (some 3) ?_
  refine lnow 7 (.bool true) (some 4) ?_
  refine ldn 8 ?_
  generalize hact : Act.put _ (some 4) _ = act
  simp only [Act.put, sA, sC, sZ] at hact
  subst hact
  have BE3 : Hid (Below w.heap.size w w3) := by rw [Hid, hq.out]; exact u3.below (BE.out.trans (hb.mono (Nat.le_of_lt S1))) (Nat.le_refl _) (by have := hb.size; omega)
  have HB3 := Lib.hid b3
  have POST : Hid (TkP (takeT l) RTm (.agg z5T.toArray) w (.returned (.tuple #[.agg cs.toArray, v', .bool true])) w3) := TkP.yes BE3.out hn ⟨cs, rfl, (TmAt.stepx hdc (Step.of_upd u3 (List.mem_range.2 S1))).subx (fun k hk => .inl (List.mem_range.2 (by have := List.mem_range.1 hk; have := hq.out; omega)))⟩ ((hr.step (Step.of_upd u3 (List.mem_singleton.2 rfl)) (fun g hg hc => by have e := List.mem_singleton.1 hc; have h1 := (hr.own g hg).1; omega)).mono (by have := hq.out; omega))
  clear b3 u3 hb
  go_wp2
  refine bodyPost_ret (v := .tuple #[.agg (cs).toArray, v', .bool true]) ?_ rfl POST.out
  exact results_cell2 Try.results25 _ _ q 25 (cs).toArray (0, 0) _ _ _ rfl rfl rfl HB3.out Try.underlying25 rfl (by rw [List.size_toArray]; exact t5Size C15.out)
end Go.Proofs.Yteohjbggicchgaa
