import Derived.Test.YteohjbggicchgaaKGenT
import Derived.Test.YteohjbggicchgaaKCodQ
import Derived.WalkLawsBesides
import Derived.Laws.BytesArg
import Derived.Deep.CutRange
namespace Go.Proofs.Yteohjbggicchgaa
open Go Go.RowKit
set_option maxRecDepth 100000
def fellF : Ending := .panicked [{ v := .iface 101 (.int .i64 10), recovered := false }]
theorem cneed_yes (w : World) : Calls Try.prog 54 #[.bool true] w fun e w' => e = .returned (.tuple #[]) ∧ w' = w := by
 go_enter Try.func54, Try.ntmps54
 go_wp2
 go_end0
 exact ⟨rfl, rfl⟩
theorem cneed_no (w : World) : Calls Try.prog 54 #[.bool false] w fun e w' => e = fellF ∧ w' = w := by
 go_enter Try.func54, Try.ntmps54
 go_wp2
 exact ⟨rfl, rfl, rfl⟩
def BytesLt (E : Nat) (w : World) (v : Value) (zs : List Int) : Prop :=
 ∃ a cap, v = .slice a zs.length cap ∧ zs.length ≤ cap ∧ (0 < zs.length → ∃ pb po, a = some ⟨pb, po, none⟩ ∧ pb < E ∧ pb < w.heap.size ∧ w.rangeAt pb po (ints .u8 zs))
theorem BytesLt.in {E : Nat} {w : World} {v : Value} {zs : List Int} (h : BytesLt E w v zs) : BytesIn w v zs := by
 obtain ⟨a, cap, h1, h2, h3⟩ := h
 refine ⟨a, cap, h1, h2, fun hp => ?_⟩
 obtain ⟨pb, po, h4, _, h5, h6⟩ := h3 hp
 exact ⟨pb, po, h4, h5, h6⟩
theorem BytesLt.of {w : World} {v : Value} {zs : List Int} (h : BytesIn w v zs) : BytesLt w.heap.size w v zs := by
 obtain ⟨a, cap, h1, h2, h3⟩ := h
 refine ⟨a, cap, h1, h2, fun hp => ?_⟩
 obtain ⟨pb, po, h4, h5, h6⟩ := h3 hp
 exact ⟨pb, po, h4, h5, h5, h6⟩
theorem BytesLt.keep {E : Nat} {w w' : World} {v : Value} {zs : List Int} (h : BytesLt E w v zs) (hk : ∀ k, k < E → k < w.heap.size → w'.heap[k]? = w.heap[k]?) (hs : w.heap.size ≤ w'.heap.size) : BytesLt E w' v zs := by
 obtain ⟨a, cap, h1, h2, h3⟩ := h
 refine ⟨a, cap, h1, h2, fun hp => ?_⟩
 obtain ⟨pb, po, h4, h5, h6, h7⟩ := h3 hp
 exact ⟨pb, po, h4, h5, Nat.lt_of_lt_of_le h6 hs, fun j u hu => by
  rw [World.cell?_of_block (w := w) (a := ⟨pb, po + j, none⟩) (hk pb h5 h6)]; exact h7 j u hu⟩
def RdAt (q : Nat) (w : World) (l : List Int) (m : Nat) : Prop := ∃ v, Blk w q 87 [v, .int .i64 (m : Int)] ∧ BytesLt q w v l ∧ isB l ∧ l.length ≤ 1000000000
theorem RdAt.bytes {q : Nat} {w : World} {l : List Int} {m : Nat} (h : RdAt q w l m) : isB l ∧ l.length ≤ 1000000000 := by
 obtain ⟨v, -, -, h1, h2⟩ := h
 exact ⟨h1, h2⟩
theorem RdAt.lt {q : Nat} {w : World} {l : List Int} {m : Nat} (h : RdAt q w l m) : q < w.heap.size := by
 obtain ⟨v, h1, -⟩ := h
 exact h1.lt
theorem RdAt.keep {q : Nat} {w w' : World} {l : List Int} {m : Nat} (h : RdAt q w l m) (hk : ∀ k, k ≤ q → w'.heap[k]? = w.heap[k]?) (hs : w.heap.size ≤ w'.heap.size) : RdAt q w' l m := by
 obtain ⟨v, h1, h2, h3⟩ := h
 refine ⟨v, ?_, h2.keep (fun k hk1 _ => hk k (Nat.le_of_lt hk1)) hs, h3⟩
 unfold Blk at h1 ⊢
 rw [hk q (Nat.le_refl _)]
 exact h1
theorem RdAt.below {q B : Nat} {w w' : World} {l : List Int} {m : Nat} (h : RdAt q w l m) (hb : Below B w w') (hB : q < B) : RdAt q w' l m := h.keep (fun k hk => hb.block k (by omega)) hb.size
theorem RdAt.upd {q b : Nat} {w w' : World} {l : List Int} {m : Nat} (h : RdAt q w l m) (hu : Upd b w w') (hb : q < b) : RdAt q w' l m := h.keep (fun k hk => hu.block k (Nat.lt_of_le_of_lt hk h.lt) (by omega)) hu.size
def RdP {β : Type} (q m : Nat) (o : Option (β × List Int)) (R : β → Value → World → World → Prop) (w : World) (e : Ending) (w' : World) : Prop :=
 Bel [q] w.heap.size w w' ∧ match o with
 | none => e = fellF
 | some (x, l) => ∃ v, e = .returned v ∧ R x v w w' ∧ RdAt q w' l m
theorem RdP.no {β : Type} {q m : Nat} {o : Option (β × List Int)} {R : β → Value → World → World → Prop} {w w' : World} (h : Bel [q] w.heap.size w w') (ho : o = none) : RdP q m o R w fellF w' := by
 subst ho
 exact ⟨h, rfl⟩
theorem RdP.yes {β : Type} {q m : Nat} {o : Option (β × List Int)} {R : β → Value → World → World → Prop} {w w' : World} {x : β} {l : List Int} {v : Value} (h : Bel [q] w.heap.size w w') (ho : o = some (x, l)) (hR : R x v w w') (hl : RdAt q w' l m) : RdP q m o R w (.returned v) w' := by
 subst ho
 exact ⟨h, v, rfl, hR, hl⟩
theorem elemBytesR : Try.prog.underlying 30 = some (.slice (Try.prog.elem 30)) := by kernel_rfl
theorem run_at_byteR (B off n cap m : Nat) (hm : m < n) (w : World) : (Instr.indexAt 30 (.slice (some ⟨B, off, none⟩) n cap) (.int .i64 (m : Int))).run Try.prog w = .ok (.pointer (some ⟨B, off + m, none⟩)) w := by
 rw [run_indexAt_slice w 30 _ _ _ _ _ elemBytesR]
 have hz : (sizeOf (Try.prog.elem 30)).run Try.prog w = .ok 1 w := by kernel_rfl
 rw [if_pos (by omega), hz, Result.andThen_ok, Addr.add_mid, Int.toNat_natCast, Nat.mul_one]
theorem bytes_take {F : Nat} {w : World} {v : Value} {l : List Int} {n : Nat} (h : BytesLt F w v l) (hn : n ≤ l.length) : ∃ u, (∀ w', (Instr.sliceAt 30 v none (some (.int .i64 (n : Int))) none).run Try.prog w' = .ok u w') ∧ BytesLt F w u (l.take n) := by
 obtain ⟨a, cap, rfl, h2, h3⟩ := h
 have hz : ∀ w', (sizeOf (Try.prog.elem 30)).run Try.prog w' = .ok 1 w' := fun w' => by kernel_rfl
 have hl : (l.take n).length = n := by rw [List.length_take]; omega
 refine ⟨.slice (if cap = 0 then a else a.map (·.add (0 * 1))) (n - 0) (cap - 0), fun w' => ?_, ?_⟩
 ·rw [run_sliceAt_slice w' 30 _ _ _ _ elemBytesR, run_slice_h w' 30 _ _ cap elemBytesR .i64 (n : Int) (by omega) (by omega), hz]
  simp only [Result.andThen_ok, sliced, Int.toNat_natCast]
 ·refine ⟨_, cap, by rw [hl, Nat.sub_zero, Nat.sub_zero], by omega, fun hp => ?_⟩
  obtain ⟨pb, po, e, hF, hb, hr⟩ := h3 (by omega)
  refine ⟨pb, po, by rw [e]; split; rfl; rw [Option.map_some, Addr.add_mid]; simp, hF, hb, fun j u hj => hr j u ?_⟩
  rw [← ints_take, List.getElem?_take] at hj
  split at hj
  ·exact hj
  ·cases hj
theorem bytes_drop {F : Nat} {w : World} {v : Value} {l : List Int} {n : Nat} (h : BytesLt F w v l) (hn : n ≤ l.length) : ∃ u, (∀ w', (Instr.sliceAt 30 v (some (.int .i64 (n : Int))) none none).run Try.prog w' = .ok u w') ∧ BytesLt F w u (l.drop n) ∧ ∃ a c k, u = .slice a c k := by
 obtain ⟨a, cap, rfl, h2, h3⟩ := h
 have hz : ∀ w', (sizeOf (Try.prog.elem 30)).run Try.prog w' = .ok 1 w' := fun w' => by kernel_rfl
 have hl : (l.drop n).length = l.length - n := List.length_drop
 refine ⟨.slice (if cap = n then a else a.map (·.add (n * 1))) (l.length - n) (cap - n), fun w' => ?_, ?_, _, _, _, rfl⟩
 ·rw [run_sliceAt_slice w' 30 _ _ _ _ elemBytesR, run_slice_l w' 30 _ _ cap elemBytesR .i64 (n : Int) (by omega) (by omega), hz]
  simp only [Result.andThen_ok, sliced, Int.toNat_natCast]
 ·refine ⟨_, cap - n, by rw [hl], by omega, fun hp => ?_⟩
  obtain ⟨pb, po, e, hF, hb, hr⟩ := h3 (by omega)
  refine ⟨pb, po + n, by rw [e, if_neg (by omega), Option.map_some, Addr.add_mid, Nat.mul_one], hF, hb, fun j u hj => ?_⟩
  rw [← ints_drop, List.getElem?_drop] at hj
  have := hr (n + j) u hj
  rwa [← Nat.add_assoc] at this
theorem sizeBytesR : (Try.prog.info? 30).map (·.size) = some 1 := by kernel_rfl
def CutP (q : Nat) (l : List Int) (m n : Nat) (w : World) (e : Ending) (w' : World) : Prop := if n ≤ l.length then ∃ u, e = .returned u ∧ BytesLt q w' u (l.take n) ∧ RdAt q w' (l.drop n) m ∧ Upd q w w' else e = fellF ∧ w' = w
theorem CutP.no {q : Nat} {l : List Int} {m n L : Nat} {w : World} (h : ¬ n ≤ L) (hL : l.length = L := by first | rfl | exact Hid.out ‹_›) : CutP q l m n w fellF w := by
 unfold CutP
 rw [if_neg (by omega)]
 exact ⟨rfl, rfl⟩
theorem CutP.yes {q : Nat} {l : List Int} {m n L : Nat} {w w' : World} {u : Value} (h : n ≤ L) (hL : l.length = L) (h1 : BytesLt q w' u (l.take n)) (h2 : RdAt q w' (l.drop n) m) (h3 : Upd q w w') : CutP q l m n w (.returned u) w' := by
 unfold CutP
 rw [if_pos (by omega)]
 exact ⟨u, rfl, h1, h2, h3⟩
theorem cut_walk (q : Nat) (w : World) (l : List Int) (m : Nat) (h : RdAt q w l m) (n : Int) (hn : 0 ≤ n) : Calls Try.prog 76 #[.pointer (some ⟨q, 0, none⟩), .int .i64 n] w (CutP q l m n.toNat w) := by
 obtain ⟨v, hblk, hby, hisB, hlen⟩ := h
 have BY := Lib.hid hby
 have LL := Lib.hid hlen
 obtain ⟨vx, hvx⟩ : ∃ x, Hid (v = x) := ⟨_, rfl⟩
 obtain ⟨va, vc, hva, -⟩ := id hby
 subst hva
 have BQ := Lib.hid hblk
 have IB := Lib.hid hisB
 clear hby hlen hblk hisB hvx
 obtain ⟨N, rfl⟩ := Int.eq_ofNat_of_zero_le hn
 rw [Int.toNat_natCast]
 have k0 : w.cell? ⟨q, 0, none⟩ = some (.slice va l.length vc) := BQ.out.cell rfl
 obtain ⟨L, hL⟩ : ∃ L, Hid (l.length = L) := ⟨_, rfl⟩
 rw [hL.out] at k0 BQ BY LL
 go_enter Try.func76, Try.ntmps76
 go_upto_region 0 with (fail)
 refine lbeg (opsOf Try.f76 0) ?_
 refine lnow 0 (.slice none 0 0) (some 4) ?_
 refine ldn 1 ?_
 generalize hact : Act.put _ (some 4) _ = act
 simp only [Act.put, sA, sC, sZ] at hact
 subst hact
 go_upto_region 1 with (fail)
 refine lbeg (opsOf Try.f76 1) ?_
 refine lnow 0 (.int .i64 (N : Int)) (some 6) ?_
 refine lnow 1 (.pointer (some ⟨q, 0, none⟩)) (some 7) ?_
 refine lnow 2 (.pointer (some ⟨q, 0, none⟩)) (some 8) ?_
 refine lnow 3 (.pointer (some ⟨q, 0, none⟩)) (some 9) ?_
 refine lcl 4 (.slice va L vc) (some 10) 30 9 q 0 (k0) Try.underlying30 ?_
 refine lnow 5 (.int .i64 (L : Int)) (some 11) ?_
 refine lnow 6 (.bool (decide ((N : Int) ≤ (L : Int)))) (some 12) ?_
 by_cases hc : N ≤ L
 rotate_left
 ·skip
  rw [show decide ((N : Int) ≤ (L : Int)) = false from decide_eq_false (by omega)]
  refine lin_callP 7 54 #[.bool false] (some 13) _ (by kernel_rfl) (by kernel_rfl) (by kernel_rfl) (cneed_no w) ?_
  rintro e w' ⟨rfl, hw'⟩
  obtain rfl := hw'.symm
  exact .inr ⟨_, rfl, rfl, CutP.no hc hL.out⟩
 rw [show decide ((N : Int) ≤ (L : Int)) = true from decide_eq_true (by omega)]
 refine lcal 7 54 #[.bool true] (some 13) _ (cneed_yes w) ?_
 rintro e w' ⟨rfl, hw'⟩
 obtain rfl := hw'.symm
 refine ⟨_, rfl, ?_⟩
 refine ldn 8 ?_
 generalize hact : Act.put _ (some 13) _ = act
 simp only [Act.put, sA, sC, sZ] at hact
 subst hact
 obtain ⟨u1, hu1, BU1⟩ := bytes_take (n := N) BY.out (by rw [hL.out]; exact hc)
 obtain ⟨u2, hu2, BU2, a2, c2, d2, rfl⟩ := bytes_drop (n := N) BY.out (by rw [hL.out]; exact hc)
 have HU1 := Lib.hid BU1
 have HU2 := Lib.hid BU2
 clear BU1 BU2
 go_upto_region 2 with (fail)
 refine lbeg (opsOf Try.f76 2) ?_
 refine lnow 0 (.pointer (some ⟨q, 0, none⟩)) (some 14) ?_
 refine lnow 1 (.pointer (some ⟨q, 0, none⟩)) (some 15) ?_
 refine lnow 2 (.pointer (some ⟨q, 0, none⟩)) (some 16) ?_
 refine lcl 3 (.slice va L vc) (some 17) 30 16 q 0 (k0) Try.underlying30 ?_
 refine lnow 4 (.int .i64 (N : Int)) (some 18) ?_
 refine lnowP 5 (u1) (some 19) (exec_of (Instr.sliceAt 30 (.slice va L vc) none (some (.int .i64 (N : Int))) none) _ (by kernel_rfl) (hu1 _)) ?_
 refine lnow 6 (u1) (some 5) ?_
 refine ldn 7 ?_
 generalize hact : Act.put _ (some 5) _ = act
 simp only [Act.put, sA, sC, sZ] at hact
 subst hact
 go_upto_region 3 with (fail)
 refine lbeg (opsOf Try.f76 3) ?_
 refine lnow 0 (.pointer (some ⟨q, 0, none⟩)) (some 20) ?_
 refine lnow 1 (.pointer (some ⟨q, 0, none⟩)) (some 21) ?_
 refine lnow 2 (.pointer (some ⟨q, 0, none⟩)) (some 22) ?_
 refine lnow 3 (.pointer (some ⟨q, 0, none⟩)) (some 23) ?_
 refine lcl 4 (.slice va L vc) (some 24) 30 23 q 0 (k0) Try.underlying30 ?_
 refine lnow 5 (.int .i64 (N : Int)) (some 25) ?_
 refine lnowP 6 (.slice a2 c2 d2) (some 26) (exec_of (Instr.sliceAt 30 (.slice va L vc) (some (.int .i64 (N : Int))) none none) _ (by kernel_rfl) (hu2 _)) ?_
 refine lnow 7 (.pointer (some ⟨q, 0, none⟩)) (some 27) ?_
 refine lnow 8 (.pointer (some ⟨q, 0, none⟩)) (some 28) ?_
 refine lin_putF 9 0 30 (.tmp 28) (.tmp 26) q 87 [.slice va L vc, .int .i64 (m : Int)] (.slice a2 c2 d2) (by kernel_rfl) (by kernel_rfl) (by kernel_rfl) (by kernel_rfl) (by kernel_rfl) BQ.out (by simp) sizeBytesR rfl rfl ?_
 intro w3 b3 u3
 refine ldn 10 ?_
 generalize hact : Act.put _ none _ = act
 simp only [Act.put, sA, sC, sZ] at hact
 subst hact
 have R1 : Hid (RdAt q w3 (l.drop N) m) := ⟨.slice a2 c2 d2, b3, HU2.out.keep (fun k hk hk2 => u3.block k hk2 (by omega)) u3.size, IB.out.drop N, by rw [List.length_drop]; have := LL.out; have := hL.out; omega⟩
 have R2 : Hid (BytesLt q w3 u1 (l.take N)) := HU1.out.keep (fun k hk hk2 => u3.block k hk2 (by omega)) u3.size
 have UU := Lib.hid u3
 clear b3 u3 k0 hu1 hu2
 go_upto_region 4 with (fail)
 refine lbeg (opsOf Try.f76 4) ?_
 refine lnow 0 (u1) (some 29) ?_
 refine lnow 1 (u1) (some 4) ?_
 refine ldn 2 ?_
 generalize hact : Act.put _ (some 4) _ = act
 simp only [Act.put, sA, sC, sZ] at hact
 subst hact
 skip
 go_wp2
 go_ret
 exact CutP.yes hc hL.out R2.out R1.out UU.out
def RInt (z : Int) (v : Value) (_ _ : World) : Prop := v = .int .i64 z
set_option maxHeartbeats 4000000 in
theorem small_walk (q : Nat) (w : World) (l : List Int) (m : Nat) (h : RdAt q w l m) : Calls Try.prog 77 #[.pointer (some ⟨q, 0, none⟩)] w (RdP q m (smallP l) RInt w) := by
 have H := Lib.hid h
 have CUT := cut_walk q w l m h 1 (by decide)
 rw [show (1 : Int).toNat = 1 from rfl] at CUT
 clear h
 go_enter Try.func77, Try.ntmps77
 go_upto_region 0 with (fail)
 refine lbeg (opsOf Try.f77 0) ?_
 refine lnow 0 (.int .i64 0) (some 2) ?_
 refine ldn 1 ?_
 generalize hact : Act.put _ (some 2) _ = act
 simp only [Act.put, sA, sC, sZ] at hact
 subst hact
 go_upto_region 1 with (fail)
 refine lbeg (opsOf Try.f77 1) ?_
 refine lnow 0 (.pointer (some ⟨q, 0, none⟩)) (some 3) ?_
 cases l with
 | nil =>
  refine lin_callP 1 76 #[.pointer (some ⟨q, 0, none⟩), .int .i64 1] (some 4) _ (by kernel_rfl) (by kernel_rfl) (by kernel_rfl) (CUT) ?_
  intro e w' hr
  unfold CutP at hr
  rw [if_neg (by simp)] at hr
  obtain ⟨rfl, hw'⟩ := hr
  obtain rfl := hw'.symm
  exact .inr ⟨_, rfl, rfl, RdP.no (Bel.refl _ _ _) rfl⟩
 | cons z l =>
  refine lin_callP 1 76 #[.pointer (some ⟨q, 0, none⟩), .int .i64 1] (some 4) _ (by kernel_rfl) (by kernel_rfl) (by kernel_rfl) (CUT) ?_
  intro e w1 hr
  unfold CutP at hr
  rw [if_pos (by simp)] at hr
  obtain ⟨u, rfl, hu, hr1, hup⟩ := hr
  refine .inl ⟨_, rfl, ?_⟩
  obtain ⟨a, cap, rfl, hcap, hp⟩ := hu
  obtain ⟨pb, po, rfl, -, hpb, hrg⟩ := hp (by simp)
  have RG := Lib.hid hrg
  have HR := Lib.hid hr1
  have HU := Lib.hid hup
  have hz : 0 ≤ z ∧ z < 256 := H.out.bytes.1.head
  clear hp hrg hr1 hup CUT
  refine lnowP 2 (.pointer (some ⟨pb, po + 0, none⟩)) (some 5) (exec_indexAt 30 (.tmp 4) (.const (.int .i64 0)) (by kernel_rfl) _ _ _ (by kernel_rfl) (by kernel_rfl) (run_at_byteR pb po 1 cap 0 (by decide) _)) ?_
  refine lcl 3 (.int .u8 z) (some 6) 5 5 pb (po + 0) (RG.out 0 _ rfl) Try.underlying5 ?_
  refine lnow 4 (.int .i64 (IntKind.i64.wrap z)) (some 7) ?_
  rw [show IntKind.i64.wrap z = z from IntWalk.i64_in _ (by omega)]
  refine lnow 5 (.int .i64 z) (some 2) ?_
  refine ldn 6 ?_
  generalize hact : Act.put _ (some 2) _ = act
  simp only [Act.put, sA, sC, sZ] at hact
  subst hact
  have FIN : Hid (RdP q m (smallP (z :: l)) RInt w (.returned (.int .i64 z)) w1) := RdP.yes (Bel.upd (Bel.refl _ _ _) HU.out (.inl (by simp)) (Nat.le_refl _)) rfl rfl HR.out
  clear RG
  go_wp2
  go_ret
  exact FIN.out
theorem exec_shl8 {P : Program} {a : Act} {w : World} {op : Oper} (ty ty2 : TypeId) (x y : Operand) (ho : op.op = .binOp .shl ty x y ty2) (n : Int) (hx : a.eval x = .int .i64 n) (hy : a.eval y = .int .u64 8) : (execOp a.eval op).run P w = .ok (.value (.int .i64 (IntKind.i64.wrap (n * 256)))) w := by
 unfold execOp
 simp only [ho, hx, hy, eqGuard_shl, binOp_shl]
 rw [shift_shl_i64 _ _ _ (by omega) (by omega)]
 rfl
theorem orR (n b : Int) (h0 : 0 ≤ n) (h1 : n ≤ 1099511627776) (hb : 0 ≤ b ∧ b < 256) : bits BinOp.or IntKind.i64 (n * 256) b = n * 256 + b := by
 obtain ⟨n, rfl⟩ := Int.eq_ofNat_of_zero_le h0
 obtain ⟨b, rfl⟩ := Int.eq_ofNat_of_zero_le hb.1
 have e1 : (BitVec.ofInt 64 ((n : Int) * 256)).toNat = 256 * n := by rw [BitVec.toNat_ofInt]; omega
 have e2 : (BitVec.ofInt 64 (b : Int)).toNat = b := by rw [BitVec.toNat_ofInt]; omega
 have e3 : (BitVec.ofInt 64 ((n : Int) * 256) ||| BitVec.ofInt 64 (b : Int)).toNat = 256 * n + b := by
  rw [BitVec.toNat_or, e1, e2]
  exact (Nat.two_pow_add_eq_or_of_lt (i := 8) (show b < 2 ^ 8 by omega) n).symm
 have h2 : bits BinOp.or IntKind.i64 ((n : Int) * 256) (b : Int) = IntKind.i64.wrap ((BitVec.ofInt 64 ((n : Int) * 256) ||| BitVec.ofInt 64 (b : Int)).toNat : Int) := rfl
 rw [h2, e3, IntWalk.i64_in _ (by omega)]
 omega
theorem exec_orR {P : Program} {a : Act} {w : World} {op : Oper} (ty ty2 : TypeId) (x y : Operand) (ho : op.op = .binOp .or ty x y ty2) (n b : Int) (hx : a.eval x = .int .i64 n) (hy : a.eval y = .int .i64 b) : (execOp a.eval op).run P w = .ok (.value (.int .i64 (bits BinOp.or IntKind.i64 n b))) w := by
 unfold execOp
 simp only [ho, hx, hy, eqGuard_or, binOp_or, Op.intBits]
 rfl
theorem numGo_nil (f : Bool) (n : Int) : numGo f n [] = some n := by cases f <;> rfl
theorem numGo_step (f : Bool) (n d : Int) (ds : List Int) : numGo f n (d :: ds) = if f = true ∧ ¬ 0 < d then none else if n * 256 + d ≤ 1099511627776 then numGo false (n * 256 + d) ds else none := by rw [numGo]
theorem smallP_cons (z : Int) (l : List Int) : smallP (z :: l) = some (z, l) := rfl
set_option maxHeartbeats 8000000 in
theorem num_walkR (q : Nat) (w : World) (l : List Int) (m : Nat) (h : RdAt q w l m) : Calls Try.prog 50 #[.pointer (some ⟨q, 0, none⟩)] w (RdP q m (numP l) RInt w) := by
 have H := Lib.hid h
 have SM := small_walk q w l m h
 clear h
 go_enter Try.func50, Try.ntmps50
 go_upto_region 0 with (fail)
 refine lbeg (opsOf Try.f50 0) ?_
 refine lnow 0 (.int .i64 0) (some 2) ?_
 refine ldn 1 ?_
 generalize hact : Act.put _ (some 2) _ = act
 simp only [Act.put, sA, sC, sZ] at hact
 subst hact
 go_upto_region 1 with (fail)
 refine lbeg (opsOf Try.f50 1) ?_
 refine lnow 0 (.pointer (some ⟨q, 0, none⟩)) (some 7) ?_
 refine lnow 1 (.pointer (some ⟨q, 0, none⟩)) (some 8) ?_
 cases l with
 | nil =>
  refine lin_callP 2 77 #[.pointer (some ⟨q, 0, none⟩)] (some 9) _ (by kernel_rfl) (by kernel_rfl) (by kernel_rfl) (SM) ?_
  rintro e w' ⟨hb, hr⟩
  obtain rfl : e = fellF := hr
  exact .inr ⟨_, rfl, rfl, RdP.no hb rfl⟩
 | cons z l =>
  have hz : 0 ≤ z ∧ z < 256 := H.out.bytes.1.head
  refine lin_callP 2 77 #[.pointer (some ⟨q, 0, none⟩)] (some 9) _ (by kernel_rfl) (by kernel_rfl) (by kernel_rfl) (SM) ?_
  rintro e w1 ⟨hb1, v1, rfl, hv1, hr1⟩
  obtain rfl : v1 = .int .i64 z := hv1
  refine .inl ⟨_, rfl, ?_⟩
  have CUT := cut_walk q w1 l m hr1 z hz.1
  refine lin_callP 3 76 #[.pointer (some ⟨q, 0, none⟩), .int .i64 z] (some 10) _ (by kernel_rfl) (by kernel_rfl) (by kernel_rfl) (CUT) ?_
  intro e w2 hr2
  unfold CutP at hr2
  by_cases hlen : z.toNat ≤ l.length
  rotate_left
  ·skip
   rw [if_neg hlen] at hr2
   obtain ⟨rfl, hw2⟩ := hr2
   obtain rfl := hw2.symm
   exact .inr ⟨_, rfl, rfl, RdP.no hb1 (by rw [numP, if_neg hlen])⟩
  rw [if_pos hlen] at hr2
  obtain ⟨u, rfl, hu, hr2, hup⟩ := hr2
  refine .inl ⟨_, rfl, ?_⟩
  have RD := Lib.hid hr2
  have BB : Hid (Bel [q] w.heap.size w w2) := hb1.upd hup (.inl (by simp)) hb1.size
  have DB : Hid (isB (l.take z.toNat)) := hr1.bytes.1.take _
  have ENP : Hid (numP (z :: l) = match numGo true 0 (l.take z.toNat) with | none => none | some n => some (n, l.drop z.toNat)) := by rw [Hid, numP, if_pos hlen]; rfl
  obtain ⟨D, hD⟩ : ∃ D, Hid (l.take z.toNat = D) := ⟨_, rfl⟩
  rw [hD.out] at hu DB ENP
  obtain ⟨K, hK⟩ : ∃ K, Hid (D.length = K) := ⟨_, rfl⟩
  obtain ⟨G, hG⟩ : ∃ G, Hid (numGo true 0 D = G) := ⟨_, rfl⟩
  rw [hG.out] at ENP
  have K256 : Hid (K ≤ 256) := by have := congrArg List.length hD.out; rw [List.length_take, hK.out] at this; rw [Hid]; omega
  obtain ⟨ua, uc, rfl, huc, hup2⟩ := hu
  rw [hK.out] at huc hup2 ⊢
  have UP := Lib.hid hup2
  clear hup2 huc hup hr2 hr1 hb1 CUT SM hlen
  refine lnow 4 (.slice ua K uc) (some 3) ?_
  refine ldn 5 ?_
  generalize hact : Act.put _ (some 3) _ = act
  simp only [Act.put, sA, sC, sZ] at hact
  subst hact
  go_upto_region 2 with (fail)
  refine lbeg (opsOf Try.f50 2) ?_
  refine lnow 0 (.int .i64 0) (some 4) ?_
  refine ldn 1 ?_
  generalize hact : Act.put _ (some 4) _ = act
  simp only [Act.put, sA, sC, sZ] at hact
  subst hact
  go_upto_region 3 with (fail)
  refine lbeg (opsOf Try.f50 3) ?_
  refine lnow 0 (.slice ua K uc) (some 11) ?_
  refine lnow 1 (.int .i64 (K : Int)) (some 12) ?_
  refine lnow 2 (.int .i64 0) (some 13) ?_
  refine ldn 3 ?_
  generalize hact : Act.put _ (some 13) _ = act
  simp only [Act.put, sA, sC, sZ] at hact
  subst hact
  go_wp2
  go_loop [4, 13] (fun nv iv => ∃ (i : Nat) (n : Int), i ≤ K ∧ iv = .int .i64 (i : Int) ∧ nv = .int .i64 n ∧ Hid (0 ≤ n ∧ n ≤ 1099511627776) ∧ Hid (numGo (decide (i = 0)) n (D.drop i) = G)) (fun _ iv => K - (intOf iv).toNat)
  case atStart => exact ⟨0, 0, Nat.zero_le _, rfl, rfl, ⟨by omega, by omega⟩, hG⟩
  case round =>
   obtain ⟨i, n, hi, rfl, rfl, NB, GO⟩ := hrel
   by_cases hlt : i < K
   rotate_left
   ·skip
    obtain rfl : i = K := by omega
    have c1 : ¬ ((i : Int) < (i : Int)) := by omega
    have GN : G = some n := by have := GO.out; rw [List.drop_eq_nil_of_le (by have := hK.out; omega), numGo_nil] at this; exact this.symm
    go_upto_region 4 with (fail)
    refine lbeg (opsOf Try.f50 4) ?_
    refine lnow 0 (.bool (decide ((i : Int) < (i : Int)))) (some 14) ?_
    rw [decide_eq_false c1]
    refine ldn 1 ?_
    generalize hact : Act.put _ (some 14) _ = act
    simp only [Act.put, sA, sC, sZ] at hact
    subst hact
    go_upto_region 10 with (fail)
    refine lbeg (opsOf Try.f50 10) ?_
    refine lnow 0 (.int .i64 n) (some 34) ?_
    refine lnow 1 (.int .i64 n) (some 2) ?_
    refine ldn 2 ?_
    generalize hact : Act.put _ (some 2) _ = act
    simp only [Act.put, sA, sC, sZ] at hact
    subst hact
    have FIN : Hid (RdP q m (numP (z :: l)) RInt w (.returned (.int .i64 n)) w2) := RdP.yes BB.out (by rw [ENP.out, GN]) rfl RD.out
    clear GN GO
    go_wp2
    go_ret
    exact FIN.out
   have c1 : (i : Int) < (K : Int) := by omega
   obtain ⟨d, hd⟩ : ∃ d, D[i]? = some d := ⟨_, List.getElem?_eq_getElem (by rw [hK.out]; exact hlt)⟩
   have DR : Hid (D.drop i = d :: D.drop (i + 1)) := by rw [Hid, List.drop_eq_getElem_cons (by rw [hK.out]; exact hlt)]; rw [List.getElem?_eq_getElem (by rw [hK.out]; exact hlt)] at hd; rw [Option.some.inj hd]
   have DD : Hid (0 ≤ d ∧ d < 256) := DB.out d (List.mem_of_getElem? hd)
   have GO2 := Lib.hid GO.out
   rw [DR.out, numGo_step] at GO2
   obtain ⟨pb, po, rfl, -, hpb, hrg⟩ := UP.out (by omega)
   have KD : Hid (w2.cell? ⟨pb, po + i, none⟩ = some (.int .u8 d)) := hrg i _ (by rw [ints, List.getElem?_map, hd]; rfl)
   clear hrg hpb hd GO
   have dd := DD.out
   have nb := NB.out
   have k256 := K256.out
   go_upto_region 4 with (fail)
   refine lbeg (opsOf Try.f50 4) ?_
   refine lnow 0 (.bool (decide ((i : Int) < (K : Int)))) (some 14) ?_
   rw [decide_eq_true c1]
   refine ldn 1 ?_
   generalize hact : Act.put _ (some 14) _ = act
   simp only [Act.put, sA, sC, sZ] at hact
   subst hact
   go_upto_region 5 with (fail)
   refine lbeg (opsOf Try.f50 5) ?_
   refine lnow 0 (.int .i64 (i : Int)) (some 15) ?_
   refine lix 1 (.pointer (some ⟨pb, po + i, none⟩)) (some 16) 30 11 13 (run_at_byteR pb po K uc i hlt _) ?_
   refine lcl 2 (.int .u8 d) (some 17) 5 16 pb (po + i) (KD.out) Try.underlying5 ?_
   refine lnow 3 (.int .i64 (i : Int)) (some 5) ?_
   refine lnow 4 (.int .u8 d) (some 6) ?_
   refine ldn 5 ?_
   generalize hact : Act.put _ (some 6) _ = act
   simp only [Act.put, sA, sC, sZ] at hact
   subst hact
   by_cases h0 : i = 0
   ·skip
    have c2 : ¬ ((i : Int) > 0) := by omega
    rw [decide_eq_true h0] at GO2
    clear h0
    go_upto_region 6 with (fail)
    refine lbeg (opsOf Try.f50 6) ?_
    refine lnow 0 (.int .i64 (i : Int)) (some 18) ?_
    refine lnow 1 (.bool (decide ((i : Int) > 0))) (some 19) ?_
    rw [decide_eq_false c2]
    refine lnow 2 (.bool false) (some 20) ?_
    refine lnow 3 (.int .u8 d) (some 21) ?_
    refine lnow 4 (.bool (decide (d > 0))) (some 22) ?_
    refine lnow 5 (.bool (decide (d > 0))) (some 23) ?_
    by_cases hd0 : d > 0
    rotate_left
    ·skip
     rw [decide_eq_false hd0]
     have GN : G = none := by have := GO2.out; rw [if_pos ⟨rfl, hd0⟩] at this; exact this.symm
     refine lin_callP 6 54 #[.bool false] (some 24) _ (by kernel_rfl) (by kernel_rfl) (by kernel_rfl) (cneed_no w2) ?_
     rintro e w' ⟨rfl, hw'⟩
     obtain rfl := hw'.symm
     exact .inr ⟨_, rfl, rfl, RdP.no BB.out (by rw [ENP.out, GN])⟩
    rw [decide_eq_true hd0]
    refine lcal 6 54 #[.bool true] (some 24) _ (cneed_yes w2) ?_
    rintro e w' ⟨rfl, hw'⟩
    obtain rfl := hw'.symm
    refine ⟨_, rfl, ?_⟩
    refine ldn 7 ?_
    generalize hact : Act.put _ (some 24) _ = act
    simp only [Act.put, sA, sC, sZ] at hact
    subst hact
    rw [if_neg (fun hc => hc.2 hd0)] at GO2
    clear hd0 c2
    go_upto_region 7 with (fail)
    refine lbeg (opsOf Try.f50 7) ?_
    refine lnow 0 (.int .i64 n) (some 25) ?_
    refine lnowP 1 (.int .i64 (IntKind.i64.wrap (n * 256))) (some 26) (exec_shl8 3 90 (.tmp 25) (.const (.int .u64 8)) (by kernel_rfl) n (by kernel_rfl) (by kernel_rfl)) ?_
    rw [show IntKind.i64.wrap (n * 256) = n * 256 from IntWalk.i64_in _ (by omega)]
    refine lnow 2 (.int .u8 d) (some 27) ?_
    refine lnow 3 (.int .i64 (IntKind.i64.wrap d)) (some 28) ?_
    rw [show IntKind.i64.wrap d = d from IntWalk.i64_in _ (by omega)]
    refine lnowP 4 (.int .i64 (bits BinOp.or IntKind.i64 (n * 256) d)) (some 29) (exec_orR 3 3 (.tmp 26) (.tmp 28) (by kernel_rfl) (n * 256) d (by kernel_rfl) (by kernel_rfl)) ?_
    rw [orR n d nb.1 nb.2 dd]
    obtain ⟨n2, hn2⟩ : ∃ y, Hid (n * 256 + d = y) := ⟨_, rfl⟩
    rw [hn2.out] at GO2 ⊢
    refine lnow 5 (.int .i64 n2) (some 4) ?_
    refine ldn 6 ?_
    generalize hact : Act.put _ (some 4) _ = act
    simp only [Act.put, sA, sC, sZ] at hact
    subst hact
    go_upto_region 8 with (fail)
    refine lbeg (opsOf Try.f50 8) ?_
    refine lnow 0 (.int .i64 n2) (some 30) ?_
    refine lnow 1 (.bool (decide (n2 ≤ 1099511627776))) (some 31) ?_
    by_cases h40 : n2 ≤ 1099511627776
    rotate_left
    ·skip
     rw [decide_eq_false h40]
     have GN : G = none := by have := GO2.out; rw [if_neg h40] at this; exact this.symm
     refine lin_callP 2 54 #[.bool false] (some 32) _ (by kernel_rfl) (by kernel_rfl) (by kernel_rfl) (cneed_no w2) ?_
     rintro e w' ⟨rfl, hw'⟩
     obtain rfl := hw'.symm
     exact .inr ⟨_, rfl, rfl, RdP.no BB.out (by rw [ENP.out, GN])⟩
    rw [decide_eq_true h40]
    refine lcal 2 54 #[.bool true] (some 32) _ (cneed_yes w2) ?_
    rintro e w' ⟨rfl, hw'⟩
    obtain rfl := hw'.symm
    refine ⟨_, rfl, ?_⟩
    refine ldn 3 ?_
    generalize hact : Act.put _ (some 32) _ = act
    simp only [Act.put, sA, sC, sZ] at hact
    subst hact
    have NB2 : Hid (0 ≤ n2 ∧ n2 ≤ 1099511627776) := ⟨by have := hn2.out; omega, h40⟩
    have GO3 : Hid (numGo (decide (i + 1 = 0)) n2 (D.drop (i + 1)) = G) := by have := GO2.out; rw [if_pos h40] at this; rw [Hid, decide_eq_false (Nat.succ_ne_zero i)]; exact this
    clear GO2 DR hn2 h40 KD NB nb dd
    go_wp2
    go_round
    case rel => exact ⟨i + 1, n2, by omega, by go_num, rfl, NB2, GO3⟩
    case measure => simp [intOf]; omega
   have c2 : (i : Int) > 0 := by omega
   rw [decide_eq_false h0, if_neg (fun hc => by cases hc.1)] at GO2
   go_upto_region 6 with (fail)
   refine lbeg (opsOf Try.f50 6) ?_
   refine lnow 0 (.int .i64 (i : Int)) (some 18) ?_
   refine lnow 1 (.bool (decide ((i : Int) > 0))) (some 19) ?_
   rw [decide_eq_true c2]
   refine lnow 2 (.bool true) (some 20) ?_
   refine lpas 3 (some 21) ?_
   refine lpas 4 (some 22) ?_
   refine lnow 5 (.bool true) (some 23) ?_
   refine lcal 6 54 #[.bool true] (some 24) _ (cneed_yes w2) ?_
   rintro e w' ⟨rfl, hw'⟩
   obtain rfl := hw'.symm
   refine ⟨_, rfl, ?_⟩
   refine ldn 7 ?_
   generalize hact : Act.put _ (some 24) _ = act
   simp only [Act.put, sA, sC, sZ] at hact
   subst hact
   clear c2 h0
   go_upto_region 7 with (fail)
   refine lbeg (opsOf Try.f50 7) ?_
   refine lnow 0 (.int .i64 n) (some 25) ?_
   refine lnowP 1 (.int .i64 (IntKind.i64.wrap (n * 256))) (some 26) (exec_shl8 3 90 (.tmp 25) (.const (.int .u64 8)) (by kernel_rfl) n (by kernel_rfl) (by kernel_rfl)) ?_
   rw [show IntKind.i64.wrap (n * 256) = n * 256 from IntWalk.i64_in _ (by omega)]
   refine lnow 2 (.int .u8 d) (some 27) ?_
   refine lnow 3 (.int .i64 (IntKind.i64.wrap d)) (some 28) ?_
   rw [show IntKind.i64.wrap d = d from IntWalk.i64_in _ (by omega)]
   refine lnowP 4 (.int .i64 (bits BinOp.or IntKind.i64 (n * 256) d)) (some 29) (exec_orR 3 3 (.tmp 26) (.tmp 28) (by kernel_rfl) (n * 256) d (by kernel_rfl) (by kernel_rfl)) ?_
   rw [orR n d nb.1 nb.2 dd]
   obtain ⟨n2, hn2⟩ : ∃ y, Hid (n * 256 + d = y) := ⟨_, rfl⟩
   rw [hn2.out] at GO2 ⊢
   refine lnow 5 (.int .i64 n2) (some 4) ?_
   refine ldn 6 ?_
   generalize hact : Act.put _ (some 4) _ = act
   simp only [Act.put, sA, sC, sZ] at hact
   subst hact
   go_upto_region 8 with (fail)
   refine lbeg (opsOf Try.f50 8) ?_
   refine lnow 0 (.int .i64 n2) (some 30) ?_
   refine lnow 1 (.bool (decide (n2 ≤ 1099511627776))) (some 31) ?_
   by_cases h40 : n2 ≤ 1099511627776
   rotate_left
   ·skip
    rw [decide_eq_false h40]
    have GN : G = none := by have := GO2.out; rw [if_neg h40] at this; exact this.symm
    refine lin_callP 2 54 #[.bool false] (some 32) _ (by kernel_rfl) (by kernel_rfl) (by kernel_rfl) (cneed_no w2) ?_
    rintro e w' ⟨rfl, hw'⟩
    obtain rfl := hw'.symm
    exact .inr ⟨_, rfl, rfl, RdP.no BB.out (by rw [ENP.out, GN])⟩
   rw [decide_eq_true h40]
   refine lcal 2 54 #[.bool true] (some 32) _ (cneed_yes w2) ?_
   rintro e w' ⟨rfl, hw'⟩
   obtain rfl := hw'.symm
   refine ⟨_, rfl, ?_⟩
   refine ldn 3 ?_
   generalize hact : Act.put _ (some 32) _ = act
   simp only [Act.put, sA, sC, sZ] at hact
   subst hact
   have NB2 : Hid (0 ≤ n2 ∧ n2 ≤ 1099511627776) := ⟨by have := hn2.out; omega, h40⟩
   have GO3 : Hid (numGo (decide (i + 1 = 0)) n2 (D.drop (i + 1)) = G) := by have := GO2.out; rw [if_pos h40] at this; rw [Hid, decide_eq_false (Nat.succ_ne_zero i)]; exact this
   clear GO2 DR hn2 h40 KD NB nb dd
   go_wp2
   go_round
   case rel => exact ⟨i + 1, n2, by omega, by go_num, rfl, NB2, GO3⟩
   case measure => simp [intOf]; omega
def RStr (s : List UInt8) (v : Value) (_ _ : World) : Prop := v = strT s
theorem run_bytes_text {F : Nat} {w : World} {u : Value} {l : List Int} (h : BytesLt F w u l) : (convert 30 9 u).run Try.prog w = .ok (strT (strOf l)) w := by
 obtain ⟨a, cap, rfl, h2, h3⟩ := h
 have hs : Try.prog.underlying 30 = some (.slice 5) := Try.underlying30
 have he : Try.prog.underlying 5 = some (.int .u8) := Try.underlying5
 by_cases hp : 0 < l.length
 ·obtain ⟨pb, po, rfl, -, hb, hr⟩ := h3 hp
  rw [run_convert_bytes_arg w 30 5 hs he pb po l.length cap l rfl (fun i hi => ?_) 9 strUnd]
  ·rfl
  ·refine hr i _ ?_
   rw [ints, List.getElem?_map, List.getElem?_eq_getElem hi, List.getD_eq_getElem?_getD, List.getElem?_eq_getElem hi]
   rfl
 ·obtain rfl : l = [] := List.eq_nil_of_length_eq_zero (by omega)
  cases a with
  | none => rw [run_convert_bytes_nil w 30 5 hs he _ _ 9 strUnd]; rfl
  | some ad =>
   rw [run_convert_bytes_string w 30 9 5 _ _ cap hs he strUnd, run_bytesToString w ad _ cap [] (by simp [loadCells, loadCellsFrom])]
   rfl
def TimesAt {α σ : Type} (p : σ → Option (α × σ)) (c : Nat) (s : σ) (i : Nat) (xs : List α) (si : σ) : Prop := timesP p c s = match timesP p (c - i) si with
 | none => none
 | some (ys, r) => some (xs ++ ys, r)
theorem TimesAt.start {α σ : Type} (p : σ → Option (α × σ)) (c : Nat) (s : σ) : TimesAt p c s 0 [] s := by
 unfold TimesAt
 rw [Nat.sub_zero]
 cases timesP p c s with
 | none => rfl
 | some y => rfl
theorem TimesAt.step {α σ : Type} {p : σ → Option (α × σ)} {c : Nat} {s si s' : σ} {i : Nat} {xs : List α} {x : α} (h : TimesAt p c s i xs si) (hi : i < c) (hp : p si = some (x, s')) : TimesAt p c s (i + 1) (xs ++ [x]) s' := by
 unfold TimesAt at *
 rw [h, show c - i = (c - (i + 1)) + 1 by omega, timesP, hp]
 dsimp only
 cases timesP p (c - (i + 1)) s' with
 | none => rfl
 | some y => simp
theorem TimesAt.no {α σ : Type} {p : σ → Option (α × σ)} {c : Nat} {s si : σ} {i : Nat} {xs : List α} (h : TimesAt p c s i xs si) (hi : i < c) (hp : p si = none) : timesP p c s = none := by
 unfold TimesAt at h
 rw [h, show c - i = (c - (i + 1)) + 1 by omega, timesP, hp]
theorem TimesAt.done {α σ : Type} {p : σ → Option (α × σ)} {c : Nat} {s si : σ} {xs : List α} (h : TimesAt p c s c xs si) : timesP p c s = some (xs, si) := by
 unfold TimesAt at h
 rw [h, Nat.sub_self]
 simp [timesP]
def plus1P (l : List Int) : Option (Int × List Int) := match smallP l with
 | none => none
 | some (z, r) => some (z - 1, r)
theorem levelP_eq (l : List Int) : levelP l = match smallP l with
    | none => none
    | some (b, l1) => match timesP plus1P 4 l1 with
      | none => none
      | some (ps, r) => some (⟨b, ps⟩, r) := by
  match l with
  | [] => rfl
  | [_] => rfl
  | [_, _] => rfl
  | [_, _, _] => rfl
  | [_, _, _, _] => rfl
  | _ :: _ :: _ :: _ :: _ :: _ => rfl
def RLv (x : Lv) (v : Value) (_ _ : World) : Prop := v = .agg (ints .i64 x.zs).toArray ∧ x.p.length = 4
def lvPre (b : Int) (ps : List Int) : List Value := ints .i64 (b :: (ps ++ List.replicate (4 - ps.length) 0))
theorem lvPre_len {b : Int} {ps : List Int} (h : ps.length ≤ 4) : (lvPre b ps).length = 5 := by
 rw [lvPre, ints_length, List.length_cons, List.length_append, List.length_replicate]
 omega
theorem lvPre_set {b x : Int} {ps : List Int} {i : Nat} (h : ps.length = i) (hi : i < 4) : (lvPre b ps).set (1 + i) (.int .i64 x) = lvPre b (ps ++ [x]) := by
 subst h
 match ps, hi with
 | [], _ => rfl
 | [_], _ => rfl
 | [_, _], _ => rfl
 | [_, _, _], _ => rfl
theorem lvPre_all {b : Int} {ps : List Int} (h : ps.length = 4) : lvPre b ps = ints .i64 (Lv.mk b ps).zs := by
 rw [lvPre, h]
 simp [Lv.zs]
theorem run_build_base (b : Int) (w : World) : (Instr.build 80 #[(0, .int .i64 b)]).run Try.prog w = .ok (.agg (lvPre b []).toArray) w := by kernel_rfl
theorem sizeIntR : (Try.prog.info? 3).map (·.size) = some 1 := by kernel_rfl
set_option maxHeartbeats 8000000 in
theorem text_walkR (q : Nat) (w : World) (l : List Int) (m : Nat) (h : RdAt q w l m) : Calls Try.prog 81 #[.pointer (some ⟨q, 0, none⟩)] w (RdP q m (textP l) RStr w) := by
 have H := Lib.hid h
 have NW := num_walkR q w l m h
 clear h
 go_enter Try.func81, Try.ntmps81
 go_upto_region 0 with (fail)
 refine lbeg (opsOf Try.f81 0) ?_
 refine lnow 0 (strT []) (some 2) ?_
 refine ldn 1 ?_
 generalize hact : Act.put _ (some 2) _ = act
 simp only [Act.put, sA, sC, sZ] at hact
 subst hact
 go_upto_region 1 with (fail)
 refine lbeg (opsOf Try.f81 1) ?_
 refine lnow 0 (.pointer (some ⟨q, 0, none⟩)) (some 3) ?_
 refine lnow 1 (.pointer (some ⟨q, 0, none⟩)) (some 4) ?_
 cases hnp : numP l with
 | none =>
  refine lin_callP 2 50 #[.pointer (some ⟨q, 0, none⟩)] (some 5) _ (by kernel_rfl) (by kernel_rfl) (by kernel_rfl) (NW) ?_
  rintro e w' ⟨hb, hr⟩
  rw [hnp] at hr
  obtain rfl : e = fellF := hr
  exact .inr ⟨_, rfl, rfl, RdP.no hb (by rw [textP, hnp])⟩
 | some y =>
  obtain ⟨n, l1⟩ := y
  have HNB := (numP_sound H.out.bytes.1 hnp).1
  refine lin_callP 2 50 #[.pointer (some ⟨q, 0, none⟩)] (some 5) _ (by kernel_rfl) (by kernel_rfl) (by kernel_rfl) (NW) ?_
  rintro e w1 ⟨hb1, hr⟩
  rw [hnp] at hr
  obtain ⟨v1, rfl, hv1, hr1⟩ := hr
  obtain rfl : v1 = .int .i64 n := hv1
  refine .inl ⟨_, rfl, ?_⟩
  have CUT := cut_walk q w1 l1 m hr1 n HNB.1
  have ETP : Hid (textP l = if n.toNat ≤ l1.length then some (strOf (l1.take n.toNat), l1.drop n.toNat) else none) := by rw [Hid, textP, hnp]
  clear hnp
  refine lin_callP 3 76 #[.pointer (some ⟨q, 0, none⟩), .int .i64 n] (some 6) _ (by kernel_rfl) (by kernel_rfl) (by kernel_rfl) (CUT) ?_
  intro e w2 hr2
  unfold CutP at hr2
  by_cases hlen : n.toNat ≤ l1.length
  rotate_left
  ·skip
   rw [if_neg hlen] at hr2
   obtain ⟨rfl, hw2⟩ := hr2
   obtain rfl := hw2.symm
   exact .inr ⟨_, rfl, rfl, RdP.no hb1 (by rw [ETP.out, if_neg hlen])⟩
  rw [if_pos hlen] at hr2
  obtain ⟨u, rfl, hu, hr2, hup⟩ := hr2
  refine .inl ⟨_, rfl, ?_⟩
  have RD := Lib.hid hr2
  have BB : Hid (Bel [q] w.heap.size w w2) := hb1.upd hup (.inl (by simp)) hb1.size
  have EV := Lib.hid ETP.out
  rw [if_pos hlen] at EV
  have CV := run_bytes_text hu
  clear hu hup hr2 hr1 hb1 CUT NW hlen ETP
  refine lnowP 4 (strT (strOf (l1.take n.toNat))) (some 7) (exec_of (convert 30 9 u) _ (by kernel_rfl) CV) ?_
  refine lnow 5 (strT (strOf (l1.take n.toNat))) (some 2) ?_
  refine ldn 6 ?_
  generalize hact : Act.put _ (some 2) _ = act
  simp only [Act.put, sA, sC, sZ] at hact
  subst hact
  obtain ⟨S, hS⟩ : ∃ S, Hid (strOf (l1.take n.toNat) = S) := ⟨_, rfl⟩
  rw [hS.out] at EV ⊢
  have FIN : Hid (RdP q m (textP l) RStr w (.returned (strT S)) w2) := RdP.yes BB.out EV.out rfl RD.out
  clear CV EV HNB
  go_wp2
  go_ret
  exact FIN.out
end Go.Proofs.Yteohjbggicchgaa
namespace Go.Proofs.Yteohjbggicchgaa
open Go Go.RowKit
set_option maxRecDepth 100000
theorem Bel.newBlk {q B b : Nat} {w w' w2 : World} (h : Bel [q] B w w') (hu : Upd b w' w2) (hb : B ≤ b) (hs : B ≤ w'.heap.size) : Bel [q] B w w2 := h.upd hu (.inr hb) hs
theorem bel_keep {q B k : Nat} {t : TypeId} {cs : List Value} {w w' : World} (h : Bel [q] B w w') (hk : Blk w k t cs) (hq : k ≠ q) (hB : k < B) : Blk w' k t cs := h.blk hk hB (by simpa using hq)
set_option maxHeartbeats 8000000 in
theorem level_walkR (q : Nat) (w : World) (l : List Int) (m : Nat) (h : RdAt q w l m) : Calls Try.prog 97 #[.pointer (some ⟨q, 0, none⟩)] w (RdP q m (levelP l) RLv w) := by
 obtain ⟨B, hB⟩ : ∃ B, Hid (w.heap.size = B) := ⟨_, rfl⟩
 have H := Lib.hid h
 have QB : Hid (q < B) := by rw [← hB.out]; exact h.lt
 clear h
 go_enter Try.func97, Try.ntmps97
 go_upto_region 0 with (fail)
 refine lbeg (opsOf Try.f97 0) ?_
 refine lin_alloc 0 80 (ints .i64 z5) B (some 2) (by kernel_rfl) (by kernel_rfl) (by kernel_rfl) zeroLv hB ?_
 intro w1 b1 be1 hs1
 refine ldn 1 ?_
 generalize hact : Act.put _ (some 2) _ = act
 simp only [Act.put, sA, sC, sZ] at hact
 subst hact
 have BR := Lib.hid b1
 have RD1 : Hid (RdAt q w1 l m) := H.out.below be1 QB.out
 have BB1 : Hid (Bel [q] B w w1) := Bel.of be1
 have S1 : Hid (w1.heap.size = B + 1) := hs1
 clear b1 be1 hs1
 have SM := small_walk q w1 l m RD1.out
 go_upto_region 1 with (fail)
 refine lbeg (opsOf Try.f97 1) ?_
 refine lnow 0 (.pointer (some ⟨q, 0, none⟩)) (some 5) ?_
 cases l with
 | nil =>
  refine lin_callP 1 77 #[.pointer (some ⟨q, 0, none⟩)] (some 6) _ (by kernel_rfl) (by kernel_rfl) (by kernel_rfl) (SM) ?_
  rintro e w' ⟨hb, hr⟩
  obtain rfl : e = fellF := hr
  exact .inr ⟨_, rfl, rfl, RdP.no (by rw [hB.out]; exact BB1.out.trans (hb.mono (by have := S1.out; omega))) rfl⟩
 | cons b l =>
  refine lin_callP 1 77 #[.pointer (some ⟨q, 0, none⟩)] (some 6) _ (by kernel_rfl) (by kernel_rfl) (by kernel_rfl) (SM) ?_
  rintro e w2 ⟨hb2, v2, rfl, hv2, hr2⟩
  obtain rfl : v2 = .int .i64 b := hv2
  refine .inl ⟨_, rfl, ?_⟩
  have BR2 : Hid (Blk w2 B 80 (ints .i64 z5)) := bel_keep hb2 BR.out (by have := QB.out; omega) (by have := S1.out; omega)
  have BB2 : Hid (Bel [q] B w w2) := BB1.out.trans (hb2.mono (by have := S1.out; omega))
  obtain ⟨z, hz⟩ : ∃ z, Hid (w2.heap.size = z) := ⟨_, rfl⟩
  have BZ0 : Hid (B < z) := by have := hb2.size; have := S1.out; have := hz.out; rw [Hid]; omega
  have RD2 := Lib.hid hr2
  clear hb2 hr2 BR BB1 SM RD1
  refine lnowP 2 (.agg (lvPre b []).toArray) (some 7) (exec_of (Instr.build 80 #[(0, .int .i64 b)]) _ (by kernel_rfl) (run_build_base b _)) ?_
  refine lin_alloc 3 80 (ints .i64 z5) (z) (some 3) (by kernel_rfl) (by kernel_rfl) (by kernel_rfl) zeroLv hz ?_
  intro w3 b3 be3 hs3
  refine lput 4 80 (.tmp 3) (.tmp 7) (z) _ (ints .i64 z5) (lvPre b []) b3 (rfl) (by kernel_rfl) (ints_oneCell _ _) ?_
  intro w4 b4 u4
  refine ldn 5 ?_
  generalize hact : Act.put _ none _ = act
  simp only [Act.put, sA, sC, sZ] at hact
  subst hact
  have qb := QB.out
  have bz := BZ0.out
  have B34 : Below z w2 w4 := u4.below be3 (Nat.le_refl _) (by have := hs3.out; omega)
  have BZ := Lib.hid b4
  have RD4 := Lib.hid (RD2.out.below B34 (by omega))
  have BR4 := Lib.hid (BR2.out.below B34 (by omega))
  have BB4 : Hid (Bel [q] B w w4) := BB2.out.trans (Bel.of (B34.mono (by omega)))
  have SZ : Hid (z < w4.heap.size) := b4.lt
  have TA : Hid (TimesAt plus1P 4 l 0 [] l) := TimesAt.start _ _ _
  clear b3 be3 hs3 b4 u4 B34 RD2 BR2 BB2 hz qb bz
  go_upto_region 2 with (fail)
  refine lbeg (opsOf Try.f97 2) ?_
  refine lnow 0 (.int .i64 0) (some 8) ?_
  refine ldn 1 ?_
  generalize hact : Act.put _ (some 8) _ = act
  simp only [Act.put, sA, sC, sZ] at hact
  subst hact
  go_wp2
  go_loopw [8] (fun iv wr => ∃ (i : Nat) (ps li : List Int), i ≤ 4 ∧ iv = .int .i64 (i : Int) ∧ Hid (ps.length = i) ∧ Hid (Blk wr z 80 (lvPre b ps)) ∧ Hid (Blk wr B 80 (ints .i64 z5)) ∧ Hid (RdAt q wr li m) ∧ Hid (Bel [q] B w wr) ∧ Hid (TimesAt plus1P 4 l i ps li) ∧ Hid (z < wr.heap.size)) (fun iv _ => 4 - (intOf iv).toNat)
  case atStart => exact ⟨0, [], l, by omega, rfl, rfl, BZ, BR4, RD4, BB4, TA, SZ⟩
  case round =>
   clear BZ BR4 RD4 BB4 TA SZ
   obtain ⟨i, ps, li, hi, rfl, PL, BZ, BR, RD, BB, TA, SZ⟩ := hrel
   by_cases hlt : i < 4
   rotate_left
   ·skip
    obtain rfl : i = 4 := by omega
    have c1 : ¬ (((4 : Nat) : Int) < 4) := by omega
    rw [lvPre_all PL.out] at BZ
    have ELV : Hid (levelP (b :: l) = some (⟨b, ps⟩, li)) := by rw [Hid, levelP_eq, smallP_cons]; dsimp only; rw [TA.out.done]
    have P4 : (Lv.mk b ps).p.length = 4 := PL.out
    have HP4 := Lib.hid P4
    clear P4
    go_upto_region 3 with (fail)
    refine lbeg (opsOf Try.f97 3) ?_
    refine lnow 0 (.bool (decide (((4 : Nat) : Int) < 4))) (some 9) ?_
    rw [decide_eq_false c1]
    refine ldn 1 ?_
    generalize hact : Act.put _ (some 9) _ = act
    simp only [Act.put, sA, sC, sZ] at hact
    subst hact
    go_upto_region 7 with (fail)
    refine lbeg (opsOf Try.f97 7) ?_
    refine lrl 0 (ints .i64 (Lv.mk b ps).zs) (some 18) 80 3 z 0 BZ.out.whole Try.underlying80 (lvSize HP4.out) ?_
    refine lput 1 80 (.tmp 2) (.tmp 18) (B) _ (ints .i64 z5) (ints .i64 (Lv.mk b ps).zs) BR.out ((Lv.zlen HP4.out)) (lvSize HP4.out) (ints_oneCell _ _) ?_
    intro w9 b9 u9
    refine ldn 2 ?_
    generalize hact : Act.put _ none _ = act
    simp only [Act.put, sA, sC, sZ] at hact
    subst hact
    have FIN : Hid (RdP q m (levelP (b :: l)) RLv w (.returned (.agg (ints .i64 (Lv.mk b ps).zs).toArray)) w9) := RdP.yes (by rw [hB.out]; exact BB.out.newBlk u9 (Nat.le_refl _) (by have := SZ.out; have := BZ0.out; omega)) ELV.out ⟨rfl, HP4.out⟩ (RD.out.upd u9 QB.out)
    have HB9 := Lib.hid b9
    clear b9 u9 BZ BR RD BB TA
    go_wp2
    refine bodyPost_ret (v := .agg (ints .i64 (Lv.mk b ps).zs).toArray) ?_ rfl FIN.out
    exact results_cell_row (g := B) (t := 80) (cs := (ints .i64 (Lv.mk b ps).zs).toArray) (fr := (0, 0)) Try.results97 _ _ _ rfl HB9.out Try.underlying80 rfl (by rw [List.size_toArray]; exact lvSize HP4.out)
   have c1 : (i : Int) < 4 := by omega
   have SM := small_walk q wr li m RD.out
   have SB : Hid (B ≤ wr.heap.size) := by have := SZ.out; have := BZ0.out; rw [Hid]; omega
   go_upto_region 3 with (fail)
   refine lbeg (opsOf Try.f97 3) ?_
   refine lnow 0 (.bool (decide ((i : Int) < 4))) (some 9) ?_
   rw [decide_eq_true c1]
   refine ldn 1 ?_
   generalize hact : Act.put _ (some 9) _ = act
   simp only [Act.put, sA, sC, sZ] at hact
   subst hact
   go_upto_region 4 with (fail)
   refine lbeg (opsOf Try.f97 4) ?_
   refine lnow 0 (.int .i64 (i : Int)) (some 10) ?_
   refine lnow 1 (.int .i64 (i : Int)) (some 4) ?_
   refine ldn 2 ?_
   generalize hact : Act.put _ (some 4) _ = act
   simp only [Act.put, sA, sC, sZ] at hact
   subst hact
   go_upto_region 5 with (fail)
   refine lbeg (opsOf Try.f97 5) ?_
   refine lnow 0 (.int .i64 (i : Int)) (some 11) ?_
   refine lnow 1 (.pointer (some ⟨q, 0, none⟩)) (some 12) ?_
   cases li with
   | nil =>
    refine lin_callP 2 77 #[.pointer (some ⟨q, 0, none⟩)] (some 13) _ (by kernel_rfl) (by kernel_rfl) (by kernel_rfl) (SM) ?_
    rintro e w' ⟨hb, hr⟩
    obtain rfl : e = fellF := hr
    exact .inr ⟨_, rfl, rfl, RdP.no (by rw [hB.out]; exact BB.out.trans (hb.mono SB.out)) (by rw [levelP_eq, smallP_cons]; dsimp only; rw [TA.out.no hlt rfl])⟩
   | cons y li =>
    have hy : 0 ≤ y ∧ y < 256 := RD.out.bytes.1.head
    refine lin_callP 2 77 #[.pointer (some ⟨q, 0, none⟩)] (some 13) _ (by kernel_rfl) (by kernel_rfl) (by kernel_rfl) (SM) ?_
    rintro e w5 ⟨hb5, v5, rfl, hv5, hr5⟩
    obtain rfl : v5 = .int .i64 y := hv5
    refine .inl ⟨_, rfl, ?_⟩
    have BZ5 : Hid (Blk w5 z 80 (lvPre b ps)) := bel_keep hb5 BZ.out (by have := QB.out; have := BZ0.out; omega) SZ.out
    have BR5 : Hid (Blk w5 B 80 (ints .i64 z5)) := bel_keep hb5 BR.out (by have := QB.out; omega) (by have := BZ0.out; have := SZ.out; omega)
    have BB5 : Hid (Bel [q] B w w5) := BB.out.trans (hb5.mono SB.out)
    have RD5 := Lib.hid hr5
    have SZ5 : Hid (z < w5.heap.size) := Nat.lt_of_lt_of_le SZ.out hb5.size
    have TA5 : Hid (TimesAt plus1P 4 l (i + 1) (ps ++ [y - 1]) li) := TA.out.step hlt rfl
    clear hb5 hr5 BZ BR BB TA SZ SB SM
    refine lnow 3 (.int .i64 (IntKind.i64.wrap (y - 1))) (some 14) ?_
    rw [show IntKind.i64.wrap (y - 1) = y - 1 from IntWalk.i64_in _ (by omega)]
    refine lnow 4 (.pointer (some ⟨z, 1, none⟩)) (some 15) ?_
    refine lix 5 (.pointer (some ⟨z, 1 + i, none⟩)) (some 16) 78 15 11 (run_at_arr4 z 1 i hlt _) ?_
    refine lin_putF 6 (1 + i) 3 (.tmp 16) (.tmp 14) z 80 (lvPre b ps) (.int .i64 (y - 1)) (by kernel_rfl) (by kernel_rfl) (by kernel_rfl) (by kernel_rfl) (by kernel_rfl) BZ5.out (by rw [lvPre_len (by have := PL.out; omega)]; omega) sizeIntR rfl rfl ?_
    intro w6 b6 u6
    rw [lvPre_set PL.out hlt] at b6
    refine ldn 7 ?_
    generalize hact : Act.put _ none _ = act
    simp only [Act.put, sA, sC, sZ] at hact
    subst hact
    have PL6 : Hid ((ps ++ [y - 1]).length = i + 1) := by rw [Hid, List.length_append, PL.out]; rfl
    have qb := QB.out
    have bz := BZ0.out
    have sz := SZ5.out
    have BZ6 := Lib.hid b6
    have BR6 : Hid (Blk w6 B 80 (ints .i64 z5)) := u6.blk BR5.out (by omega)
    have RD6 : Hid (RdAt q w6 li m) := RD5.out.upd u6 (by omega)
    have BB6 : Hid (Bel [q] B w w6) := BB5.out.newBlk u6 (by omega) (by omega)
    have SZ6 : Hid (z < w6.heap.size) := b6.lt
    clear b6 u6 BZ5 BR5 RD5 BB5 SZ5 PL qb bz sz hy
    go_wp2
    go_roundw
    case rel => exact ⟨i + 1, _, li, by omega, by go_num, PL6, BZ6, BR6, RD6, BB6, TA5, SZ6⟩
    case measure => simp [intOf]; omega
end Go.Proofs.Yteohjbggicchgaa
