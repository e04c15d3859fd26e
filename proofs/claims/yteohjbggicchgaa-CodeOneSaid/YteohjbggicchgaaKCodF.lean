/- The document's numbers and texts as bytes. -/
import Derived.Test.YteohjbggicchgaaKGenT
import Derived.Test.YteohjbggicchgaaKCodE
import Derived.Laws.IdiomStrings
import Derived.Deep.CutRange
namespace Go.Proofs.Yteohjbggicchgaa
open Go Go.RowKit
set_option maxRecDepth 100000
theorem exec_remC {P : Program} {a : Act} {w : World} {op : Oper} (ty ty2 : TypeId) (x y : Operand) (ho : op.op = .binOp .rem ty x y ty2) (p q : Int) (hx : a.eval x = .int .i64 p) (hy : a.eval y = .int .i64 q) (hq : q ≠ 0) : (execOp a.eval op).run P w = .ok (.value (.int .i64 (p.tmod q))) w := by
 unfold execOp
 simp only [ho, hx, hy, eqGuard_rem, binOp_rem, Op.intDiv]
 simp [hq]
theorem row_new {w : World} {xs : List Int} {n : Nat} (hn : xs.length = n) (hm : n ≤ 1000000) : RowB w.heap.size (w.alloc (.cells (ints .u8 xs).toArray 5)) (.slice (some ⟨w.heap.size, 0, none⟩) n n) xs := by
 subst hn
 exact ⟨by rw [ints_length, Nat.mul_one], .inr ⟨w.heap.size, xs.length, (ints .u8 xs).toArray, rfl, Nat.le_refl _, Blk.new w 5 (ints .u8 xs), Nat.le_refl _, by unfold maxLen; omega, by rw [List.size_toArray, ints_length, Nat.mul_one], by rw [Nat.mul_one]; exact List.take_of_length_le (by rw [ints_length]; exact Nat.le_refl _)⟩⟩
section
variable {ops : Array Oper} {Q : Exit → Act → World → Prop} {a : Act} {w : World}
/-- A row of bytes is made. -/
theorem lin_new (i : Nat) (d : Option Tmp) (xs : List Int) (n : Nat) (hn : xs.length = n) (hm : n ≤ 1000000) (hi : (ops[i]?.isSome && Region.wanted (opAt ops i) (yielded ops a.tmps)) = true) (hd : (opAt ops i).dst = d)
    (hrun : (execOp a.eval (opAt ops i)).run Try.prog w = .ok (.value (.slice (some ⟨w.heap.size, 0, none⟩) n n)) (w.alloc (.cells (ints .u8 xs).toArray 5)))
    (h : ∀ (v : Value) w', RowB w.heap.size w' v xs → Below w.heap.size w w' → v ≠ .slice none 0 0 → (∃ q, v = .slice (some ⟨q, 0, none⟩) n n) → wpFrom Try.prog ops Q (i + 1) (a.put d v) w') : wpFrom Try.prog ops Q i a w :=
  lin_value i _ d _ hi hd hrun (h _ _ (row_new hn hm) ((Below.refl _ _).alloc (Nat.le_refl _) _) (fun e => by cases e) ⟨_, rfl⟩)
end
theorem bytesRow_atC (s : ByteArray) (cap j : Nat) (hj : j < s.size) : (bytesRow s cap)[j]? = some (.int .u8 ((s.data.toList.getD j 0).toNat : Int)) := by
 unfold bytesRow
 have hjd : j < s.data.size := hj
 rw [Array.getElem?_append_left (by simpa using hjd), Array.getElem?_map, Array.getElem?_eq_getElem hjd]
 simp only [List.getD_eq_getElem?_getD, Array.getElem?_toList]
 rw [Array.getElem?_eq_getElem hjd]
 rfl
theorem run_text_bytes (s : List UInt8) (w : World) : ∃ v w', (convert 9 30 (strT s)).run Try.prog w = .ok v w' ∧ BytesIn w' v (strB s) ∧ NilOk v ∧ Below w.heap.size w w' := by
 have hsz := size_mk s
 have hd : (⟨s.toArray⟩ : ByteArray).data.toList = s := by simp
 refine ⟨_, _, run_bytes_of_string w 9 30 5 ⟨s.toArray⟩ Try.underlying9 Try.underlying30 Try.underlying5, ?_, trivial, ?_⟩
 ·refine ⟨some ⟨w.heap.size, 0, none⟩, grownCap w (⟨s.toArray⟩ : ByteArray).size 0 5, by rw [strB_len, hsz], ?_, fun _ => ⟨w.heap.size, 0, rfl, by simp, fun j v hv => ?_⟩⟩
  ·rw [strB_len, ← hsz]; exact grownCap_ge _ _ _ _
  ·have hj : j < s.length := by have := (List.getElem?_eq_some_iff.1 hv).1; rwa [ints_length, strB_len] at this
   have e : (w.drew.alloc (.cells (bytesRow ⟨s.toArray⟩ (grownCap w (⟨s.toArray⟩ : ByteArray).size 0 5)) 5 ((bytesRow ⟨s.toArray⟩ (grownCap w (⟨s.toArray⟩ : ByteArray).size 0 5)).size, (bytesRow ⟨s.toArray⟩ (grownCap w (⟨s.toArray⟩ : ByteArray).size 0 5)).size + 1))).cell? ⟨w.heap.size, 0 + j, none⟩ = (bytesRow ⟨s.toArray⟩ (grownCap w (⟨s.toArray⟩ : ByteArray).size 0 5))[0 + j]? := World.cell?_alloc_mark w.drew _ _ _ _
   rw [e, Nat.zero_add, bytesRow_atC _ _ j (by rw [hsz]; exact hj), hd, ← hv]
   simp [ints, strB, List.getD_eq_getElem?_getD, hj]
 ·exact (Below.refl _ _).drew.alloc (Nat.le_refl _) _
set_option maxHeartbeats 4000000 in
theorem rnum_walk (n : Nat) (w : World) (hn : n < 2 ^ 64) : Calls Try.prog 32 #[.int .i64 (n : Int)] w (Gives (numB n) w) := by
 obtain ⟨q, hq⟩ : ∃ q, Hid (w.heap.size = q) := ⟨_, rfl⟩
 have HN := Lib.hid hn
 obtain ⟨D, hD⟩ : ∃ D, Hid (digs 8 n = D) := ⟨_, rfl⟩
 have D8 : Hid (D.length ≤ 8) := by have := sizeN_le n hn; rw [Hid, ← hD.out, (sizeN_digs n hn).1, digS_len]; exact this
 have NB : Hid (numB n = (D.length : Int) :: D) := by rw [Hid, numB, hD.out]
 clear hn
 go_enter Try.func32, Try.ntmps32
 go_upto_region 0 with (fail)
 refine lbeg (opsOf Try.f32 0) ?_
 refine lnow 0 (.slice none 0 0) (some 2) ?_
 refine ldn 1 ?_
 generalize hact : Act.put _ (some 2) _ = act
 simp only [Act.put, sA, sC, sZ] at hact
 subst hact
 go_upto_region 1 with (fail)
 refine lbeg (opsOf Try.f32 1) ?_
 refine lin_new 0 (some 4) [] 0 rfl (by decide) (by kernel_rfl) (by kernel_rfl) (by kernel_rfl) ?_
 intro v1 w1 r1 b1 _ _
 refine lnow 1 (v1) (some 3) ?_
 refine ldn 2 ?_
 generalize hact : Act.put _ (some 3) _ = act
 simp only [Act.put, sA, sC, sZ] at hact
 subst hact
 have RB : Hid (RowB q w1 v1 []) := by rw [← hq.out]; exact r1
 have BE : Hid (Below q w w1) := by rw [← hq.out]; exact b1
 clear r1 b1
 obtain ⟨n0, hn0⟩ : ∃ y, Hid (n = y) := ⟨_, rfl⟩
 have KF : Hid (n < 256 ^ 8) := Nat.lt_of_lt_of_eq HN.out (by decide)
 go_wp2
 go_loopw [0, 3] (fun nv vv wr => ∃ (k f : Nat) (v' : Value) (ds : List Int), nv = .int .i64 (k : Int) ∧ v' = vv ∧ Hid (RowB q wr v' ds) ∧ Hid (f ≤ 8 ∧ k < 256 ^ f ∧ k < 2 ^ 64) ∧ Hid (digs f k ++ ds = D) ∧ Hid (Below q w wr)) (fun nv _ _ => (intOf nv).toNat)
 case atStart => exact ⟨n, 8, v1, [], rfl, rfl, RB, ⟨Nat.le_refl _, KF.out, HN.out⟩, by rw [List.append_nil]; exact hD, BE⟩
 case round =>
  obtain ⟨k, f, v', ds, rfl, rfl, RB, KB, DG, BE⟩ := hrel
  rcases Nat.eq_zero_or_pos k with rfl | hp
  ·skip
   have c1 : ¬ (((0 : Nat) : Int) > 0) := by omega
   have ED : Hid (ds = D) := by have := DG.out; rw [digs_zero, List.nil_append] at this; exact this
   have RD : Hid (RowB q wr v' D) := by rw [Hid, ← ED.out]; exact RB.out
   go_upto_region 2 with (fail)
   refine lbeg (opsOf Try.f32 2) ?_
   refine lnow 0 (.int .i64 ((0 : Nat) : Int)) (some 5) ?_
   refine lnow 1 (.bool (decide (((0 : Nat) : Int) > 0))) (some 6) ?_
   rw [decide_eq_false c1]
   refine ldn 2 ?_
   generalize hact : Act.put _ (some 6) _ = act
   simp only [Act.put, sA, sC, sZ] at hact
   subst hact
   obtain ⟨L, hL⟩ : ∃ L, Hid (D.length = L) := ⟨_, rfl⟩
   obtain ⟨sa, sc, hsa, -⟩ := RD.out.in
   subst hsa
   skip
   go_upto_region 5 with (fail)
   refine lbeg (opsOf Try.f32 5) ?_
   refine lnow 0 (.slice sa D.length sc) (some 15) ?_
   refine lnow 1 (.int .i64 (D.length : Int)) (some 16) ?_
   rw [hL.out]
   refine lnow 2 (.int .u8 (IntKind.u8.wrap (L : Int))) (some 17) ?_
   rw [show IntKind.u8.wrap (L : Int) = (L : Int) by rw [wrapU8]; have := D8.out; have := hL.out; omega]
   refine lin_new 3 (some 18) [(L : Int)] 1 rfl (by decide) (by kernel_rfl) (by kernel_rfl) (by kernel_rfl) ?_
   intro v2 w2 r2 b2 _ _
   have QL : Hid (q ≤ wr.heap.size) := by have := BE.out.size; have := hq.out; rw [Hid]; omega
   have RD2 : RowB q w2 (.slice sa L sc) D := by rw [← hL.out]; exact RD.out.below b2
   refine lnow 4 (.slice sa L sc) (some 19) ?_
   refine lin_app 5 (some 20) v2 (.slice sa L sc) [(L : Int)] D wr.heap.size r2 RD2.in RD2.nilok (by have := D8.out; simp; omega) b2.size (by kernel_rfl) (by kernel_rfl) (by kernel_rfl) ?_
   intro v3 w3 r3 s3
   refine lnow 6 (v3) (some 2) ?_
   refine ldn 7 ?_
   generalize hact : Act.put _ (some 2) _ = act
   simp only [Act.put, sA, sC, sZ] at hact
   subst hact
   have R3 : Hid (RowB q w3 v3 (numB n)) := by rw [Hid, NB.out, hL.out]; exact r3.mono QL.out
   have B3 : Hid (Below q w w3) := BE.out.trans ((b2.mono QL.out).trans (s3.below_of (fun k hk => by have := (ownL_row r2 k hk).1; have := QL.out; omega) (Nat.le_trans QL.out b2.size)))
   clear r2 b2 RD2 r3 s3
   go_wp2
   go_ret
   exact ⟨v3, rfl, by rw [hq.out]; exact R3.out, by rw [hq.out]; exact B3.out⟩
  have c1 : (k : Int) > 0 := by omega
  have kb := KB.out
  go_upto_region 2 with (fail)
  refine lbeg (opsOf Try.f32 2) ?_
  refine lnow 0 (.int .i64 (k : Int)) (some 5) ?_
  refine lnow 1 (.bool (decide ((k : Int) > 0))) (some 6) ?_
  rw [decide_eq_true c1]
  refine ldn 2 ?_
  generalize hact : Act.put _ (some 6) _ = act
  simp only [Act.put, sA, sC, sZ] at hact
  subst hact
  go_upto_region 3 with (fail)
  refine lbeg (opsOf Try.f32 3) ?_
  refine lnow 0 (.int .i64 (k : Int)) (some 7) ?_
  refine lnowP 1 (.int .i64 ((k : Int).tmod 256)) (some 8) (exec_remC 3 3 (.tmp 7) (.const (.int .i64 256)) (by kernel_rfl) (k : Int) 256 (by kernel_rfl) (by kernel_rfl) (by decide)) ?_
  rw [show (k : Int).tmod 256 = ((k % 256 : Nat) : Int) by rw [Int.tmod_eq_emod_of_nonneg (by omega)]; omega]
  refine lnow 2 (.int .u8 (IntKind.u8.wrap ((k % 256 : Nat) : Int))) (some 9) ?_
  rw [show IntKind.u8.wrap ((k % 256 : Nat) : Int) = ((k % 256 : Nat) : Int) by rw [wrapU8, Nat.mod_mod]]
  refine lin_new 3 (some 10) [((k % 256 : Nat) : Int)] 1 rfl (by decide) (by kernel_rfl) (by kernel_rfl) (by kernel_rfl) ?_
  intro v2 w2 r2 b2 _ _
  have QL : Hid (q ≤ wr.heap.size) := by have := BE.out.size; have := hq.out; rw [Hid]; omega
  have RD2 : RowB q w2 v' ds := RB.out.below b2
  have DL : Hid (ds.length ≤ 8) := by have := congrArg List.length DG.out; have := D8.out; rw [List.length_append] at *; rw [Hid]; omega
  refine lnow 4 (v') (some 11) ?_
  refine lin_app 5 (some 12) v2 v' [((k % 256 : Nat) : Int)] ds wr.heap.size r2 RD2.in RD2.nilok (by have := DL.out; simp; omega) b2.size (by kernel_rfl) (by kernel_rfl) (by kernel_rfl) ?_
  intro v3 w3 r3 s3
  refine lnow 6 (v3) (some 3) ?_
  refine ldn 7 ?_
  generalize hact : Act.put _ (some 3) _ = act
  simp only [Act.put, sA, sC, sZ] at hact
  subst hact
  have RB3 : Hid (RowB q w3 v3 (((k % 256 : Nat) : Int) :: ds)) := r3.mono QL.out
  have B3 : Hid (Below q w w3) := BE.out.trans ((b2.mono QL.out).trans (s3.below_of (fun k hk => by have := (ownL_row r2 k hk).1; have := QL.out; omega) (Nat.le_trans QL.out b2.size)))
  clear r2 b2 RD2 r3 s3
  go_upto_region 4 with (fail)
  refine lbeg (opsOf Try.f32 4) ?_
  refine lnow 0 (.int .i64 (k : Int)) (some 13) ?_
  refine lnowP 1 (.int .i64 (IntKind.i64.wrap ((k : Int).tdiv 256))) (some 14) (exec_quoC 3 3 (.tmp 13) (.const (.int .i64 256)) (by kernel_rfl) (k : Int) 256 (by kernel_rfl) (by kernel_rfl) (by decide)) ?_
  rw [show IntKind.i64.wrap ((k : Int).tdiv 256) = ((k / 256 : Nat) : Int) by rw [Int.tdiv_eq_ediv_of_nonneg (by omega), IntWalk.i64_in _ (by omega)]; omega]
  refine lnow 2 (.int .i64 ((k / 256 : Nat) : Int)) (some 0) ?_
  refine ldn 3 ?_
  generalize hact : Act.put _ (some 0) _ = act
  simp only [Act.put, sA, sC, sZ] at hact
  subst hact
  obtain ⟨f', rfl⟩ : ∃ f', f = f' + 1 := ⟨f - 1, by rcases f with _ | f; simp at kb; omega; rfl⟩
  have KB3 : Hid (f' ≤ 8 ∧ k / 256 < 256 ^ f' ∧ k / 256 < 2 ^ 64) := by have h2 := kb.2.1; rw [Nat.pow_succ] at h2; rw [Hid]; omega
  have DG3 : Hid (digs f' (k / 256) ++ (((k % 256 : Nat) : Int) :: ds) = D) := by have := DG.out; rw [digs, if_neg (by omega), List.append_assoc] at this; exact this
  clear DG KB
  go_wp2
  go_roundw
  case rel => exact ⟨k / 256, f', v3, _, rfl, rfl, RB3, KB3, DG3, B3⟩
  case measure => simp [intOf]; omega
set_option maxHeartbeats 4000000 in
theorem rtext_walk (s : List UInt8) (w : World) (hn : s.length ≤ 70000000000000) : Calls Try.prog 41 #[strT s] w (Gives (textB s) w) := by
 obtain ⟨q, hq⟩ : ∃ q, Hid (w.heap.size = q) := ⟨_, rfl⟩
 have HN := Lib.hid hn
 clear hn
 go_enter Try.func41, Try.ntmps41
 go_upto_region 0 with (fail)
 refine lbeg (opsOf Try.f41 0) ?_
 refine lnow 0 (.slice none 0 0) (some 2) ?_
 refine ldn 1 ?_
 generalize hact : Act.put _ (some 2) _ = act
 simp only [Act.put, sA, sC, sZ] at hact
 subst hact
 go_upto_region 1 with (fail)
 refine lbeg (opsOf Try.f41 1) ?_
 refine lnow 0 (strT s) (some 3) ?_
 refine lnow 1 (.int .i64 (s.length : Int)) (some 4) ?_
 refine lcal 2 32 #[.int .i64 (s.length : Int)] (some 5) _ (rnum_walk s.length w (by have := HN.out; omega)) ?_
 rintro e w1 ⟨v1, rfl, r1, b1⟩
 refine ⟨_, rfl, ?_⟩
 have NL := numB_len s.length (by have := HN.out; omega)
 refine lnow 3 (strT s) (some 6) ?_
 obtain ⟨u, w2, hc, hu, hn2, hb2⟩ := run_text_bytes s w1
 refine lin_value 4 u (some 7) w2 (by kernel_rfl) (by kernel_rfl) (exec_of (convert 9 30 (strT s)) _ (by kernel_rfl) hc) ?_
 refine lin_app 5 (some 8) v1 u (numB s.length) (strB s) w.heap.size (r1.below hb2) hu hn2 (by rw [strB_len]; have := HN.out; omega) (Nat.le_trans b1.size hb2.size) (by kernel_rfl) (by kernel_rfl) (by kernel_rfl) ?_
 intro v3 w3 r3 s3
 refine lnow 6 (v3) (some 2) ?_
 refine ldn 7 ?_
 generalize hact : Act.put _ (some 2) _ = act
 simp only [Act.put, sA, sC, sZ] at hact
 subst hact
 have R3 := Lib.hid r3
 have B3 : Hid (Below w.heap.size w w3) := b1.trans ((hb2.mono b1.size).trans (s3.below_of (fun k hk => (ownL_row r1 k hk).1) (Nat.le_trans b1.size hb2.size)))
 clear r1 b1 hc hu hn2 hb2 r3 s3 NL
 go_wp2
 go_ret
 exact ⟨v3, rfl, R3.out, B3.out⟩
end Go.Proofs.Yteohjbggicchgaa
