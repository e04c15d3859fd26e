/- Package seal: bytesOf; steps for make and append of bytes. -/
import Derived.Test.YtngpmilojfbpmaaDoorSealA
import Derived.Test.YtngpmilojfbpmaaDoorShaSum
namespace Go.Proofs.YtngpmilojfbpmaaDoor
open Go Go.RowKit
set_option maxRecDepth 100000

section
variable {ops : Array Oper} {Q : Exit → Act → World → Prop} {a : Act} {w : World}
theorem madeBytes (c : Nat) : (madeCells (Value.int .u8 0).cells (c * 1)).toList = ints .u8 (zeros c) := by
  rw [Nat.mul_one, show (Value.int .u8 0).cells = #[.int .u8 0] from rfl, toList_madeCells_one]
  simp [ints, zeros]
/-- make([]byte, l, c). -/
theorem lin_makeb (i : Nat) (l c q : Nat) (kl kc : IntKind) (d : Option Tmp) (hi : (ops[i]?.isSome && Region.wanted (opAt ops i) (yielded ops a.tmps)) = true) (hd : (opAt ops i).dst = d)
    (he : execOp a.eval (opAt ops i) = (Instr.makeSlice 22 (.int kl (l : Int)) (.int kc (c : Int)) >>= fun x => pure (.value x))) (hlc : l ≤ c) (hc : c ≤ 1000000000000) (hq : Hid (w.heap.size = q))
    (h : ∀ w', Blk w' q 5 (ints .u8 (zeros c)) → Below q w w' → Hid (w'.heap.size = q + 1) → wpFrom Tryd.prog ops Q (i + 1) (a.put d (.slice (some ⟨q, 0, none⟩) l c)) w') : wpFrom Tryd.prog ops Q i a w := by
  obtain ⟨i0, hi0, hz0, hz1, hz2⟩ := info_parts infoByte5
  obtain rfl := hq.out
  have hr := run_make w 22 5 i0 (.int .u8 0) Tryd.underlying22 hi0 hz0 kl kc (l : Int) (c : Int) (by omega) (by omega) (by rw [hz2]; omega) (by omega)
  rw [Int.toNat_natCast, Int.toNat_natCast, hz1] at hr
  refine lin_value i _ d _ hi hd (exec_of _ _ he hr) (h _ (Blk.new2 _ _ _ _ _ rfl ?_) ((Below.refl _ _).alloc (Nat.le_refl _) _) (by unfold Hid; simp))
  rw [← madeBytes]
/-- make([]api.Block, n). -/
theorem lin_makeblk (i : Nat) (n q : Nat) (kl kc : IntKind) (d : Option Tmp) (hi : (ops[i]?.isSome && Region.wanted (opAt ops i) (yielded ops a.tmps)) = true) (hd : (opAt ops i).dst = d)
    (he : execOp a.eval (opAt ops i) = (Instr.makeSlice 67 (.int kl (n : Int)) (.int kc (n : Int)) >>= fun x => pure (.value x))) (hn : n ≤ 1000000) (hq : Hid (w.heap.size = q))
    (h : ∀ w', Blk w' q 91 (ints .u8 (zeros (64 * n))) → Below q w w' → Hid (w'.heap.size = q + 1) → wpFrom Tryd.prog ops Q (i + 1) (a.put d (.slice (some ⟨q, 0, none⟩) n n)) w') : wpFrom Tryd.prog ops Q i a w := by
  obtain ⟨i0, hi0, hz0, hz1, hz2⟩ := info_parts infoBlock3
  obtain rfl := hq.out
  have hr := run_make w 67 91 i0 (.agg (ints .u8 zB).toArray) elemBlocks hi0 hz0 kl kc (n : Int) (n : Int) (by omega) (by omega) (by rw [hz2]; omega) (by omega)
  rw [Int.toNat_natCast, hz1] at hr
  refine lin_value i _ d _ hi hd (exec_of _ _ he hr) (h _ (Blk.new2 _ _ _ _ _ rfl ?_) ((Below.refl _ _).alloc (Nat.le_refl _) _) (by unfold Hid; simp))
  rw [← made_zeros]
  rfl
/-- append(dst, src...). -/
theorem lin_appendb (i : Nat) (d : Option Tmp) (hi : (ops[i]?.isSome) = true) (hgd : (opAt ops i).guard = none) (hd : (opAt ops i).dst = d) (s x : Operand)
    (ho : (opAt ops i).op = .call { callee := .builtin .append, args := #[s, x], argTypes := #[22, 22] }) (base : Nat) (v : Value) (xs : List Int) (hs : a.eval s = v) (hown : w.ownsRow base 5 1 v xs.length (ints .u8 xs))
    (u : Value) (zs : List Int) (hx : a.eval x = u) (hu : BytesIn w u zs) (hnil : NilOk u) (hb : xs.length + zs.length ≤ 70368744177664) (hbase : base ≤ w.heap.size)
    (h : ∀ v' w', w'.ownsRow base 5 1 v' (xs ++ zs).length (ints .u8 (xs ++ zs)) → w.grownBy w' v.ownBlock → wpFrom Tryd.prog ops Q (i + 1) (a.put d v') w') : wpFrom Tryd.prog ops Q i a w := by
  subst hd
  refine ⟨?_⟩
  rw [drop_opAt hi]
  exact wpList_append_bytes hgd s x ho base v xs hs hown u zs hx hu hnil hb hbase (fun v' w' h1 h2 => (h v' w' h1 h2).out)
theorem owns_blk {g cap base : Nat} {xs rs : List Int} (h : Blk w g 5 (ints .u8 (xs ++ rs))) (hc : (xs ++ rs).length = cap) (hb : base ≤ g) (hm : cap ≤ 1000000000000) : w.ownsRow base 5 1 (.slice (some ⟨g, 0, none⟩) xs.length cap) xs.length (ints .u8 xs) := by
  refine ⟨by rw [ints_length, Nat.mul_one], .inr ⟨g, cap, (ints .u8 (xs ++ rs)).toArray, rfl, hb, h, ?_, ?_, ?_, ?_⟩⟩
  · rw [← hc, List.length_append]; omega
  · unfold maxLen; omega
  · rw [List.size_toArray, ints_length, hc, Nat.mul_one]
  · rw [Nat.mul_one]
    show (ints .u8 (xs ++ rs)).take xs.length = _
    rw [ints_take, List.take_left]
end
theorem put_zeros (n c : Nat) : splice (ints .u8 (zeros c)) 0 (ints .u8 (beB 2 n)) = ints .u8 (beB 2 n ++ zeros (c - 2)) := by
  rw [splice_ints, List.take_zero, List.nil_append, Nat.zero_add, beB_length, zeros_drop]
def z32 : List Int := List.replicate 32 0
theorem z32_length : z32.length = 32 := rfl
theorem zeroDig : (Tryd.prog.info? 35).map (·.zero) = some (some (.agg (ints .u8 z32).toArray)) := by kernel_rfl
theorem sizeDig : (Tryd.prog.info? 35).map (·.size) = some 32 := by kernel_rfl
set_option maxHeartbeats 2000000 in
theorem bytesof_walk (u : Value) (rec : List Int) (w : World) (hu : BytesIn w u rec) (hnil : NilOk u) (hl : rec.length ≤ 2000) (hK : KW w) :
    Calls Tryd.prog 88 #[u] w (CopyPost (recB rec) w) := by
  obtain ⟨ua, uc, rfl, -⟩ := id hu
  have HU := Lib.hid hu
  have HNI := Lib.hid hnil
  have HK := Lib.hid hK
  obtain ⟨n, hn⟩ : ∃ n, Hid (rec.length = n) := ⟨_, rfl⟩
  rw [hn.out] at HU HNI hl ⊢
  obtain ⟨B, hB⟩ : ∃ B, Hid (w.heap.size = B) := ⟨_, rfl⟩
  have HKB : Hid (4 < B) := by unfold Hid; rw [← hB.out]; exact hK.lt
  unfold CopyPost
  rw [hB.out]
  clear hu hnil hK
  go_enter Tryd.func88, Tryd.ntmps88
  go_upto_region 0 with (fail)
  refine lin_begin (opsOf Tryd.f88 0) (by kernel_rfl) ?_
  refine lin_now 0 (.slice none 0 0) (some 2) (by kernel_rfl) (by kernel_rfl) (by kernel_rfl) ?_
  refine lin_done 1 (by kernel_rfl) ?_
  generalize hact : Act.put _ (some 2) _ = act
  simp only [Act.put, List.setIfInBounds_toArray, List.set_cons_succ, List.set_cons_zero] at hact
  subst hact
  go_upto_region 1 with (fail)
  refine lin_begin (opsOf Tryd.f88 1) (by kernel_rfl) ?_
  refine lin_now 0 (.slice ua n uc) (some 5) (by kernel_rfl) (by kernel_rfl) (by kernel_rfl) ?_
  refine lin_now 1 (.int .i64 (n : Int)) (some 6) (by kernel_rfl) (by kernel_rfl) (by kernel_rfl) ?_
  refine lin_now 2 (.int .i64 (IntKind.i64.wrap (2 + (n : Int)))) (some 7) (by kernel_rfl) (by kernel_rfl) (by kernel_rfl) ?_
  rw [show IntKind.i64.wrap (2 + (n : Int)) = ((n + 2 : Nat) : Int) from (IntWalk.i64_in _ (by omega)).trans (by omega)]
  refine lin_now 3 (.int .i64 (IntKind.i64.wrap (((n + 2 : Nat) : Int) + 32))) (some 8) (by kernel_rfl) (by kernel_rfl) (by kernel_rfl) ?_
  rw [show IntKind.i64.wrap (((n + 2 : Nat) : Int) + 32) = ((n + 34 : Nat) : Int) from (IntWalk.i64_in _ (by omega)).trans (by omega)]
  refine lin_makeb 4 2 (n + 34) B .i64 .i64 (some 9) (by kernel_rfl) (by kernel_rfl) (by kernel_rfl) (by omega) (by omega) hB ?_
  intro w1 b1 be1 hs1
  refine lin_now 5 (.slice (some ⟨B, 0, none⟩) 2 (n + 34)) (some 3) (by kernel_rfl) (by kernel_rfl) (by kernel_rfl) ?_
  refine lin_done 6 (by kernel_rfl) ?_
  have X1 := Lib.hid b1
  have BE1 := Lib.hid be1
  clear b1 be1
  generalize hact : Act.put _ (some 3) _ = act
  simp only [Act.put, List.setIfInBounds_toArray, List.set_cons_succ, List.set_cons_zero] at hact
  subst hact
  go_upto_region 2 with (fail)
  refine lin_begin (opsOf Tryd.f88 2) (by kernel_rfl) ?_
  refine lin_now 0 (.slice (some ⟨B, 0, none⟩) 2 (n + 34)) (some 10) (by kernel_rfl) (by kernel_rfl) (by kernel_rfl) ?_
  refine lin_now 1 (.slice ua n uc) (some 11) (by kernel_rfl) (by kernel_rfl) (by kernel_rfl) ?_
  refine lin_now 2 (.int .i64 (n : Int)) (some 12) (by kernel_rfl) (by kernel_rfl) (by kernel_rfl) ?_
  refine lin_call 3 101 #[.slice (some ⟨B, 0, none⟩) 2 (n + 34), .int .i64 (n : Int)] (some 13) _ (by kernel_rfl) (by kernel_rfl) (by kernel_rfl) (put_walk B 0 2 (n + 34) n _ _ _ X1.out (by rw [ints_length, zeros_length]; omega) (by omega) (by omega)) ?_
  rintro e w2 ⟨rfl, b2, u2⟩
  rw [put_zeros n (n + 34)] at b2
  refine ⟨_, rfl, ?_⟩
  refine lin_done 4 (by kernel_rfl) ?_
  have O2 : Hid (w2.ownsRow B 5 1 (.slice (some ⟨B, 0, none⟩) (beB 2 n).length (n + 34)) (beB 2 n).length (ints .u8 (beB 2 n))) := owns_blk b2 (by rw [List.length_append, beB_length, zeros_length]; omega) (Nat.le_refl _) (by omega)
  have BE2 := Lib.hid (u2.below BE1.out (Nat.le_refl _) (by rw [hs1.out]; omega))
  have hs2 : Hid (B ≤ w2.heap.size) := by unfold Hid; have := u2.size; have := hs1.out; omega
  have U2 : Hid (BytesIn w2 (.slice ua n uc) rec) := HU.out.below BE2.out (Nat.le_of_eq hB.out)
  clear b2 u2 X1 BE1 hs1 HU
  generalize hact : Act.put _ (some 13) _ = act
  simp only [Act.put, List.setIfInBounds_toArray, List.set_cons_succ, List.set_cons_zero] at hact
  subst hact
  go_upto_region 3 with (fail)
  refine lin_begin (opsOf Tryd.f88 3) (by kernel_rfl) ?_
  refine lin_now 0 (.slice (some ⟨B, 0, none⟩) 2 (n + 34)) (some 14) (by kernel_rfl) (by kernel_rfl) (by kernel_rfl) ?_
  refine lin_now 1 (.slice ua n uc) (some 15) (by kernel_rfl) (by kernel_rfl) (by kernel_rfl) ?_
  refine lin_appendb 2 (some 16) (by kernel_rfl) (by kernel_rfl) (by kernel_rfl) (.tmp 14) (.tmp 15) (by kernel_rfl) B _ (beB 2 n) (by kernel_rfl) O2.out _ rec (by kernel_rfl) U2.out HNI.out (by rw [beB_length, hn.out]; omega) hs2.out ?_
  intro v3 w3 h3 g3
  refine lin_now 3 (v3) (some 3) (by kernel_rfl) (by kernel_rfl) (by kernel_rfl) ?_
  refine lin_done 4 (by kernel_rfl) ?_
  have O3 := Lib.hid h3
  have BE3 : Hid (Below B w w3) := BE2.out.grown g3 hs2.out (fun k hk => by have := owns_row O2.out k hk; omega)
  have hs3 : Hid (B ≤ w3.heap.size) := by unfold Hid; have := BE3.out.size; have := hB.out; omega
  have I3 := Lib.hid (owns_bytes h3)
  clear h3 g3 O2 BE2 U2 hs2
  generalize hact : Act.put _ (some 3) _ = act
  simp only [Act.put, List.setIfInBounds_toArray, List.set_cons_succ, List.set_cons_zero] at hact
  subst hact
  obtain ⟨hd3, hhd⟩ : ∃ l, Hid (beB 2 n ++ rec = l) := ⟨_, rfl⟩
  rw [hhd.out] at O3 I3
  have HL3 : Hid (hd3.length = n + 2) := by unfold Hid; rw [← hhd.out, List.length_append, beB_length, hn.out]; omega
  obtain ⟨sm, hsm⟩ : ∃ s, Hid (Sha.sum hd3 = s) := ⟨_, rfl⟩
  have HSM : Hid (sm.length = 32) := by unfold Hid; rw [← hsm.out]; exact Sha.sum_length _
  have ID : Hid ((Tryd.prog.info? 35).map (·.size) = some (ints .u8 sm).length) := by unfold Hid; rw [ints_length, HSM.out]; exact sizeDig
  have HC := Lib.hid (sum_walk v3 hd3 w3 I3.out (by rw [HL3.out]; omega) (HK.out.below BE3.out HKB.out))
  rw [hsm.out] at HC
  go_upto_region 4 with (fail)
  refine lin_begin (opsOf Tryd.f88 4) (by kernel_rfl) ?_
  refine lin_now 0 (v3) (some 17) (by kernel_rfl) (by kernel_rfl) (by kernel_rfl) ?_
  refine lin_call 1 102 #[v3] (some 18) _ (by kernel_rfl) (by kernel_rfl) (by kernel_rfl) (HC.out) ?_
  rintro e w4 ⟨rfl, hb4⟩
  refine ⟨_, rfl, ?_⟩
  obtain ⟨q, hq⟩ : ∃ q, Hid (w4.heap.size = q) := ⟨_, rfl⟩
  refine lin_alloc 2 35 (ints .u8 z32) (q) (some 4) (by kernel_rfl) (by kernel_rfl) (by kernel_rfl) zeroDig hq ?_
  intro w5 b5 be5 hs5
  refine lin_put 3 35 (.tmp 4) (.tmp 18) (q) _ (ints .u8 z32) (ints .u8 sm) (by kernel_rfl) (by kernel_rfl) (by kernel_rfl) (by kernel_rfl) (by kernel_rfl) b5 (by rw [ints_length, ints_length, HSM.out, z32_length]) ID.out (ints_oneCell _ _) ?_
  intro w6 b6 u6
  refine lin_done 4 (by kernel_rfl) ?_
  have q3 : Hid (w3.heap.size ≤ q) := by unfold Hid; have := hb4.size; have := hq.out; omega
  have O6 : Hid (w6.ownsRow B 5 1 v3 hd3.length (ints .u8 hd3)) := by
    have h5 := own_step (F := []) (F' := []) O3.out (Step.of_below (hb4.trans (be5.mono q3.out)) (Nat.le_refl _)) (fun g _ => by simp)
    exact own_upd h5 u6 (fun g hg => by have := owns_lt O3.out g hg; have := q3.out; omega)
  have D6 : Hid (BytesIn w6 (.slice (some ⟨q, 0, none⟩) 32 32) sm) := ⟨_, 32, by rw [HSM.out], by rw [HSM.out]; omega, fun _ => ⟨q, 0, rfl, b6.lt, b6.whole⟩⟩
  have BE6 : Hid (Below B w w6) := u6.below ((BE3.out.trans (hb4.mono hs3.out)).trans (be5.mono (Nat.le_trans hs3.out q3.out))) (Nat.le_trans hs3.out q3.out) (by have := hs5.out; have := q3.out; have := hs3.out; omega)
  have hs6 : Hid (B ≤ w6.heap.size) := by unfold Hid; have := BE6.out.size; have := hB.out; omega
  clear O3 BE3 hs3 I3 HC hb4 hq b5 be5 hs5 b6 u6 q3
  generalize hact : Act.put _ none _ = act
  simp only [Act.put, List.setIfInBounds_toArray, List.set_cons_succ, List.set_cons_zero] at hact
  subst hact
  go_upto_region 5 with (fail)
  refine lin_begin (opsOf Tryd.f88 5) (by kernel_rfl) ?_
  refine lin_now 0 (v3) (some 19) (by kernel_rfl) (by kernel_rfl) (by kernel_rfl) ?_
  refine lin_now 1 (.slice (some ⟨q, 0, none⟩) 32 32) (some 20) (by kernel_rfl) (by kernel_rfl) (by kernel_rfl) ?_
  refine lin_appendb 2 (some 21) (by kernel_rfl) (by kernel_rfl) (by kernel_rfl) (.tmp 19) (.tmp 20) (by kernel_rfl) B v3 hd3 (by kernel_rfl) O6.out _ sm (by kernel_rfl) D6.out trivial (by rw [HL3.out, HSM.out]; omega) hs6.out ?_
  intro v7 w7 h7 g7
  refine lin_now 3 (v7) (some 2) (by kernel_rfl) (by kernel_rfl) (by kernel_rfl) ?_
  refine lin_done 4 (by kernel_rfl) ?_
  have O7 : Hid (w7.ownsRow B 5 1 v7 (recB rec).length (ints .u8 (recB rec))) := by
    have e : recB rec = hd3 ++ sm := by unfold recB; rw [hn.out, hhd.out, hsm.out]
    unfold Hid
    rw [e]
    exact h7
  have BE7 : Hid (Below B w w7) := BE6.out.grown g7 hs6.out (fun k hk => by have := owns_row O6.out k hk; omega)
  clear h7 g7 O6 D6 BE6 hs6
  generalize hact : Act.put _ (some 2) _ = act
  simp only [Act.put, List.setIfInBounds_toArray, List.set_cons_succ, List.set_cons_zero] at hact
  subst hact
  go_wp2
  go_ret
  exact ⟨v7, rfl, O7.out, BE7.out⟩
end Go.Proofs.YtngpmilojfbpmaaDoor
