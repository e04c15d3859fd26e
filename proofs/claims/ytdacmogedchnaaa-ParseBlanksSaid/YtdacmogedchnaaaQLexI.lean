/- Package lex's Join. -/
import Derived.Test.YtdacmogedchnaaaQGenT
import Derived.Test.YtdacmogedchnaaaQLexH
namespace Go.Proofs.Ytdacmogedchnaaa
open Go Go.RowKit
set_option maxRecDepth 100000
/-- The value is a slice that reads as these tokens. -/
def SlX (w : World) (v : Value) (ts : List Tk) : Prop := ∃ a c, v = .slice a ts.length c ∧ ts.length ≤ c ∧ (0 < ts.length → ∃ g u, a = some ⟨g, u, none⟩ ∧ g < w.heap.size ∧ w.rangeAt g u (tksC ts))
theorem OwnX.read {ty : TypeId} {q : Nat} {w : World} {v : Value} {ts : List Tk} (h : OwnX ty q w v ts) : SlX w v ts := by
 rcases h.2 with ⟨rfl, h2⟩ | ⟨g, cap, cur, rfl, h1, h2, h3, _⟩
 ·exact ⟨none, 0, by rw [h2], by omega, fun hp => by omega⟩
 ·refine ⟨_, _, rfl, h3, fun _ => ⟨g, 0, rfl, (Array.getElem?_eq_some_iff.1 h2).1, fun j u hu => ?_⟩⟩
  have := World.ownsRow.cells (v := .slice (some ⟨g, 0, none⟩) ts.length cap) (g := g) h rfl j u hu
  rwa [Addr.add_mid] at this
theorem SlX.below {w w' : World} {v : Value} {ts : List Tk} (h : SlX w v ts) (hb : Below w.heap.size w w') : SlX w' v ts := by
 obtain ⟨a, c, h1, h2, h3⟩ := h
 refine ⟨a, c, h1, h2, fun hp => ?_⟩
 obtain ⟨g, u, e, hg, hr⟩ := h3 hp
 exact ⟨g, u, e, Nat.lt_of_lt_of_le hg hb.size, fun j x hx => by rw [hb.cell (p := ⟨g, u + j, none⟩) hg]; exact hr j x hx⟩
theorem SlX.cell {w : World} {v : Value} {ts : List Tk} (h : SlX w v ts) {i : Nat} {x : Tk} (hi : ts[i]? = some x) :
    ∃ g u c, v = .slice (some ⟨g, u, none⟩) ts.length c ∧ g < w.heap.size ∧ ts.length ≤ c ∧ w.rangeAt g (u + i * 3) (tkC x) := by
  have hl : i < ts.length := (List.getElem?_eq_some_iff.1 hi).1
  obtain ⟨a, c, h1, h2, h3⟩ := h
  obtain ⟨g, u, rfl, hg, hr⟩ := h3 (by omega)
  refine ⟨g, u, c, h1, hg, h2, fun j y hy => ?_⟩
  have hj : j < 3 := (List.getElem?_eq_some_iff.1 hy).1
  have := hr (i * 3 + j) y (by rw [Nat.mul_comm i 3, tksC_at ts i j x hi hj]; exact hy)
  rwa [← Nat.add_assoc] at this
theorem joinB_snoc : ∀ (xs : List (List UInt8)) (y : List UInt8), xs ≠ [] → joinB (xs ++ [y]) = joinB xs ++ 32 :: y
 | [], _, h => absurd rfl h
 | [x], y, _ => rfl
 | x :: z :: r, y, _ => by
  have := joinB_snoc (z :: r) y (by simp)
  show x ++ 32 :: joinB (z :: (r ++ [y])) = (x ++ 32 :: joinB (z :: r)) ++ 32 :: y
  rw [show z :: (r ++ [y]) = (z :: r) ++ [y] from rfl, this]
  simp
def textsOf (ts : List Tk) : List (List UInt8) := ts.map (·.t)
def sumT (ts : List Tk) : Nat := (ts.map (·.t.length)).sum + ts.length
theorem join_take {ts : List Tk} {k : Nat} {x : Tk} (h : ts[k]? = some x) : joinB (textsOf (ts.take (k + 1))) = (if k = 0 then [] else joinB (textsOf (ts.take k)) ++ [32]) ++ x.t := by
 rw [take_snoc h]
 unfold textsOf
 rw [List.map_append]
 by_cases hk : k = 0
 ·subst hk; rfl
 ·rw [if_neg hk, List.map_cons, List.map_nil, joinB_snoc _ _ (by
   have hl : k < ts.length := (List.getElem?_eq_some_iff.1 h).1
   intro e
   have := congrArg List.length e
   rw [List.length_map, List.length_take, List.length_nil] at this
   omega)]
  simp
theorem sumT_take (ts : List Tk) (k : Nat) : sumT (ts.take k) ≤ sumT ts := by
 unfold sumT
 have h1 : ((ts.take k).map (·.t.length)).sum ≤ (ts.map (·.t.length)).sum := by
  induction ts generalizing k with
  | nil => simp
  | cons x ts ih =>
   cases k with
   | zero => simp
   | succ k =>
    have := ih k
    simp only [List.take_succ_cons, List.map_cons, List.sum_cons]
    omega
 have h2 : (ts.take k).length ≤ ts.length := by rw [List.length_take]; omega
 omega
theorem joinT_len (ts : List Tk) : (joinB (textsOf ts)).length ≤ sumT ts := by
 have := joinB_len (textsOf ts)
 unfold textsOf at *
 unfold sumT
 rw [List.length_map, List.map_map] at this
 exact this
theorem byteCells_app (a b : List UInt8) : Lib.byteCells (a ++ b) = Lib.byteCells a ++ Lib.byteCells b := by unfold Lib.byteCells; rw [List.map_append]
theorem sizeTok : (Try.prog.info? 51).map (·.size) = some 3 := by kernel_rfl
theorem elemToks : Try.prog.underlying 23 = some (.slice (Try.prog.elem 23)) := by kernel_rfl
theorem run_at_tok (g u n c k : Nat) (hk : k < n) (w : World) : (Instr.indexAt 23 (.slice (some ⟨g, u, none⟩) n c) (.int .i64 (k : Int))).run Try.prog w = .ok (.pointer (some ⟨g, u + k * 3, none⟩)) w := by
 rw [run_indexAt_slice w 23 _ _ _ _ _ elemToks]
 have hz : (sizeOf (Try.prog.elem 23)).run Try.prog w = .ok 3 w := by kernel_rfl
 rw [if_pos (by omega), hz, Result.andThen_ok, Addr.add_mid, Int.toNat_natCast]
theorem tkC_one (x : Tk) : ∀ u ∈ tkC x, u.oneCell' = true := by
 intro u hu
 simp only [tkC, List.mem_cons, List.not_mem_nil, or_false] at hu
 rcases hu with rfl | rfl | rfl <;> rfl
def zTok : List Value := [.int .i64 0, .string ⟨#[]⟩, .int .i64 0]
theorem new_bd {w w1 : World} {q : Nat} (hb : Blk w1 q 64 [.pointer none, .slice none 0 0]) : Bd q q [] w1 :=
 .inl ⟨Nat.le_refl _, .slice none 0 0, hb, World.ownsRowF_nil w1 q 5 1, by simp [Value.ownBlock]⟩
theorem keeps_tok {B b q : Nat} {bs : List Value} {w w' : World} {cs : List Value} (h : BdPost B b bs w w') (hb : Blk w q 51 cs) (hq : q ≠ b) : Blk w' q 51 cs :=
 h.2.2 q _ hb (fun e => hq (Option.some.inj e)) (fun c fz e => by
  have := (Obj.cells.inj e).2.1
  exact absurd this (by decide))
set_option maxHeartbeats 4000000 in
theorem xjoin_walk (v : Value) (ts : List Tk) (w : World) (h : SlX w v ts) (hs : sumT ts ≤ 500000) : Calls Try.prog 9 #[v] w fun e w' => e = .returned (sT (joinB (textsOf ts))) ∧ Below w.heap.size w w' := by
 obtain ⟨q, hq⟩ : ∃ q, Hid (w.heap.size = q) := ⟨_, rfl⟩
 obtain ⟨N, hN⟩ : ∃ N, Hid (ts.length = N) := ⟨_, rfl⟩
 have SM := Lib.hid hs
 have RD := Lib.hid h
 obtain ⟨va, vc, hv, -⟩ := id h
 subst hv
 have NB : Hid (N ≤ 500000) := by have h2 := SM.out; unfold sumT at h2; rw [Hid, ← hN.out]; omega
 clear h hs
 rw [hq.out]
 rw [hN.out] at RD ⊢
 go_enter Try.func9, Try.ntmps9
 go_upto_region 0 with (fail)
 refine lbeg (opsOf Try.f9 0) ?_
 refine lnow 0 (sT []) (some 2) ?_
 refine ldn 1 ?_
 generalize hact : Act.put _ (some 2) _ = act
 simp only [Act.put, sA, sC, sZ] at hact
 subst hact
 go_upto_region 1 with (fail)
 refine lbeg (opsOf Try.f9 1) ?_
 refine lall 0 64 [.pointer none, .slice none 0 0] q (some 3) hq ?_
 intro w1 b1 be1 hs1
 refine ldn 1 ?_
 generalize hact : Act.put _ (some 3) _ = act
 simp only [Act.put, sA, sC, sZ] at hact
 subst hact
 have BD0 : Hid (Bd q q (Lib.byteCells (joinB (textsOf (ts.take 0)))) w1) := new_bd (w := w) b1
 have BE0 := Lib.hid be1
 have SZ0 : Hid (q < w1.heap.size) := b1.lt
 clear b1 be1 hs1
 go_upto_region 2 with (fail)
 refine lbeg (opsOf Try.f9 2) ?_
 refine lnow 0 (.slice va N vc) (some 6) ?_
 refine lnow 1 (.int .i64 (N : Int)) (some 7) ?_
 refine lnow 2 (.int .i64 0) (some 8) ?_
 refine ldn 3 ?_
 generalize hact : Act.put _ (some 8) _ = act
 simp only [Act.put, sA, sC, sZ] at hact
 subst hact
 go_wp2
 go_loopw [8] (fun kv wr => ∃ k : Nat, k ≤ N ∧ kv = .int .i64 (k : Int) ∧ Hid (Bd q q (Lib.byteCells (joinB (textsOf (ts.take k)))) wr) ∧ Hid (Below q w wr) ∧ Hid (q < wr.heap.size)) (fun kv _ => N - (intOf kv).toNat)
 case atStart => exact ⟨0, Nat.zero_le _, rfl, BD0, BE0, SZ0⟩
 case round =>
  obtain ⟨k, hk, rfl, BD, BE, SZ⟩ := hrel
  clear BD0 BE0 SZ0
  have nb := NB.out
  by_cases hlt : (k : Int) < (N : Int)
  rotate_left
  ·skip
   obtain rfl : k = N := by omega
   have ET : Hid (ts.take k = ts) := List.take_of_length_le (by rw [hN.out]; exact Nat.le_refl _)
   rw [ET.out] at BD
   have ST := Try.Builder_String_any_k q q (joinB (textsOf ts)) wr BD.out (Nat.le_of_lt SZ.out)
   go_upto_region 3 with (fail)
   refine lbeg (opsOf Try.f9 3) ?_
   refine lnow 0 (.bool (decide ((k : Int) < (k : Int)))) (some 9) ?_
   rw [decide_eq_false hlt]
   refine ldn 1 ?_
   generalize hact : Act.put _ (some 9) _ = act
   simp only [Act.put, sA, sC, sZ] at hact
   subst hact
   go_upto_region 9 with (fail)
   refine lbeg (opsOf Try.f9 9) ?_
   refine lcal 0 26 #[.pointer (some ⟨q, 0, none⟩)] (some 20) _ (ST) ?_
   rintro e w5 ⟨rfl, -, hb5, -⟩
   refine ⟨_, rfl, ?_⟩
   have FIN : Hid (Below q w w5) := BE.out.trans hb5
   clear hb5
   refine lnow 1 (sT (joinB (textsOf ts))) (some 2) ?_
   refine ldn 2 ?_
   generalize hact : Act.put _ (some 2) _ = act
   simp only [Act.put, sA, sC, sZ] at hact
   subst hact
   go_wp2
   go_ret
   exact ⟨rfl, FIN.out⟩
  obtain ⟨x, hx⟩ : ∃ x, Hid (ts[k]? = some x) := ⟨_, List.getElem?_eq_getElem (by rw [hN.out]; omega)⟩
  have RDr : Hid (SlX wr (.slice va N vc) ts) := by have h := RD.out; have hb := BE.out; rw [← hq.out] at hb; exact h.below hb
  obtain ⟨g, u, vc2, hv2, hg, -, hr⟩ := RDr.out.cell hx.out
  rw [hN.out] at hv2
  obtain ⟨rfl, -, rfl⟩ := Value.slice.inj hv2
  have HR := Lib.hid hr
  clear hv2 hg hr RDr
  obtain ⟨r, hr0⟩ : ∃ r, Hid (wr.heap.size = r) := ⟨_, rfl⟩
  have JT := Lib.hid (join_take hx.out)
  have JL := Lib.hid (Nat.le_trans (joinT_len (ts.take (k + 1))) (Nat.le_trans (sumT_take ts (k + 1)) SM.out))
  have JL0 := Lib.hid (Nat.le_trans (joinT_len (ts.take k)) (Nat.le_trans (sumT_take ts k) SM.out))
  go_upto_region 3 with (fail)
  refine lbeg (opsOf Try.f9 3) ?_
  refine lnow 0 (.bool (decide ((k : Int) < (N : Int)))) (some 9) ?_
  rw [decide_eq_true hlt]
  refine ldn 1 ?_
  generalize hact : Act.put _ (some 9) _ = act
  simp only [Act.put, sA, sC, sZ] at hact
  subst hact
  go_upto_region 4 with (fail)
  refine lbeg (opsOf Try.f9 4) ?_
  refine lnow 0 (.int .i64 (k : Int)) (some 10) ?_
  refine lix 1 (.pointer (some ⟨g, u + k * 3, none⟩)) (some 11) 23 6 8 (run_at_tok g u N vc k (by omega) _) ?_
  refine lrl 2 (tkC x) (some 12) 51 11 g (u + k * 3) HR.out Try.underlying51 sizeTok ?_
  refine lall 3 51 zTok r (some 5) hr0 ?_
  intro w2 b2 be2 hs2
  refine lnow 4 (.int .i64 (k : Int)) (some 4) ?_
  refine lput 5 51 (.tmp 5) (.tmp 12) r _ zTok (tkC x) b2 rfl sizeTok (by simpa using tkC_one x) ?_
  intro w3 b3 u3
  refine ldn 6 ?_
  generalize hact : Act.put _ none _ = act
  simp only [Act.put, sA, sC, sZ] at hact
  subst hact
  have B13 : Below wr.heap.size wr w3 := by rw [hr0.out]; exact u3.below be2 (Nat.le_refl _) (by have := hs2.out; omega)
  have BD3 : Hid (Bd q q (Lib.byteCells (joinB (textsOf (ts.take k)))) w3) := Bd.below BD.out B13
  have BE3 : Hid (Below q w w3) := BE.out.trans (B13.mono (Nat.le_of_lt SZ.out))
  have BT := Lib.hid b3
  have SZ3 : Hid (q < w3.heap.size) := Nat.lt_of_lt_of_le SZ.out B13.size
  have RQ : Hid (r ≠ q) := by have := SZ.out; have := hr0.out; rw [Hid]; omega
  clear b2 be2 hs2 b3 u3 B13 BD BE SZ HR
  go_upto_region 5 with (fail)
  refine lbeg (opsOf Try.f9 5) ?_
  refine lnow 0 (.int .i64 (k : Int)) (some 13) ?_
  refine lnow 1 (.bool (decide ((k : Int) > 0))) (some 14) ?_
  by_cases hk0 : (k : Int) > 0
  rotate_left
  ·rw [decide_eq_false hk0]
   obtain rfl : k = 0 := by omega
   refine ldn 2 ?_
   generalize hact : Act.put _ (some 14) _ = act
   simp only [Act.put, sA, sC, sZ] at hact
   subst hact
   go_upto_region 7 with (fail)
   refine lbeg (opsOf Try.f9 7) ?_
   refine lnow 0 (.pointer (some ⟨r, 1, none⟩)) (some 16) ?_
   refine lcl 1 (sT x.t) (some 17) 9 16 (r) 1 (BT.out.cell rfl) Try.underlying9 ?_
   have WS := wstr_walk q q (Lib.byteCells (joinB (textsOf (ts.take 0)))) x.t w3 BD3.out (by rw [Lib.byteCells_length]; have h := JL.out; rw [JT.out] at h; rw [List.length_append] at h; rw [if_pos rfl] at h; have e : joinB (textsOf (ts.take 0)) = [] := rfl; rw [e]; have h2 : x.t.length ≤ 500000 := (by simpa using h); simp; omega) (Nat.le_of_lt SZ3.out)
   refine lcal 2 25 #[.pointer (some ⟨q, 0, none⟩), sT x.t] (some 18) _ (WS) ?_
   rintro e w5 ⟨v5, rfl, hd5, hb5, -⟩
   refine ⟨_, rfl, ?_⟩
   refine ldn 3 ?_
   generalize hact : Act.put _ (some 18) _ = act
   simp only [Act.put, sA, sC, sZ] at hact
   subst hact
   have BD5 : Hid (Bd q q (Lib.byteCells (joinB (textsOf (ts.take (0 + 1))))) w5) := by rw [Hid, JT.out]; rw [if_pos rfl, byteCells_app]; exact hd5
   have BE5 : Hid (Below q w w5) := BE3.out.trans hb5
   have SZ5 : Hid (q < w5.heap.size) := Nat.lt_of_lt_of_le SZ3.out hb5.size
   clear hd5 hb5 BD3 BE3 SZ3 BT WS JT JL JL0
   go_wp2
   go_roundw
   case rel => exact ⟨0 + 1, by omega, by go_num, BD5, BE5, SZ5⟩
   case measure => simp [intOf]; omega
  rw [decide_eq_true hk0]
  refine ldn 2 ?_
  generalize hact : Act.put _ (some 14) _ = act
  simp only [Act.put, sA, sC, sZ] at hact
  subst hact
  have WB := wbyte_walk q q (Lib.byteCells (joinB (textsOf (ts.take k)))) 32 w3 BD3.out (by rw [Lib.byteCells_length]; have := JL0.out; omega) (Nat.le_of_lt SZ3.out)
  go_upto_region 6 with (fail)
  refine lbeg (opsOf Try.f9 6) ?_
  refine lcal 0 24 #[.pointer (some ⟨q, 0, none⟩), .int .u8 32] (some 15) _ (WB) ?_
  rintro e w4 ⟨rfl, hp4⟩
  refine ⟨_, rfl, ?_⟩
  refine ldn 1 ?_
  generalize hact : Act.put _ (some 15) _ = act
  simp only [Act.put, sA, sC, sZ] at hact
  subst hact
  have BT4 : Hid (Blk w4 r 51 (tkC x)) := keeps_tok hp4 BT.out RQ.out
  have BD4 : Hid (Bd q q (Lib.byteCells (joinB (textsOf (ts.take k)) ++ [32])) w4) := by rw [Hid, byteCells_app]; exact hp4.1
  have BE4 : Hid (Below q w w4) := BE3.out.trans hp4.2.1
  have SZ4 : Hid (q < w4.heap.size) := Nat.lt_of_lt_of_le SZ3.out hp4.2.1.size
  clear BT BD3 BE3 SZ3 hp4 WB
  have BT := BT4
  have BD3 := BD4
  have BE3 := BE4
  have SZ3 := SZ4
  clear BT4 BD4 BE4 SZ4
  go_upto_region 7 with (fail)
  refine lbeg (opsOf Try.f9 7) ?_
  refine lnow 0 (.pointer (some ⟨r, 1, none⟩)) (some 16) ?_
  refine lcl 1 (sT x.t) (some 17) 9 16 (r) 1 (BT.out.cell rfl) Try.underlying9 ?_
  have WS := wstr_walk q q (Lib.byteCells (joinB (textsOf (ts.take k)) ++ [32])) x.t w4 BD3.out (by rw [Lib.byteCells_length]; have h := JL.out; rw [JT.out] at h; rw [List.length_append] at h; rw [if_neg (by omega)] at h; omega) (Nat.le_of_lt SZ3.out)
  refine lcal 2 25 #[.pointer (some ⟨q, 0, none⟩), sT x.t] (some 18) _ (WS) ?_
  rintro e w5 ⟨v5, rfl, hd5, hb5, -⟩
  refine ⟨_, rfl, ?_⟩
  refine ldn 3 ?_
  generalize hact : Act.put _ (some 18) _ = act
  simp only [Act.put, sA, sC, sZ] at hact
  subst hact
  have BD5 : Hid (Bd q q (Lib.byteCells (joinB (textsOf (ts.take (k + 1))))) w5) := by rw [Hid, JT.out]; rw [if_neg (by omega), byteCells_app]; exact hd5
  have BE5 : Hid (Below q w w5) := BE3.out.trans hb5
  have SZ5 : Hid (q < w5.heap.size) := Nat.lt_of_lt_of_le SZ3.out hb5.size
  clear hd5 hb5 BD3 BE3 SZ3 BT WS JT JL JL0
  go_wp2
  go_roundw
  case rel => exact ⟨k + 1, by omega, by go_num, BD5, BE5, SZ5⟩
  case measure => simp [intOf]; omega
end Go.Proofs.Ytdacmogedchnaaa
