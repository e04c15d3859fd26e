/- The parser in memory, and its small functions. -/
import Derived.Test.YtdacmogedchnaaaQGenT
import Derived.Test.YtdacmogedchnaaaQPrsB
import Derived.WalkLawsBesides
import Derived.Deep.CutRange
namespace Go.Proofs.Ytdacmogedchnaaa
open Go Go.RowKit
set_option maxRecDepth 100000
theorem Bel.newBlk {q B b : Nat} {w w' w2 : World} (h : Bel [q] B w w') (hu : Upd b w' w2) (hb : B ≤ b) (hs : B ≤ w'.heap.size) : Bel [q] B w w2 := h.upd hu (.inr hb) hs
theorem bel_keep {q B k : Nat} {t : TypeId} {cs : List Value} {w w' : World} (h : Bel [q] B w w') (hk : Blk w k t cs) (hq : k ≠ q) (hB : k < B) : Blk w' k t cs := h.blk hk hB (by simpa using hq)
/-- A slice of tokens in a block below E. -/
def TkLt (E : Nat) (w : World) (v : Value) (ts : List Tk) : Prop :=
 ∃ a cap, v = .slice a ts.length cap ∧ ts.length ≤ cap ∧ (0 < ts.length → ∃ g u, a = some ⟨g, u, none⟩ ∧ g < E ∧ g < w.heap.size ∧ w.rangeAt g u (tksC ts))
theorem TkLt.keep {E : Nat} {w w' : World} {v : Value} {ts : List Tk} (h : TkLt E w v ts) (hk : ∀ k, k < E → k < w.heap.size → w'.heap[k]? = w.heap[k]?) (hs : w.heap.size ≤ w'.heap.size) : TkLt E w' v ts := by
 obtain ⟨a, cap, h1, h2, h3⟩ := h
 refine ⟨a, cap, h1, h2, fun hp => ?_⟩
 obtain ⟨pb, po, h4, h5, h6, h7⟩ := h3 hp
 exact ⟨pb, po, h4, h5, Nat.lt_of_lt_of_le h6 hs, fun j u hu => by
  rw [World.cell?_of_block (w := w) (a := ⟨pb, po + j, none⟩) (hk pb h5 h6)]; exact h7 j u hu⟩
theorem tksC_cons (x : Tk) (ts : List Tk) : tksC (x :: ts) = tkC x ++ tksC ts := by unfold tksC; rw [List.flatMap_cons]
theorem tok_tail {E : Nat} {w : World} {v : Value} {x : Tk} {ts : List Tk} (h : TkLt E w v (x :: ts)) : ∃ a c k, (∀ w', (Instr.sliceAt 23 v (some (.int .i64 1)) none none).run Try.prog w' = .ok (.slice a c k) w') ∧ TkLt E w (.slice a c k) ts := by
 obtain ⟨a, cap, rfl, h2, h3⟩ := h
 have hz : ∀ w', (sizeOf (Try.prog.elem 23)).run Try.prog w' = .ok 3 w' := fun w' => by kernel_rfl
 have hl : (x :: ts).length = ts.length + 1 := rfl
 refine ⟨if cap = 1 then a else a.map (·.add (1 * 3)), (x :: ts).length - 1, cap - 1, fun w' => ?_, ?_⟩
 ·rw [run_sliceAt_slice w' 23 _ _ _ _ elemToks, run_slice_l w' 23 _ _ cap elemToks .i64 1 (by omega) (by omega), hz]
  simp only [Result.andThen_ok, sliced]
  rfl
 ·refine ⟨_, cap - 1, by rw [hl]; rfl, by omega, fun hp => ?_⟩
  obtain ⟨pb, po, e, hF, hb, hr⟩ := h3 (by omega)
  refine ⟨pb, po + 3, by rw [e, if_neg (by omega), Option.map_some, Addr.add_mid], hF, hb, fun j u hj => ?_⟩
  have := hr (3 + j) u (by rw [tksC_cons, List.getElem?_append_right (by show 3 ≤ _; omega)]; rw [show (tkC x).length = 3 from rfl, Nat.add_sub_cancel_left]; exact hj)
  rwa [← Nat.add_assoc] at this
/-- A parser at block q: the texts of the tokens that are left; K: where a token stands behind which so many are left. -/
def PAt (K : Nat → Nat) (q : Nat) (w : World) (l : List (List UInt8)) : Prop :=
 ∃ v ts, Blk w q 77 [v] ∧ TkLt q w v (ts ++ [⟨0, [], K 0⟩]) ∧ ts.map (·.t) = l ∧ (∀ (i : Nat) (x : Tk), ts[i]? = some x → x.p = K (ts.length - i)) ∧ (∀ s ∈ l, s ≠ [] ∧ s.length ≤ 100000) ∧ l.length ≤ 65540
theorem PAt.lt {K : Nat → Nat} {q : Nat} {w : World} {l : List (List UInt8)} (h : PAt K q w l) : q < w.heap.size := by
 obtain ⟨v, ts, h1, -⟩ := h
 exact h1.lt
theorem PAt.keep {K : Nat → Nat} {q : Nat} {w w' : World} {l : List (List UInt8)} (h : PAt K q w l) (hk : ∀ k, k ≤ q → w'.heap[k]? = w.heap[k]?) (hs : w.heap.size ≤ w'.heap.size) : PAt K q w' l := by
 obtain ⟨v, ts, h1, h2, h3⟩ := h
 refine ⟨v, ts, ?_, h2.keep (fun k hk1 _ => hk k (Nat.le_of_lt hk1)) hs, h3⟩
 unfold Blk at h1 ⊢
 rw [hk q (Nat.le_refl _)]
 exact h1
theorem PAt.below {K : Nat → Nat} {q B : Nat} {w w' : World} {l : List (List UInt8)} (h : PAt K q w l) (hb : Below B w w') (hB : q < B) : PAt K q w' l := h.keep (fun k hk => hb.block k (by omega)) hb.size
theorem PAt.upd {K : Nat → Nat} {q b : Nat} {w w' : World} {l : List (List UInt8)} (h : PAt K q w l) (hu : Upd b w w') (hb : q < b) : PAt K q w' l := h.keep (fun k hk => hu.block k (Nat.lt_of_le_of_lt hk h.lt) (by omega)) hu.size
theorem PAt.len {K : Nat → Nat} {q : Nat} {w : World} {l : List (List UInt8)} (h : PAt K q w l) : l.length ≤ 65540 := by
 obtain ⟨v, ts, h1, h2, h3, h4, h5, h6⟩ := h
 exact h6
theorem PAt.txt {K : Nat → Nat} {q : Nat} {w : World} {l : List (List UInt8)} (h : PAt K q w l) : ∀ s ∈ l, s ≠ [] ∧ s.length ≤ 100000 := by
 obtain ⟨v, ts, h1, h2, h3, h4, h5, h6⟩ := h
 exact h5
theorem PAt.nx_len {K : Nat → Nat} {q : Nat} {w : World} {l : List (List UInt8)} (h : PAt K q w l) : (nx l).length ≤ 100000 := by
 cases l with
 | nil => exact Nat.zero_le _
 | cons s l => exact (h.txt s (by simp)).2
theorem PAt.nx_ne {K : Nat → Nat} {q : Nat} {w : World} {l : List (List UInt8)} (h : PAt K q w l) (hn : nx l ≠ []) : ∃ s r, l = s :: r := by
 cases l with
 | nil => exact absurd rfl hn
 | cons s l => exact ⟨s, l, rfl⟩
theorem PAt.end_iff {K : Nat → Nat} {q : Nat} {w : World} {l : List (List UInt8)} (h : PAt K q w l) : nx l = [] ↔ l = [] := by
 cases l with
 | nil => simp [nx]
 | cons s l => simpa [nx] using (h.txt s (by simp)).1
theorem PAt.head {K : Nat → Nat} {q : Nat} {w : World} {l : List (List UInt8)} (h : PAt K q w l) : ∃ g u c, w.cell? ⟨q, 0, none⟩ = some (.slice (some ⟨g, u, none⟩) (l.length + 1) c) ∧ w.cell? ⟨g, u + 1, none⟩ = some (sT (nx l)) ∧ w.cell? ⟨g, u + 2, none⟩ = some (.int .i64 (K l.length : Int)) := by
 obtain ⟨v, ts, h1, ⟨a, cap, rfl, h2, h3⟩, rfl, h5, -⟩ := h
 obtain ⟨g, u, rfl, -, -, hr⟩ := h3 (by simp)
 refine ⟨g, u, cap, by rw [h1.cell (j := 0) rfl]; simp, ?_, ?_⟩
 ·cases ts with
  | nil => exact hr 1 _ rfl
  | cons x ts => exact hr 1 _ rfl
 ·cases ts with
  | nil => exact hr 2 _ rfl
  | cons x ts =>
   have := h5 0 x rfl
   rw [show (List.map (·.t) (x :: ts)).length = (x :: ts).length - 0 by simp, ← this]
   exact hr 2 _ rfl
theorem PAt.next {K : Nat → Nat} {q : Nat} {w : World} {s : List UInt8} {l : List (List UInt8)} (h : PAt K q w (s :: l)) : ∃ v a c k, Blk w q 77 [v] ∧ (∀ w', (Instr.sliceAt 23 v (some (.int .i64 1)) none none).run Try.prog w' = .ok (.slice a c k) w') ∧ ∀ w', Blk w' q 77 [.slice a c k] → Upd q w w' → PAt K q w' l := by
 obtain ⟨v, ts, h1, h2, h3, h5, h6, h7⟩ := h
 cases ts with
 | nil => cases h3
 | cons x ts =>
  obtain ⟨a, c, k, h8, h9⟩ := tok_tail (x := x) (ts := ts ++ [⟨0, [], K 0⟩]) h2
  refine ⟨v, a, c, k, h1, h8, fun w' hb hu => ⟨_, ts, hb, h9.keep (fun k hk hk2 => hu.block k hk2 (by omega)) hu.size, (List.cons.inj h3).2, fun i y hi => ?_, fun s hs => h6 s (by simp [hs]), by simp at h7; omega⟩⟩
  have := h5 (i + 1) y (by simpa using hi)
  rw [this]
  congr 1
  simp
/-- Ended by a panic that tells a place and an error. -/
def fellP (p c : Int) : Ending := .panicked [{ v := .iface 74 (.agg #[.int .i64 p, .int .i64 c]), recovered := false }]
/-- What a function of a parser's does: it fell, or it answers what the tokens tell. -/
def PP {β : Type} (K : Nat → Nat) (q : Nat) (o : PR β) (R : β → Value → World → World → Prop) (w : World) (e : Ending) (w' : World) : Prop :=
 Bel [q] w.heap.size w w' ∧ match o with
 | .err p c => e = fellP (K p : Int) (c : Int)
 | .ok x l => ∃ v, e = .returned v ∧ R x v w w' ∧ PAt K q w' l
theorem PP.no {β : Type} {K : Nat → Nat} {q p c : Nat} {o : PR β} {R : β → Value → World → World → Prop} {w w' : World} (h : Bel [q] w.heap.size w w') (ho : .err p c = o) : PP K q o R w (fellP (K p : Int) (c : Int)) w' := by
 subst ho
 exact ⟨h, rfl⟩
theorem PP.yes {β : Type} {K : Nat → Nat} {q : Nat} {o : PR β} {R : β → Value → World → World → Prop} {w w' : World} {x : β} {l : List (List UInt8)} {v : Value} (h : Bel [q] w.heap.size w w') (ho : .ok x l = o) (hR : R x v w w') (hl : PAt K q w' l) : PP K q o R w (.returned v) w' := by
 subst ho
 exact ⟨h, v, rfl, hR, hl⟩
def RUnit (_ : Unit) (v : Value) (_ _ : World) : Prop := v = .tuple #[]
def RNat (n : Nat) (v : Value) (_ _ : World) : Prop := v = .int .i64 (n : Int)
def RTxt (s : List UInt8) (v : Value) (_ _ : World) : Prop := v = sT s
section
variable {P : Program} {ops : Array Oper} {Q : Exit → Act → World → Prop} {a : Act} {w : World}
theorem lin_panic (i : Nat) (v : Value) (hi : (ops[i]?.isSome && Region.wanted (opAt ops i) (yielded ops a.tmps)) = true) (hrun : (execOp a.eval (opAt ops i)).run P w = .halt (.panic v) w) (h : Q (.panic [{ v := v, recovered := false }]) a w) : wpFrom P ops Q i a w := by
 simp only [Bool.and_eq_true] at hi
 obtain ⟨h1, h2⟩ := hi
 refine ⟨?_⟩
 rw [drop_opAt h1]
 refine wpList_step fun K hK => ?_
 rw [if_pos h2]
 unfold Oper.wp
 rw [hrun]
 exact h
end
theorem sizeRest : (Try.prog.info? 23).map (·.size) = some 1 := by kernel_rfl
theorem text_walk (K : Nat → Nat) (q : Nat) (w : World) (l : List (List UInt8)) (h : PAt K q w l) : Calls Try.prog 39 #[.pointer (some ⟨q, 0, none⟩)] w fun e w' => e = .returned (sT (nx l)) ∧ w' = w := by
 obtain ⟨g, u, c, h0, hx, hp⟩ := h.head
 have H0 := Lib.hid h0
 have HX := Lib.hid hx
 have HP := Lib.hid hp
 clear h0 hx hp h
 obtain ⟨L, hL⟩ : ∃ L, Hid (l.length + 1 = L) := ⟨_, rfl⟩
 rw [hL.out] at H0
 have hL0 : 0 < L := by have := hL.out; omega
 go_enter Try.func39, Try.ntmps39
 go_upto_region 0 with (fail)
 refine lbeg (opsOf Try.f39 0) ?_
 refine lnow 0 (sT []) (some 2) ?_
 refine ldn 1 ?_
 generalize hact : Act.put _ (some 2) _ = act
 simp only [Act.put, sA, sC, sZ] at hact
 subst hact
 go_upto_region 1 with (fail)
 refine lbeg (opsOf Try.f39 1) ?_
 refine lnow 0 (.pointer (some ⟨q, 0, none⟩)) (some 3) ?_
 refine lnow 1 (.pointer (some ⟨q, 0, none⟩)) (some 4) ?_
 refine lnow 2 (.pointer (some ⟨q, 0, none⟩)) (some 5) ?_
 refine lcl 3 (.slice (some ⟨g, u, none⟩) L c) (some 6) 23 5 q 0 H0.out Try.underlying23 ?_
 refine lnowP 4 (.pointer (some ⟨g, u + 0 * 3, none⟩)) (some 7) (exec_indexAt 23 (.tmp 6) (.const (.int .i64 0)) (by kernel_rfl) _ _ _ (by kernel_rfl) (by kernel_rfl) (run_at_tok g u L c 0 hL0 _)) ?_
 refine lnow 5 (.pointer (some ⟨g, u + 1, none⟩)) (some 8) ?_
 refine lcl 6 (sT (nx l)) (some 9) 9 8 g (u + 1) HX.out Try.underlying9 ?_
 refine lnow 7 (sT (nx l)) (some 2) ?_
 refine ldn 8 ?_
 generalize hact : Act.put _ (some 2) _ = act
 simp only [Act.put, sA, sC, sZ] at hact
 subst hact
 go_wp2
 go_ret
 exact ⟨rfl, rfl⟩
theorem at_walk (K : Nat → Nat) (q : Nat) (w : World) (l : List (List UInt8)) (h : PAt K q w l) : Calls Try.prog 35 #[.pointer (some ⟨q, 0, none⟩)] w fun e w' => e = .returned (.int .i64 (K l.length : Int)) ∧ w' = w := by
 obtain ⟨g, u, c, h0, hx, hp⟩ := h.head
 have H0 := Lib.hid h0
 have HX := Lib.hid hx
 have HP := Lib.hid hp
 clear h0 hx hp h
 obtain ⟨L, hL⟩ : ∃ L, Hid (l.length + 1 = L) := ⟨_, rfl⟩
 rw [hL.out] at H0
 have hL0 : 0 < L := by have := hL.out; omega
 go_enter Try.func35, Try.ntmps35
 go_upto_region 0 with (fail)
 refine lbeg (opsOf Try.f35 0) ?_
 refine lnow 0 (.int .i64 0) (some 2) ?_
 refine ldn 1 ?_
 generalize hact : Act.put _ (some 2) _ = act
 simp only [Act.put, sA, sC, sZ] at hact
 subst hact
 go_upto_region 1 with (fail)
 refine lbeg (opsOf Try.f35 1) ?_
 refine lnow 0 (.pointer (some ⟨q, 0, none⟩)) (some 3) ?_
 refine lnow 1 (.pointer (some ⟨q, 0, none⟩)) (some 4) ?_
 refine lnow 2 (.pointer (some ⟨q, 0, none⟩)) (some 5) ?_
 refine lcl 3 (.slice (some ⟨g, u, none⟩) L c) (some 6) 23 5 q 0 H0.out Try.underlying23 ?_
 refine lnowP 4 (.pointer (some ⟨g, u + 0 * 3, none⟩)) (some 7) (exec_indexAt 23 (.tmp 6) (.const (.int .i64 0)) (by kernel_rfl) _ _ _ (by kernel_rfl) (by kernel_rfl) (run_at_tok g u L c 0 hL0 _)) ?_
 refine lnow 5 (.pointer (some ⟨g, u + 2, none⟩)) (some 8) ?_
 refine lcl 6 (.int .i64 (K l.length : Int)) (some 9) 3 8 g (u + 2) HP.out Try.underlying3 ?_
 refine lnow 7 (.int .i64 (K l.length : Int)) (some 2) ?_
 refine ldn 8 ?_
 generalize hact : Act.put _ (some 2) _ = act
 simp only [Act.put, sA, sC, sZ] at hact
 subst hact
 go_wp2
 go_ret
 exact ⟨rfl, rfl⟩
theorem take_walk (K : Nat → Nat) (q : Nat) (w : World) (s : List UInt8) (l : List (List UInt8)) (h : PAt K q w (s :: l)) : Calls Try.prog 48 #[.pointer (some ⟨q, 0, none⟩)] w fun e w' => e = .returned (sT s) ∧ PAt K q w' l ∧ Upd q w w' := by
 have H := Lib.hid h
 have TXT := text_walk K q w _ h
 obtain ⟨v, a, c, k, hb, hsl, hn⟩ := h.next
 have HB := Lib.hid hb
 have HN := Lib.hid hn
 clear h hb hn
 go_enter Try.func48, Try.ntmps48
 go_upto_region 0 with (fail)
 refine lbeg (opsOf Try.f48 0) ?_
 refine lnow 0 (sT []) (some 2) ?_
 refine ldn 1 ?_
 generalize hact : Act.put _ (some 2) _ = act
 simp only [Act.put, sA, sC, sZ] at hact
 subst hact
 go_upto_region 1 with (fail)
 refine lbeg (opsOf Try.f48 1) ?_
 refine lnow 0 (.pointer (some ⟨q, 0, none⟩)) (some 4) ?_
 refine lcal 1 39 #[.pointer (some ⟨q, 0, none⟩)] (some 5) _ (TXT) ?_
 rintro e w' ⟨rfl, hw'⟩
 obtain rfl := hw'.symm
 refine ⟨_, rfl, ?_⟩
 rw [nx_cons]
 refine lnow 2 (sT s) (some 3) ?_
 refine ldn 3 ?_
 generalize hact : Act.put _ (some 3) _ = act
 simp only [Act.put, sA, sC, sZ] at hact
 subst hact
 go_upto_region 2 with (fail)
 refine lbeg (opsOf Try.f48 2) ?_
 refine lnow 0 (.pointer (some ⟨q, 0, none⟩)) (some 6) ?_
 refine lnow 1 (.pointer (some ⟨q, 0, none⟩)) (some 7) ?_
 refine lnow 2 (.pointer (some ⟨q, 0, none⟩)) (some 8) ?_
 refine lnow 3 (.pointer (some ⟨q, 0, none⟩)) (some 9) ?_
 refine lcl 4 (v) (some 10) 23 9 q 0 (HB.out.cell rfl) Try.underlying23 ?_
 refine lnowP 5 (.slice a c k) (some 11) (exec_of (Instr.sliceAt 23 v (some (.int .i64 1)) none none) _ (by kernel_rfl) (hsl _)) ?_
 refine lnow 6 (.pointer (some ⟨q, 0, none⟩)) (some 12) ?_
 refine lnow 7 (.pointer (some ⟨q, 0, none⟩)) (some 13) ?_
 refine lin_putF 8 0 23 (.tmp 13) (.tmp 11) q 77 [v] (.slice a c k) (by kernel_rfl) (by kernel_rfl) (by kernel_rfl) (by kernel_rfl) (by kernel_rfl) HB.out (by simp) sizeRest rfl rfl ?_
 intro w3 b3 u3
 refine ldn 9 ?_
 generalize hact : Act.put _ none _ = act
 simp only [Act.put, sA, sC, sZ] at hact
 subst hact
 have POST : Hid (PAt K q w3 l ∧ Upd q w w3) := ⟨HN.out w3 b3 u3, u3⟩
 clear b3 u3 HB HN H hsl TXT
 go_upto_region 3 with (fail)
 refine lbeg (opsOf Try.f48 3) ?_
 refine lnow 0 (sT s) (some 14) ?_
 refine lnow 1 (sT s) (some 2) ?_
 refine ldn 2 ?_
 generalize hact : Act.put _ (some 2) _ = act
 simp only [Act.put, sA, sC, sZ] at hact
 subst hact
 go_wp2
 go_ret
 exact ⟨rfl, POST.out⟩
theorem ended_walk (K : Nat → Nat) (q : Nat) (w : World) (l : List (List UInt8)) (h : PAt K q w l) : Calls Try.prog 23 #[.pointer (some ⟨q, 0, none⟩)] w fun e w' => e = .returned (.bool (decide (l = []))) ∧ w' = w := by
 have EI := h.end_iff
 go_enter Try.func23, Try.ntmps23
 go_upto_region 0 with (fail)
 refine lbeg (opsOf Try.f23 0) ?_
 refine lnow 0 (.bool false) (some 2) ?_
 refine ldn 1 ?_
 generalize hact : Act.put _ (some 2) _ = act
 simp only [Act.put, sA, sC, sZ] at hact
 subst hact
 go_upto_region 1 with (fail)
 refine lbeg (opsOf Try.f23 1) ?_
 refine lnow 0 (.pointer (some ⟨q, 0, none⟩)) (some 3) ?_
 refine lcal 1 39 #[.pointer (some ⟨q, 0, none⟩)] (some 4) _ (text_walk K q w l h) ?_
 rintro e w' ⟨rfl, hw'⟩
 obtain rfl := hw'.symm
 refine ⟨_, rfl, ?_⟩
 refine lnowP 2 (.bool (decide (nx l = []))) (some 5) (exec_sEq 9 9 (.tmp 4) (.const (.string ⟨#[]⟩)) (by kernel_rfl) (nx l) [] (by kernel_rfl) (by kernel_rfl) (fun _ => rfl)) ?_
 rw [show decide (nx l = []) = decide (l = []) from decide_eq_decide.2 EI]
 refine lnow 3 (.bool (decide (l = []))) (some 2) ?_
 refine ldn 4 ?_
 generalize hact : Act.put _ (some 2) _ = act
 simp only [Act.put, sA, sC, sZ] at hact
 subst hact
 go_wp2
 go_ret
 exact ⟨rfl, rfl⟩
theorem need_yesP (q : Nat) (w : World) : Calls Try.prog 22 #[.pointer (some ⟨q, 0, none⟩), .bool true] w fun e w' => e = .returned (.tuple #[]) ∧ w' = w := by
 go_enter Try.func22, Try.ntmps22
 go_wp2
 go_end0
 exact ⟨rfl, rfl⟩
theorem need_noP (K : Nat → Nat) (q : Nat) (w : World) (l : List (List UInt8)) (h : PAt K q w l) : Calls Try.prog 22 #[.pointer (some ⟨q, 0, none⟩), .bool false] w fun e w' => e = fellP (K l.length : Int) 10 ∧ w' = w := by
 go_enter Try.func22, Try.ntmps22
 go_upto_region 0 with (fail)
 refine lbeg (opsOf Try.f22 0) ?_
 refine lnow 0 (.bool false) (some 4) ?_
 refine lnow 1 (.bool true) (some 5) ?_
 refine ldn 2 ?_
 generalize hact : Act.put _ (some 5) _ = act
 simp only [Act.put, sA, sC, sZ] at hact
 subst hact
 go_upto_region 1 with (fail)
 refine lbeg (opsOf Try.f22 1) ?_
 refine lnow 0 (.pointer (some ⟨q, 0, none⟩)) (some 6) ?_
 refine lcal 1 35 #[.pointer (some ⟨q, 0, none⟩)] (some 7) _ (at_walk K q w l h) ?_
 rintro e w' ⟨rfl, hw'⟩
 obtain rfl := hw'.symm
 refine ⟨_, rfl, ?_⟩
 refine lnow 2 (.agg #[.int .i64 (K l.length : Int), .int .i64 10]) (some 8) ?_
 refine lnow 3 (.iface 74 (.agg #[.int .i64 (K l.length : Int), .int .i64 10])) (some 9) ?_
 refine lin_panic 4 (.iface 74 (.agg #[.int .i64 (K l.length : Int), .int .i64 10])) (by kernel_rfl) (by kernel_rfl) ?_
 exact ⟨rfl, rfl, rfl⟩
end Go.Proofs.Ytdacmogedchnaaa
