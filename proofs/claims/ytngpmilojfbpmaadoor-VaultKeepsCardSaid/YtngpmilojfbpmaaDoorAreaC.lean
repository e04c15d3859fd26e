/- Package area: sectors, write. -/
import Derived.Test.YtngpmilojfbpmaaDoorAreaM
namespace Go.Proofs.YtngpmilojfbpmaaDoor
open Go Go.RowKit
set_option maxRecDepth 100000

/-- n sectors, from one on. -/
def secsP (l : List Int) (f n : Nat) : List Int := (l.drop (64 * f)).take (64 * n)
theorem secsP_length {l : List Int} {sz f n : Nat} (hl : l.length = 64 * sz) (h : f + n ≤ sz) : (secsP l f n).length = 64 * n := by
  unfold secsP; rw [List.length_take, List.length_drop, hl]; omega
theorem secsP_next {l : List Int} (f : Nat) {n i : Nat} (hi : i < n) : (secsP l f n).take (64 * i) ++ getB l (f + i) = (secsP l f n).take (64 * (i + 1)) := by
  unfold secsP getB
  rw [List.take_take, List.take_take, Nat.min_eq_left (by omega), Nat.min_eq_left (by omega), show 64 * (i + 1) = 64 * i + 64 by omega, List.take_add, List.drop_drop, show 64 * f + 64 * i = 64 * (f + i) by omega]
theorem secsP_get {l : List Int} (f : Nat) {n i : Nat} (hi : i < n) : getB (secsP l f n) i = getB l (f + i) := by
  unfold secsP getB
  rw [List.drop_take, List.take_take, Nat.min_eq_left (by omega), List.drop_drop, show 64 * f + 64 * i = 64 * (f + i) by omega]
def SecsPost (l : List Int) (n : Nat) (w : World) (e : Ending) (w' : World) : Prop := ∃ G, e = .returned (.slice (some ⟨G, 0, none⟩) n n) ∧ w.heap.size ≤ G ∧ Blk w' G 91 (ints .u8 l) ∧ Below w.heap.size w w'
set_option maxHeartbeats 4000000 in
theorem sectors_walk (d sz f n : Nat) (F : List Nat) (seen dur : List Int) (pend : List Wr) (left : Int) (w : World) (h : Dk w F d sz seen dur pend left) (hf : f + n ≤ sz) :
    Calls Tryd.prog 96 #[.pointer (some ⟨d, 0, none⟩), .int .i64 (f : Int), .int .i64 (n : Int)] w (SecsPost (secsP seen f n) n w) := by
  have LS : Hid (seen.length = 64 * sz) := by obtain ⟨sB, dB, sc, dc, rs, rd, pv, -, hx⟩ := id h; exact hx.ls
  have SZ : sz ≤ 4096 := by obtain ⟨sB, dB, sc, dc, rs, rd, pv, -, hx⟩ := id h; exact hx.big
  have HD := Lib.hid h
  obtain ⟨B, hB⟩ : ∃ B, Hid (w.heap.size = B) := ⟨_, rfl⟩
  obtain ⟨l, hl⟩ : ∃ l, Hid (secsP seen f n = l) := ⟨_, rfl⟩
  have LL : Hid (l.length = 64 * n) := by unfold Hid; rw [← hl.out]; exact secsP_length LS.out hf
  unfold SecsPost
  rw [hB.out, hl.out]
  clear h
  go_enter Tryd.func96, Tryd.ntmps96
  go_upto_region 1 with (fail)
  refine lin_begin (opsOf Tryd.f96 1) (by kernel_rfl) ?_
  refine lin_now 0 (.int .i64 (n : Int)) (some 9) (by kernel_rfl) (by kernel_rfl) (by kernel_rfl) ?_
  refine lin_makeblk 1 n B .i64 .i64 (some 10) (by kernel_rfl) (by kernel_rfl) (by kernel_rfl) (by omega) hB ?_
  intro w1 b1 be1 hs1
  refine lin_now 2 (.slice (some ⟨B, 0, none⟩) n n) (some 7) (by kernel_rfl) (by kernel_rfl) (by kernel_rfl) ?_
  refine lin_done 3 (by kernel_rfl) ?_
  have X1 := Lib.hid b1
  have BE1 := Lib.hid be1
  clear b1 be1 hs1
  generalize hact : Act.put _ (some 7) _ = act
  simp only [Act.put, List.setIfInBounds_toArray, List.set_cons_succ, List.set_cons_zero] at hact
  subst hact
  go_wp2
  go_loopw [13, 8] (fun iv _ wr => ∃ (i : Nat), i ≤ n ∧ iv = .int .i64 (i : Int) ∧ Blk wr B 91 (ints .u8 (l.take (64 * i) ++ zeros (64 * (n - i)))) ∧ Below B w wr) (fun iv _ _ => n - (intOf iv).toNat)
  case atStart => exact ⟨0, Nat.zero_le _, rfl, by rw [Nat.mul_zero, List.take_zero, List.nil_append, Nat.sub_zero]; exact X1.out, BE1.out⟩
  case round =>
    obtain ⟨i, hi, rfl, hbl, hbe⟩ := hrel
    have X2 := Lib.hid hbl
    have BE2 := Lib.hid hbe
    clear hbl hbe X1 BE1
    by_cases hlt : i < n
    · have r1 : (i : Int) < (n : Int) := by omega
      have D2 : Hid (Dk wr F d sz seen dur pend left) := HD.out.below (by rw [hB.out]; exact BE2.out)
      have GL : Hid ((getB seen (f + i)).length = 64) := getB_length LS.out (by omega)
      have IS : Hid ((Tryd.prog.info? 91).map (·.size) = some (ints .u8 (getB seen (f + i))).length) := infoBlk _ GL.out
      go_upto_region 4 with (fail)
      refine lin_begin (opsOf Tryd.f96 4) (by kernel_rfl) ?_
      refine lin_now 0 (.int .i64 (i : Int)) (some 15) (by kernel_rfl) (by kernel_rfl) (by kernel_rfl) ?_
      refine lin_now 1 (.int .i64 (i : Int)) (some 8) (by kernel_rfl) (by kernel_rfl) (by kernel_rfl) ?_
      refine lin_done 2 (by kernel_rfl) ?_
      generalize hact : Act.put _ (some 8) _ = act
      simp only [Act.put, List.setIfInBounds_toArray, List.set_cons_succ, List.set_cons_zero] at hact
      subst hact
      go_upto_region 5 with (fail)
      refine lin_begin (opsOf Tryd.f96 5) (by kernel_rfl) ?_
      refine lin_now 0 (.slice (some ⟨B, 0, none⟩) n n) (some 17) (by kernel_rfl) (by kernel_rfl) (by kernel_rfl) ?_
      refine lin_now 1 (.int .i64 (i : Int)) (some 18) (by kernel_rfl) (by kernel_rfl) (by kernel_rfl) ?_
      refine lin_now 2 (.pointer (some ⟨d, 0, none⟩)) (some 19) (by kernel_rfl) (by kernel_rfl) (by kernel_rfl) ?_
      refine lin_now 3 (.int .i64 (f : Int)) (some 20) (by kernel_rfl) (by kernel_rfl) (by kernel_rfl) ?_
      refine lin_now 4 (.int .i64 (i : Int)) (some 21) (by kernel_rfl) (by kernel_rfl) (by kernel_rfl) ?_
      refine lin_now 5 (.int .i64 (IntKind.i64.wrap ((f : Int) + (i : Int)))) (some 22) (by kernel_rfl) (by kernel_rfl) (by kernel_rfl) ?_
      rw [show IntKind.i64.wrap ((f : Int) + (i : Int)) = ((f + i : Nat) : Int) from (IntWalk.i64_in _ (by omega)).trans (by omega)]
      refine lin_call 6 110 #[.pointer (some ⟨d, 0, none⟩), .int .i64 ((f + i : Nat) : Int)] (some 23) _ (by kernel_rfl) (by kernel_rfl) (by kernel_rfl) (read_yes d sz (f + i) F seen dur pend left _ D2.out (by omega)) ?_
      rintro e w3 ⟨rfl, hb3⟩
      refine ⟨_, rfl, ?_⟩
      obtain ⟨bl, hbl⟩ : ∃ bl, Hid (getB seen (f + i) = bl) := ⟨_, rfl⟩
      rw [hbl.out] at GL IS ⊢
      refine lin_now 7 (.tuple #[.agg (ints .u8 bl).toArray, .int .i64 0]) (some 16) (by kernel_rfl) (by kernel_rfl) (by kernel_rfl) ?_
      refine lin_now 8 (.agg (ints .u8 bl).toArray) (some 24) (by kernel_rfl) (by kernel_rfl) (by kernel_rfl) ?_
      refine lin_now 9 (.int .i64 0) (some 25) (by kernel_rfl) (by kernel_rfl) (by kernel_rfl) ?_
      refine lin_now 10 (.pointer (some ⟨B, 0 + 64 * i, none⟩)) (some 26) (by kernel_rfl) (by kernel_rfl) (exec_indexAt 67 (.tmp 17) (.tmp 18) (by kernel_rfl) _ _ _ (by kernel_rfl) (by kernel_rfl) (run_at_block B 0 n n i hlt _)) ?_
      have X3 : Blk w3 B 91 (ints .u8 (l.take (64 * i) ++ zeros (64 * (n - i)))) := X2.out.below hb3 X2.out.lt
      have TL : (l.take (64 * i)).length = 64 * i := by rw [List.length_take, LL.out]; omega
      rw [Nat.zero_add]
      refine lin_store 11 (w3.setCells B (64 * i) (ints .u8 bl)) (by kernel_rfl) (by kernel_rfl) (exec_store_mid 91 (.tmp 26) (.tmp 24) (by kernel_rfl) B (64 * i) (ints .u8 bl) (by kernel_rfl) (by kernel_rfl) (X3.there _ _ (by rw [ints_length, GL.out, ints_length, List.length_append, TL, zeros_length]; omega)) IS.out (ints_oneCell _ _)) ?_
      refine lin_done 12 (by kernel_rfl) ?_
      have X4 : Hid (Blk (w3.setCells B (64 * i) (ints .u8 bl)) B 91 (ints .u8 (l.take (64 * (i + 1)) ++ zeros (64 * (n - (i + 1)))))) := by
        have h := X3.setCells (ints .u8 bl) (64 * i) (by rw [ints_length, GL.out, ints_length, List.length_append, TL, zeros_length]; omega)
        rw [splice_at _ _ _ _ TL, GL.out, zeros_drop, show 64 * (n - i) - 64 = 64 * (n - (i + 1)) by omega, ← List.append_assoc] at h
        have e := secsP_next (l := seen) f hlt
        rw [hl.out, hbl.out] at e
        rw [e] at h
        exact h
      have BE4 : Hid (Below B w (w3.setCells B (64 * i) (ints .u8 bl))) := below_setCells _ (BE2.out.trans (hb3.mono (Nat.le_of_lt X2.out.lt))) _ (Nat.le_refl _)
      generalize w3.setCells B (64 * i) (ints .u8 bl) = W4 at *
      clear X2 BE2 D2 X3 TL hb3
      generalize hact : Act.put _ none undef = act
      simp only [Act.put, List.setIfInBounds_toArray, List.set_cons_succ, List.set_cons_zero] at hact
      subst hact
      go_wp2
      exact ⟨⟨i + 1, by omega, by go_num, X4.out, BE4.out⟩, by simp [intOf]; omega⟩
    · have r1 : ¬ (i : Int) < (n : Int) := by omega
      obtain rfl : i = n := by omega
      go_wp2
      go_ret
      refine ⟨B, rfl, Nat.le_refl _, ?_, BE2.out⟩
      have h := X2.out
      rw [Nat.sub_self, Nat.mul_zero, show zeros 0 = [] from rfl, List.append_nil, List.take_of_length_le (by rw [LL.out]; omega)] at h
      exact h

/-- Writes of so many sectors, one behind the other. -/
def wrsAt (n0 : Nat) (bl : List Int) : Nat → List Wr
  | 0 => []
  | j + 1 => wrsAt n0 bl j ++ [(n0 + j, getB bl j)]
theorem wrsAt_length (n0 : Nat) (bl : List Int) : ∀ j, (wrsAt n0 bl j).length = j
  | 0 => rfl
  | j + 1 => by rw [wrsAt, List.length_append, wrsAt_length n0 bl j]; rfl
def putsK (seen : List Int) (n0 : Nat) (bl : List Int) : Nat → List Int
  | 0 => seen
  | j + 1 => putB (putsK seen n0 bl j) (n0 + j) (getB bl j)
def leftK (left : Int) (j : Nat) : Int := if left < 0 then left else left - (j : Int)
/-- How many of k writes are done. -/
def doneN (left : Int) (k : Nat) : Nat := if left < 0 then k else min k left.toNat
theorem doneN_le (left : Int) (k : Nat) : doneN left k ≤ k := by unfold doneN; split <;> omega
structure Wrx (ab q : Nat) (cs : List Value) (b : List Int) (w : World) : Prop where
  a : Blk w ab 113 cs
  q : Blk w q 91 (ints .u8 b)
def WritePost (F : List Nat) (d sz : Nat) (seen dur : List Int) (pend : List Wr) (left : Int) (n0 k : Nat) (bl : List Int) (w : World) (e : Ending) (w' : World) : Prop :=
  e = .returned (.bool (decide (doneN left k = k))) ∧ ∃ F', Dk w' F' d sz (putsK seen n0 bl (doneN left k)) dur (pend ++ wrsAt n0 bl (doneN left k)) (leftK left (doneN left k)) ∧ Step F w F' w'
theorem neqErr (x : Int) : ∀ w, (binOp BinOp.neq 26 (.int .i64 x) (.int .i64 0)).run Tryd.prog w = .ok (.bool (x != 0)) w := fun w => by kernel_rfl
set_option maxHeartbeats 4000000 in
theorem arwrite_walk {w : World} {A F : List Nat} (E : List Nat) {ab d first half gen next : Nat} {stuck : Bool} {recs : List (List Int)} (h : Ar w A (E ++ F) ab d first half gen next stuck recs)
    (sz : Nat) (seen dur : List Int) (pend : List Wr) (left : Int) (hd : Dk w F d sz seen dur pend left) (num G k c : Nat) (bl : List Int) (hG : Blk w G 91 (ints .u8 bl)) (hGF : G ∉ F) (hbl : bl.length = 64 * k) (hf : first + num + k ≤ sz) (hsz : sz ≤ 4096) (hlm : left ≤ 9223372036854775807) (hm : pend.length + k ≤ 1000000) :
    Calls Tryd.prog 69 #[.pointer (some ⟨ab, 0, none⟩), .int .i64 (num : Int), .slice (some ⟨G, 0, none⟩) k c] w (WritePost F d sz seen dur pend left (first + num) k bl w) := by
  obtain ⟨rv, -, hx⟩ := h
  have HX := Lib.hid hx
  have HD := Lib.hid hd
  have HG := Lib.hid hG
  have HGF := Lib.hid hGF
  have HBL := Lib.hid hbl
  unfold WritePost
  clear hx hd hG hGF hbl
  go_enter Tryd.func69, Tryd.ntmps69
  go_wp2
  go_loopw [11, 7, 8] (fun iv _ _ wr => ∃ (i : Nat) (F1 : List Nat), i ≤ k ∧ iv = .int .i64 (i : Int) ∧ Hid (left < 0 ∨ (i : Int) ≤ left) ∧ Dk wr F1 d sz (putsK seen (first + num) bl i) dur (pend ++ wrsAt (first + num) bl i) (leftK left i) ∧ Step F w F1 wr) (fun iv _ _ _ => k - (intOf iv).toNat)
  case atStart => exact ⟨0, F, Nat.zero_le _, rfl, by unfold Hid; omega, by rw [wrsAt, List.append_nil, putsK, show leftK left 0 = left by unfold leftK; split <;> simp]; exact HD.out, Step.refl _ _⟩
  case round =>
    obtain ⟨i, F1, hi, rfl, hle, hdk, hst⟩ := hrel
    have DK := Lib.hid hdk
    have ST := Lib.hid hst
    have X1 := Lib.hid (HX.out.disk (hst.left (A := E)))
    have G1 : Hid (Blk wr G 91 (ints .u8 bl)) := hst.blk HG.out HGF.out
    clear hdk hst HD
    by_cases hlt : i < k
    · have r1 : (i : Int) < (k : Int) := by omega
      have GL : Hid ((getB bl i).length = 64) := getB_length HBL.out hlt
      have GR : Hid (wr.rangeAt G (0 + 64 * i) (ints .u8 (getB bl i))) := getB_sub G1.out.whole
      obtain ⟨b, hb⟩ : ∃ b, Hid (getB bl i = b) := ⟨_, rfl⟩
      rw [hb.out] at GL GR
      have IS : Hid ((Tryd.prog.info? 91).map (·.size) = some (ints .u8 b).length) := infoBlk _ GL.out
      obtain ⟨q, hq⟩ : ∃ q, Hid (wr.heap.size = q) := ⟨_, rfl⟩
      obtain ⟨lf, hlf⟩ : ∃ lf, Hid (leftK left i = lf) := ⟨_, rfl⟩
      rw [hlf.out] at DK
      go_upto_region 3 with (fail)
      refine lin_begin (opsOf Tryd.f69 3) (by kernel_rfl) ?_
      refine lin_now 0 (.int .i64 (i : Int)) (some 13) (by kernel_rfl) (by kernel_rfl) (by kernel_rfl) ?_
      refine lin_now 1 (.pointer (some ⟨G, 0 + 64 * i, none⟩)) (some 14) (by kernel_rfl) (by kernel_rfl) (exec_indexAt 67 (.tmp 9) (.tmp 11) (by kernel_rfl) _ _ _ (by kernel_rfl) (by kernel_rfl) (run_at_block G 0 k c i hlt _)) ?_
      refine lin_now 2 (.agg (ints .u8 b).toArray) (some 15) (by kernel_rfl) (by kernel_rfl) (exec_load_mid 91 (.tmp 14) (by kernel_rfl) G (0 + 64 * i) (by kernel_rfl) (ints .u8 b) _ GR.out Tryd.underlying91 rfl IS.out) ?_
      refine lin_alloc 3 91 (ints .u8 zB) (q) (some 8) (by kernel_rfl) (by kernel_rfl) (by kernel_rfl) zeroBlk hq ?_
      intro w1 b1 be1 hs1
      refine lin_now 4 (.int .i64 (i : Int)) (some 7) (by kernel_rfl) (by kernel_rfl) (by kernel_rfl) ?_
      refine lin_put 5 91 (.tmp 8) (.tmp 15) (q) _ (ints .u8 zB) (ints .u8 b) (by kernel_rfl) (by kernel_rfl) (by kernel_rfl) (by kernel_rfl) (by kernel_rfl) b1 (by rw [ints_length, ints_length, GL.out, zB_length]) IS.out (ints_oneCell _ _) ?_
      intro w2 b2 u2
      refine lin_done 6 (by kernel_rfl) ?_
      have BE2 : Below wr.heap.size wr w2 := u2.below (by rw [hq.out]; exact be1) (by rw [hq.out]; exact Nat.le_refl _) be1.size
      have Q2 := Lib.hid b2
      have D2 := Lib.hid (DK.out.below BE2)
      have X2 := Lib.hid (X1.out.below BE2)
      have ST2 : Hid (Step F w F1 w2) := ST.out.trans (Step.of_below BE2 (Nat.le_refl _))
      have QF : Hid (q ∉ F1) := fun hc => by have := DK.out.lt q hc; have := hq.out; omega
      have AF : Hid (ab ∉ F1) := fun hc => X1.out.n2 ab (by simp [afoot]) (List.mem_append_right _ hc)
      clear b1 be1 hs1 b2 u2 BE2 DK ST X1 GR G1
      generalize hact : Act.put _ none undef = act
      simp only [Act.put, List.setIfInBounds_toArray, List.set_cons_succ, List.set_cons_zero] at hact
      subst hact
      by_cases hl0 : lf = 0
      · subst hl0
        go_upto_region 4 with (fail)
        refine region_begin (opsOf Tryd.f69 4) (Wrx ab q (acells d first half gen next rv stuck) b) (by kernel_rfl) (by kernel_rfl) 15 (by kernel_rfl) ?_
        intro Q' hQN hN
        have hS : Wrx ab q (acells d first half gen next rv stuck) b w2.drew := ⟨X2.out.hb, Q2.out⟩
        refine reg_now 0 (.pointer (some ⟨ab, 0, none⟩)) (some 16) hQN hS (by kernel_rfl) (by kernel_rfl) (fun w => by kernel_rfl) ?_
        refine reg_now 1 (.pointer (some ⟨ab, 0, none⟩)) (some 17) hQN hS (by kernel_rfl) (by kernel_rfl) (fun w => by kernel_rfl) ?_
        refine reg_now 2 (.pointer (some ⟨ab, 0, none⟩)) (some 18) hQN hS (by kernel_rfl) (by kernel_rfl) (fun w => by kernel_rfl) ?_
        refine reg_nowIf 3 (.pointer (some ⟨d, 0, none⟩)) (some 19) hQN hS (by kernel_rfl) (by kernel_rfl) (fun w' hw => exec_load_cell 25 (.tmp 18) (by kernel_rfl) ab 0 (by kernel_rfl) _ (hw.a.cell rfl) _ Tryd.underlying25 rfl) ?_
        refine reg_now 4 (.pointer (some ⟨ab, 0, none⟩)) (some 20) hQN hS (by kernel_rfl) (by kernel_rfl) (fun w => by kernel_rfl) ?_
        refine reg_now 5 (.pointer (some ⟨ab, 0, none⟩)) (some 21) hQN hS (by kernel_rfl) (by kernel_rfl) (fun w => by kernel_rfl) ?_
        refine reg_now 6 (.pointer (some ⟨ab, 1, none⟩)) (some 22) hQN hS (by kernel_rfl) (by kernel_rfl) (fun w => by kernel_rfl) ?_
        refine reg_nowIf 7 (.int .i64 (first : Int)) (some 23) hQN hS (by kernel_rfl) (by kernel_rfl) (fun w' hw => exec_load_cell 3 (.tmp 22) (by kernel_rfl) ab 1 (by kernel_rfl) _ (hw.a.cell rfl) _ Tryd.underlying3 rfl) ?_
        refine reg_now 8 (.int .i64 (num : Int)) (some 24) hQN hS (by kernel_rfl) (by kernel_rfl) (fun w => by kernel_rfl) ?_
        refine reg_now 9 (.int .i64 (IntKind.i64.wrap ((first : Int) + (num : Int)))) (some 25) hQN hS (by kernel_rfl) (by kernel_rfl) (fun w => by kernel_rfl) ?_
        rw [show IntKind.i64.wrap ((first : Int) + (num : Int)) = ((first + num : Nat) : Int) from (IntWalk.i64_in _ (by omega)).trans (by omega)]
        refine reg_now 10 (.int .i64 (i : Int)) (some 26) hQN hS (by kernel_rfl) (by kernel_rfl) (fun w => by kernel_rfl) ?_
        refine reg_now 11 (.int .i64 (IntKind.i64.wrap (((first + num : Nat) : Int) + (i : Int)))) (some 27) hQN hS (by kernel_rfl) (by kernel_rfl) (fun w => by kernel_rfl) ?_
        rw [show IntKind.i64.wrap (((first + num : Nat) : Int) + (i : Int)) = ((first + num + i : Nat) : Int) from (IntWalk.i64_in _ (by omega)).trans (by omega)]
        refine reg_nowIf 12 (.agg (ints .u8 b).toArray) (some 28) hQN hS (by kernel_rfl) (by kernel_rfl) (fun w' hw => exec_load_mid 91 (.tmp 8) (by kernel_rfl) q 0 (by kernel_rfl) (ints .u8 b) _ hw.q.whole Tryd.underlying91 rfl IS.out) ?_
        refine reg_call 13 91 #[.pointer (some ⟨d, 0, none⟩), .int .i64 ((first + num + i : Nat) : Int), .agg (ints .u8 b).toArray] (some 29) _ (by kernel_rfl) (by kernel_rfl) (by kernel_rfl) (write_full d sz (first + num + i) F1 _ dur _ b _ (D2.out.below (Below.refl _ _).drew) (by omega)) ?_
        rintro e w3 ⟨rfl, F3, hd3, hs3⟩
        refine ⟨_, rfl, ⟨hs3.blk hS.a AF.out, hs3.blk hS.q QF.out⟩, ?_⟩
        refine reg_now 14 (.bool true) (some 30) hQN ⟨hs3.blk hS.a AF.out, hs3.blk hS.q QF.out⟩ (by kernel_rfl) (by kernel_rfl) (fun w => by kernel_rfl) ?_
        refine reg_done (by kernel_rfl) (hN _ _ ?_)
        have DN : Hid (doneN left k = i) := by
          have h1 := hlf.out
          have h2 := hle.out
          unfold Hid doneN
          unfold leftK at h1
          split at h1
          · omega
          · rw [if_neg (by omega)]; omega
        have D3 := Lib.hid hd3
        have ST3 : Hid (Step F w F3 w3) := ST2.out.trans (Step.trans (Step.of_below (Below.refl _ _).drew (Nat.le_refl _)) hs3)
        clear hQN hN hd3 hs3 hS D2 X2 ST2 Q2
        generalize hact : Act.put _ (some 30) _ = act
        simp only [Act.put, List.setIfInBounds_toArray, List.set_cons_succ, List.set_cons_zero] at hact
        subst hact
        go_wp2
        go_ret
        have e : decide (doneN left k = k) = false := by rw [decide_eq_false_iff_not, DN.out]; omega
        rw [e, DN.out, hlf.out]
        exact ⟨rfl, F3, D3.out, ST3.out⟩
      · have hlm2 : lf ≤ 9223372036854775807 := by have h1 := hlf.out; unfold leftK at h1; split at h1 <;> omega
        go_upto_region 4 with (fail)
        refine region_begin (opsOf Tryd.f69 4) (Wrx ab q (acells d first half gen next rv stuck) b) (by kernel_rfl) (by kernel_rfl) 15 (by kernel_rfl) ?_
        intro Q' hQN hN
        have hS : Wrx ab q (acells d first half gen next rv stuck) b w2.drew := ⟨X2.out.hb, Q2.out⟩
        refine reg_now 0 (.pointer (some ⟨ab, 0, none⟩)) (some 16) hQN hS (by kernel_rfl) (by kernel_rfl) (fun w => by kernel_rfl) ?_
        refine reg_now 1 (.pointer (some ⟨ab, 0, none⟩)) (some 17) hQN hS (by kernel_rfl) (by kernel_rfl) (fun w => by kernel_rfl) ?_
        refine reg_now 2 (.pointer (some ⟨ab, 0, none⟩)) (some 18) hQN hS (by kernel_rfl) (by kernel_rfl) (fun w => by kernel_rfl) ?_
        refine reg_nowIf 3 (.pointer (some ⟨d, 0, none⟩)) (some 19) hQN hS (by kernel_rfl) (by kernel_rfl) (fun w' hw => exec_load_cell 25 (.tmp 18) (by kernel_rfl) ab 0 (by kernel_rfl) _ (hw.a.cell rfl) _ Tryd.underlying25 rfl) ?_
        refine reg_now 4 (.pointer (some ⟨ab, 0, none⟩)) (some 20) hQN hS (by kernel_rfl) (by kernel_rfl) (fun w => by kernel_rfl) ?_
        refine reg_now 5 (.pointer (some ⟨ab, 0, none⟩)) (some 21) hQN hS (by kernel_rfl) (by kernel_rfl) (fun w => by kernel_rfl) ?_
        refine reg_now 6 (.pointer (some ⟨ab, 1, none⟩)) (some 22) hQN hS (by kernel_rfl) (by kernel_rfl) (fun w => by kernel_rfl) ?_
        refine reg_nowIf 7 (.int .i64 (first : Int)) (some 23) hQN hS (by kernel_rfl) (by kernel_rfl) (fun w' hw => exec_load_cell 3 (.tmp 22) (by kernel_rfl) ab 1 (by kernel_rfl) _ (hw.a.cell rfl) _ Tryd.underlying3 rfl) ?_
        refine reg_now 8 (.int .i64 (num : Int)) (some 24) hQN hS (by kernel_rfl) (by kernel_rfl) (fun w => by kernel_rfl) ?_
        refine reg_now 9 (.int .i64 (IntKind.i64.wrap ((first : Int) + (num : Int)))) (some 25) hQN hS (by kernel_rfl) (by kernel_rfl) (fun w => by kernel_rfl) ?_
        rw [show IntKind.i64.wrap ((first : Int) + (num : Int)) = ((first + num : Nat) : Int) from (IntWalk.i64_in _ (by omega)).trans (by omega)]
        refine reg_now 10 (.int .i64 (i : Int)) (some 26) hQN hS (by kernel_rfl) (by kernel_rfl) (fun w => by kernel_rfl) ?_
        refine reg_now 11 (.int .i64 (IntKind.i64.wrap (((first + num : Nat) : Int) + (i : Int)))) (some 27) hQN hS (by kernel_rfl) (by kernel_rfl) (fun w => by kernel_rfl) ?_
        rw [show IntKind.i64.wrap (((first + num : Nat) : Int) + (i : Int)) = ((first + num + i : Nat) : Int) from (IntWalk.i64_in _ (by omega)).trans (by omega)]
        refine reg_nowIf 12 (.agg (ints .u8 b).toArray) (some 28) hQN hS (by kernel_rfl) (by kernel_rfl) (fun w' hw => exec_load_mid 91 (.tmp 8) (by kernel_rfl) q 0 (by kernel_rfl) (ints .u8 b) _ hw.q.whole Tryd.underlying91 rfl IS.out) ?_
        refine reg_call 13 91 #[.pointer (some ⟨d, 0, none⟩), .int .i64 ((first + num + i : Nat) : Int), .agg (ints .u8 b).toArray] (some 29) _ (by kernel_rfl) (by kernel_rfl) (by kernel_rfl) (write_ok d sz (first + num + i) F1 _ dur (pend ++ wrsAt (first + num) bl i) lf b _ (D2.out.below (Below.refl _ _).drew) (by omega) GL.out hl0 hlm2 (by rw [List.length_append, wrsAt_length]; omega)) ?_
        rintro e w3 ⟨rfl, F3, hd3, hs3⟩
        refine ⟨_, rfl, ⟨hs3.blk hS.a AF.out, hs3.blk hS.q QF.out⟩, ?_⟩
        refine reg_now 14 (.bool false) (some 30) hQN ⟨hs3.blk hS.a AF.out, hs3.blk hS.q QF.out⟩ (by kernel_rfl) (by kernel_rfl) (fun w => by kernel_rfl) ?_
        refine reg_done (by kernel_rfl) (hN _ _ ?_)
        have LE3 : Hid (left < 0 ∨ ((i + 1 : Nat) : Int) ≤ left) := by
          have h1 := hlf.out
          have h2 := hle.out
          unfold Hid
          unfold leftK at h1
          split at h1 <;> omega
        have D3 : Hid (Dk w3 F3 d sz (putsK seen (first + num) bl (i + 1)) dur (pend ++ wrsAt (first + num) bl (i + 1)) (leftK left (i + 1))) := by
          have h1 := hlf.out
          have h2 := hle.out
          unfold Hid
          rw [putsK, wrsAt, hb.out, ← List.append_assoc]
          have e : leftK left (i + 1) = if 0 < lf then lf - 1 else lf := by
            unfold leftK at h1 ⊢
            split at h1
            · rw [if_pos (by omega), if_neg (by omega)]; exact h1
            · rw [if_neg (by omega), if_pos (by omega)]; omega
          rw [e]
          exact hd3
        have ST3 : Hid (Step F w F3 w3) := ST2.out.trans (Step.trans (Step.of_below (Below.refl _ _).drew (Nat.le_refl _)) hs3)
        clear hQN hN hd3 hs3 hS D2 X2 ST2 Q2
        generalize hact : Act.put _ (some 30) _ = act
        simp only [Act.put, List.setIfInBounds_toArray, List.set_cons_succ, List.set_cons_zero] at hact
        subst hact
        go_wp2
        exact ⟨⟨i + 1, F3, by omega, by go_num, LE3, D3.out, ST3.out⟩, by simp [intOf]; omega⟩
    · have r1 : ¬ (i : Int) < (k : Int) := by omega
      obtain rfl : i = k := by omega
      go_wp2
      go_ret
      have DN : doneN left i = i := by have := hle.out; unfold doneN; split <;> omega
      rw [DN, decide_eq_true rfl]
      exact ⟨rfl, F1, DK.out, ST.out⟩
end Go.Proofs.YtngpmilojfbpmaaDoor
