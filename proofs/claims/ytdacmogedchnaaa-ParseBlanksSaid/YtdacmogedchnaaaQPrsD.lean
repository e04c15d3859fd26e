/- accept, expect, name, number, numberTo; the kinds of declarations; what begins an atom. -/
import Derived.Test.YtdacmogedchnaaaQGenT
import Derived.Test.YtdacmogedchnaaaQPrsC
import Derived.Test.YtdacmogedchnaaaQTrmQ
namespace Go.Proofs.Ytdacmogedchnaaa
open Go Go.RowKit
set_option maxRecDepth 100000
def NmsAt (w : World) (v : Value) (l : List (List UInt8)) : Prop := ∃ a c, v = .slice a l.length c ∧ (0 < l.length → ∃ b o, a = some ⟨b, o, none⟩ ∧ b < w.heap.size ∧ w.rangeAt b o (l.map strT))
theorem NmsAt.slice {w : World} {v : Value} {l : List (List UInt8)} (h : NmsAt w v l) : ∃ a c, v = .slice a l.length c := by obtain ⟨a, c, h1, -⟩ := h; exact ⟨a, c, h1⟩
theorem NmsAt.get {w : World} {a : Option Addr} {n c : Nat} {l : List (List UInt8)} (h : NmsAt w (.slice a n c) l) (hn : l.length = n) {i : Nat} (hi : i < n) : ∃ x b o, l[i]? = some x ∧ a = some ⟨b, o, none⟩ ∧ b < w.heap.size ∧ w.cell? ⟨b, o + i, none⟩ = some (strT x) := by
 obtain ⟨a', c', h1, h2⟩ := h
 cases h1
 obtain ⟨b, o, h3, h4, h5⟩ := h2 (by omega)
 obtain ⟨x, hx⟩ : ∃ x, l[i]? = some x := ⟨_, List.getElem?_eq_getElem (by omega)⟩
 exact ⟨x, b, o, hx, h3, h4, StrsAt.cell h5 hx⟩
theorem NmsAt.of {w : World} {b o c : Nat} {l : List (List UInt8)} (hb : b < w.heap.size) (h : w.rangeAt b o (l.map strT)) : NmsAt w (.slice (some ⟨b, o, none⟩) l.length c) l := ⟨_, _, rfl, fun _ => ⟨b, o, rfl, hb, h⟩⟩
/-- Where a name stands first, -1 where it does not. -/
def idxFrom (s : List UInt8) (i : Nat) : List (List UInt8) → Int
 | [] => -1
 | x :: xs => if s = x then (i : Int) else idxFrom s (i + 1) xs
theorem idx_none {s : List UInt8} : ∀ (l : List (List UInt8)) (j : Nat), s ∉ l → idxFrom s j l = -1
 | [], _, _ => rfl
 | x :: l, j, hn => by
  rw [List.mem_cons, not_or] at hn
  rw [idxFrom, if_neg hn.1, idx_none l (j + 1) hn.2]
set_option maxHeartbeats 4000000 in
theorem index_walk (l : List (List UInt8)) (s : List UInt8) (v : Value) (w : World) (h : NmsAt w v l) (hl : l.length ≤ 2000000000000) : Calls Try.prog 74 #[v, strT s] w fun e w' => e = .returned (.int .i64 (idxFrom s 0 l)) ∧ w' = w := by
 obtain ⟨na, nc, rfl⟩ := h.slice
 obtain ⟨M, hM⟩ : ∃ M, Hid (l.length = M) := ⟨_, rfl⟩
 rw [hM.out] at h hl ⊢
 have HN := Lib.hid h
 clear h
 go_enter Try.func74, Try.ntmps74
 go_upto_region 0 with (fail)
 refine lbeg (opsOf Try.f74 0) ?_
 refine lnow 0 (.int .i64 0) (some 4) ?_
 refine ldn 1 ?_
 generalize hact : Act.put _ (some 4) _ = act
 simp only [Act.put, sA, sC, sZ] at hact
 subst hact
 go_upto_region 1 with (fail)
 refine lbeg (opsOf Try.f74 1) ?_
 refine lnow 0 (.slice na M nc) (some 6) ?_
 refine lnow 1 (.int .i64 (M : Int)) (some 7) ?_
 refine lnow 2 (.int .i64 0) (some 8) ?_
 refine ldn 3 ?_
 generalize hact : Act.put _ (some 8) _ = act
 simp only [Act.put, sA, sC, sZ] at hact
 subst hact
 go_wp2
 go_loop [8] (fun iv => ∃ i : Nat, i ≤ M ∧ iv = .int .i64 (i : Int) ∧ Hid (idxFrom s 0 l = idxFrom s i (l.drop i))) (fun iv => M - (intOf iv).toNat)
 case atStart => exact ⟨0, Nat.zero_le _, rfl, by rw [Hid]; rfl⟩
 case round =>
  obtain ⟨i, hi, rfl, HI⟩ := hrel
  by_cases hlt : i < M
  rotate_left
  ·skip
   have rlt : ¬ (i : Int) < (M : Int) := by omega
   have FIN : Hid (idxFrom s 0 l = -1) := by have h := HI.out; rw [List.drop_eq_nil_of_le (by have := hM.out; omega)] at h; exact h
   go_upto_region 7 with (fail)
   refine lbeg (opsOf Try.f74 7) ?_
   refine lnow 0 (.int .i64 (-1)) (some 4) ?_
   refine ldn 1 ?_
   generalize hact : Act.put _ (some 4) _ = act
   simp only [Act.put, sA, sC, sZ] at hact
   subst hact
   go_wp2
   go_ret
   exact ⟨by rw [FIN.out]; rfl, rfl⟩
  have rlt : (i : Int) < (M : Int) := by omega
  obtain ⟨x, pb, po, hx, rfl, -, hc⟩ := HN.out.get hM.out hlt
  have DR : l.drop i = x :: l.drop (i + 1) := by rw [List.drop_eq_getElem?_toList_append, hx]; rfl
  have HI2 := HI.out
  rw [DR, idxFrom] at HI2
  have HC := Lib.hid hc
  clear hc HI DR
  go_upto_region 3 with (fail)
  refine lbeg (opsOf Try.f74 3) ?_
  refine lnow 0 (.int .i64 (i : Int)) (some 10) ?_
  refine lnow 1 (.int .i64 (i : Int)) (some 5) ?_
  refine ldn 2 ?_
  generalize hact : Act.put _ (some 5) _ = act
  simp only [Act.put, sA, sC, sZ] at hact
  subst hact
  go_upto_region 4 with (fail)
  refine lbeg (opsOf Try.f74 4) ?_
  refine lnow 0 (strT s) (some 11) ?_
  refine lnow 1 (.slice (some ⟨pb, po, none⟩) M nc) (some 12) ?_
  refine lnow 2 (.int .i64 (i : Int)) (some 13) ?_
  refine lix 3 (.pointer (some ⟨pb, po + i, none⟩)) (some 14) 42 12 13 (run_at_str pb po M nc i hlt _) ?_
  refine lcl 4 (strT x) (some 15) 9 14 pb (po + i) HC.out Try.underlying9 ?_
  refine lnowP 5 (.bool (decide (s = x))) (some 16) (exec_streqT 9 9 (.tmp 11) (.tmp 15) (by kernel_rfl) s x (by kernel_rfl) (by kernel_rfl) (fun _ => rfl)) ?_
  by_cases he : s = x
  ·skip
   rw [show decide (s = x) = true from decide_eq_true he]
   rw [if_pos he] at HI2
   have HI3 := Lib.hid HI2
   clear HI2 he
   refine ldn 6 ?_
   generalize hact : Act.put _ (some 16) _ = act
   simp only [Act.put, sA, sC, sZ] at hact
   subst hact
   go_upto_region 5 with (fail)
   refine lbeg (opsOf Try.f74 5) ?_
   refine lnow 0 (.int .i64 (i : Int)) (some 17) ?_
   refine lnow 1 (.int .i64 (i : Int)) (some 4) ?_
   refine ldn 2 ?_
   generalize hact : Act.put _ (some 4) _ = act
   simp only [Act.put, sA, sC, sZ] at hact
   subst hact
   go_wp2
   go_ret
   exact ⟨by rw [HI3.out]; rfl, rfl⟩
  rw [show decide (s = x) = false from decide_eq_false he]
  rw [if_neg he] at HI2
  have HI3 := Lib.hid HI2
  clear HI2 he
  refine ldn 6 ?_
  generalize hact : Act.put _ (some 16) _ = act
  simp only [Act.put, sA, sC, sZ] at hact
  subst hact
  have bl := hl
  go_wp2
  go_round
  case rel => exact ⟨i + 1, by omega, by go_num, HI3⟩
  case measure => simp [intOf]; omega
set_option maxHeartbeats 4000000 in
theorem contains_walk (l : List (List UInt8)) (s : List UInt8) (v : Value) (w : World) (h : NmsAt w v l) (hl : l.length ≤ 2000000000000) : Calls Try.prog 71 #[v, strT s] w fun e w' => e = .returned (.bool (decide (idxFrom s 0 l ≥ 0))) ∧ w' = w := by
 have IW := index_walk l s v w h hl
 obtain ⟨z, hz⟩ : ∃ z, Hid (idxFrom s 0 l = z) := ⟨_, rfl⟩
 rw [hz.out] at IW ⊢
 go_enter Try.func71, Try.ntmps71
 go_upto_region 0 with (fail)
 refine lbeg (opsOf Try.f71 0) ?_
 refine lnow 0 (.bool false) (some 4) ?_
 refine ldn 1 ?_
 generalize hact : Act.put _ (some 4) _ = act
 simp only [Act.put, sA, sC, sZ] at hact
 subst hact
 go_upto_region 1 with (fail)
 refine lbeg (opsOf Try.f71 1) ?_
 refine lnow 0 (v) (some 5) ?_
 refine lnow 1 (strT s) (some 6) ?_
 refine lcal 2 74 #[v, strT s] (some 7) _ (IW) ?_
 rintro e w' ⟨rfl, hw'⟩
 obtain rfl := hw'.symm
 refine ⟨_, rfl, ?_⟩
 refine lnow 3 (.bool (decide (z ≥ 0))) (some 8) ?_
 refine lnow 4 (.bool (decide (z ≥ 0))) (some 4) ?_
 refine ldn 5 ?_
 generalize hact : Act.put _ (some 4) _ = act
 simp only [Act.put, sA, sC, sZ] at hact
 subst hact
 go_wp2
 go_ret
 exact ⟨rfl, rfl⟩
theorem wordB_nil : wordB [] = false := by decide
theorem numO_nil : numO [] = none := rfl
theorem accept_yes (K : Nat → Nat) (q : Nat) (w : World) (l : List (List UInt8)) (h : PAt K q w l) (s : List UInt8) (hs : nx l = s) (h0 : s ≠ []) : Calls Try.prog 50 #[.pointer (some ⟨q, 0, none⟩), sT s] w fun e w' => e = .returned (.bool true) ∧ Bel [q] w.heap.size w w' ∧ PAt K q w' l.tail := by
 obtain ⟨s', r, rfl⟩ := h.nx_ne (by rw [hs]; exact h0)
 obtain rfl : s' = s := hs
 have H := Lib.hid h
 clear h
 go_enter Try.func50, Try.ntmps50
 go_upto_region 0 with (fail)
 refine lbeg (opsOf Try.f50 0) ?_
 refine lnow 0 (.bool false) (some 4) ?_
 refine ldn 1 ?_
 generalize hact : Act.put _ (some 4) _ = act
 simp only [Act.put, sA, sC, sZ] at hact
 subst hact
 go_upto_region 1 with (fail)
 refine lbeg (opsOf Try.f50 1) ?_
 refine lnow 0 (.pointer (some ⟨q, 0, none⟩)) (some 5) ?_
 refine lcal 1 39 #[.pointer (some ⟨q, 0, none⟩)] (some 6) _ (text_walk K q w (s' :: r) H.out) ?_
 rintro e w' ⟨rfl, hw'⟩
 obtain rfl := hw'.symm
 refine ⟨_, rfl, ?_⟩
 rw [nx_cons]
 refine lnow 2 (sT s') (some 7) ?_
 refine lnowP 3 (.bool (!decide (s' = s'))) (some 8) (exec_sNe 9 9 (.tmp 6) (.tmp 7) (by kernel_rfl) (s') s' (by kernel_rfl) (by kernel_rfl) (fun _ => rfl)) ?_
 rw [decide_eq_true rfl, show (!true) = false from rfl]
 refine ldn 4 ?_
 generalize hact : Act.put _ (some 8) _ = act
 simp only [Act.put, sA, sC, sZ] at hact
 subst hact
 go_upto_region 3 with (fail)
 refine lbeg (opsOf Try.f50 3) ?_
 refine lnow 0 (.pointer (some ⟨q, 0, none⟩)) (some 9) ?_
 refine lcal 1 48 #[.pointer (some ⟨q, 0, none⟩)] (some 10) _ (take_walk K q w s' r H.out) ?_
 rintro e w1 ⟨rfl, hp, hu⟩
 refine ⟨_, rfl, ?_⟩
 have POST : Hid (Bel [q] w.heap.size w w1 ∧ PAt K q w1 r) := ⟨(Bel.refl _ _ _).upd hu (.inl (by simp)) (Nat.le_refl _), hp⟩
 clear hp hu
 refine ldn 2 ?_
 generalize hact : Act.put _ (some 10) _ = act
 simp only [Act.put, sA, sC, sZ] at hact
 subst hact
 go_upto_region 4 with (fail)
 refine lbeg (opsOf Try.f50 4) ?_
 refine lnow 0 (.bool true) (some 4) ?_
 refine ldn 1 ?_
 generalize hact : Act.put _ (some 4) _ = act
 simp only [Act.put, sA, sC, sZ] at hact
 subst hact
 go_wp2
 go_ret
 exact ⟨rfl, POST.out.1, POST.out.2⟩
theorem accept_no (K : Nat → Nat) (q : Nat) (w : World) (l : List (List UInt8)) (h : PAt K q w l) (s : List UInt8) (hs : ¬ nx l = s) : Calls Try.prog 50 #[.pointer (some ⟨q, 0, none⟩), sT s] w fun e w' => e = .returned (.bool false) ∧ w' = w := by
 have H := Lib.hid h
 clear h
 go_enter Try.func50, Try.ntmps50
 go_upto_region 0 with (fail)
 refine lbeg (opsOf Try.f50 0) ?_
 refine lnow 0 (.bool false) (some 4) ?_
 refine ldn 1 ?_
 generalize hact : Act.put _ (some 4) _ = act
 simp only [Act.put, sA, sC, sZ] at hact
 subst hact
 go_upto_region 1 with (fail)
 refine lbeg (opsOf Try.f50 1) ?_
 refine lnow 0 (.pointer (some ⟨q, 0, none⟩)) (some 5) ?_
 refine lcal 1 39 #[.pointer (some ⟨q, 0, none⟩)] (some 6) _ (text_walk K q w l H.out) ?_
 rintro e w' ⟨rfl, hw'⟩
 obtain rfl := hw'.symm
 refine ⟨_, rfl, ?_⟩
 refine lnow 2 (sT s) (some 7) ?_
 refine lnowP 3 (.bool (!decide (nx l = s))) (some 8) (exec_sNe 9 9 (.tmp 6) (.tmp 7) (by kernel_rfl) (nx l) s (by kernel_rfl) (by kernel_rfl) (fun _ => rfl)) ?_
 rw [decide_eq_false hs, show (!false) = true from rfl]
 refine ldn 4 ?_
 generalize hact : Act.put _ (some 8) _ = act
 simp only [Act.put, sA, sC, sZ] at hact
 subst hact
 go_upto_region 2 with (fail)
 refine lbeg (opsOf Try.f50 2) ?_
 refine lnow 0 (.bool false) (some 4) ?_
 refine ldn 1 ?_
 generalize hact : Act.put _ (some 4) _ = act
 simp only [Act.put, sA, sC, sZ] at hact
 subst hact
 go_wp2
 go_ret
 exact ⟨rfl, rfl⟩
theorem expect_walk (K : Nat → Nat) (q : Nat) (w : World) (l : List (List UInt8)) (h : PAt K q w l) (s : List UInt8) (h0 : s ≠ []) : Calls Try.prog 52 #[.pointer (some ⟨q, 0, none⟩), sT s] w (PP K q (exP s l) RUnit w) := by
 have H := Lib.hid h
 clear h
 go_enter Try.func52, Try.ntmps52
 go_upto_region 0 with (fail)
 refine lbeg (opsOf Try.f52 0) ?_
 refine lnow 0 (.pointer (some ⟨q, 0, none⟩)) (some 4) ?_
 refine lnow 1 (.pointer (some ⟨q, 0, none⟩)) (some 5) ?_
 refine lnow 2 (sT s) (some 6) ?_
 by_cases hs : nx l = s
 ·skip
  refine lcal 3 50 #[.pointer (some ⟨q, 0, none⟩), sT s] (some 7) _ (accept_yes K q w l H.out s hs h0) ?_
  rintro e w1 ⟨rfl, hb, hp⟩
  refine ⟨_, rfl, ?_⟩
  refine lcal 4 22 #[.pointer (some ⟨q, 0, none⟩), .bool true] (some 8) _ (need_yesP q w1) ?_
  rintro e w' ⟨rfl, hw'⟩
  obtain rfl := hw'.symm
  refine ⟨_, rfl, ?_⟩
  have POST : Hid (PP K q (exP s l) RUnit w (.returned (.tuple #[])) w1) := PP.yes hb (by rw [exP, if_pos hs]) rfl hp
  clear hb hp
  refine ldn 5 ?_
  generalize hact : Act.put _ (some 8) _ = act
  simp only [Act.put, sA, sC, sZ] at hact
  subst hact
  go_wp2
  go_end0
  exact POST.out
 refine lcal 3 50 #[.pointer (some ⟨q, 0, none⟩), sT s] (some 7) _ (accept_no K q w l H.out s hs) ?_
 rintro e w' ⟨rfl, hw'⟩
 obtain rfl := hw'.symm
 refine ⟨_, rfl, ?_⟩
 refine lin_callP 4 22 #[.pointer (some ⟨q, 0, none⟩), .bool false] (some 8) _ (by kernel_rfl) (by kernel_rfl) (by kernel_rfl) (need_noP K q w l H.out) ?_
 rintro e w' ⟨rfl, hw'⟩
 obtain rfl := hw'.symm
 exact .inr ⟨_, rfl, rfl, PP.no (Bel.refl _ _ _) (by rw [exP, if_neg hs])⟩
set_option maxHeartbeats 4000000 in
theorem name_walk (K : Nat → Nat) (q : Nat) (w : World) (l : List (List UInt8)) (h : PAt K q w l) : Calls Try.prog 49 #[.pointer (some ⟨q, 0, none⟩)] w (PP K q (namP l) RTxt w) := by
 have H := Lib.hid h
 have NL := h.nx_len
 clear h
 go_enter Try.func49, Try.ntmps49
 go_upto_region 0 with (fail)
 refine lbeg (opsOf Try.f49 0) ?_
 refine lnow 0 (sT []) (some 2) ?_
 refine ldn 1 ?_
 generalize hact : Act.put _ (some 2) _ = act
 simp only [Act.put, sA, sC, sZ] at hact
 subst hact
 go_upto_region 1 with (fail)
 refine lbeg (opsOf Try.f49 1) ?_
 refine lnow 0 (.pointer (some ⟨q, 0, none⟩)) (some 3) ?_
 refine lnow 1 (.pointer (some ⟨q, 0, none⟩)) (some 4) ?_
 refine lcal 2 39 #[.pointer (some ⟨q, 0, none⟩)] (some 5) _ (text_walk K q w l H.out) ?_
 rintro e w' ⟨rfl, hw'⟩
 obtain rfl := hw'.symm
 refine ⟨_, rfl, ?_⟩
 refine lcal 3 59 #[sT (nx l)] (some 6) _ (word_walk (nx l) (by omega) w) ?_
 rintro e w' ⟨rfl, hw'⟩
 obtain rfl := hw'.symm
 refine ⟨_, rfl, ?_⟩
 by_cases hw : wordB (nx l) = true
 rotate_left
 ·skip
  rw [show wordB (nx l) = false from Bool.eq_false_iff.2 hw]
  refine lin_callP 4 22 #[.pointer (some ⟨q, 0, none⟩), .bool false] (some 7) _ (by kernel_rfl) (by kernel_rfl) (by kernel_rfl) (need_noP K q w l H.out) ?_
  rintro e w' ⟨rfl, hw'⟩
  obtain rfl := hw'.symm
  exact .inr ⟨_, rfl, rfl, PP.no (Bel.refl _ _ _) (by rw [namP, if_neg hw])⟩
 rw [hw]
 refine lcal 4 22 #[.pointer (some ⟨q, 0, none⟩), .bool true] (some 7) _ (need_yesP q w) ?_
 rintro e w' ⟨rfl, hw'⟩
 obtain rfl := hw'.symm
 refine ⟨_, rfl, ?_⟩
 refine ldn 5 ?_
 generalize hact : Act.put _ (some 7) _ = act
 simp only [Act.put, sA, sC, sZ] at hact
 subst hact
 obtain ⟨s, r, rfl⟩ := H.out.nx_ne (fun h0 => by rw [h0, wordB_nil] at hw; cases hw)
 rw [nx_cons] at hw
 go_upto_region 2 with (fail)
 refine lbeg (opsOf Try.f49 2) ?_
 refine lnow 0 (.pointer (some ⟨q, 0, none⟩)) (some 8) ?_
 refine lcal 1 48 #[.pointer (some ⟨q, 0, none⟩)] (some 9) _ (take_walk K q w s r H.out) ?_
 rintro e w1 ⟨rfl, hp, hu⟩
 refine ⟨_, rfl, ?_⟩
 have POST : Hid (PP K q (namP (s :: r)) RTxt w (.returned (sT s)) w1) := PP.yes ((Bel.refl _ _ _).upd hu (.inl (by simp)) (Nat.le_refl _)) (by rw [namP, nx_cons, if_pos hw]; rfl) rfl hp
 clear hp hu
 refine lnow 2 (sT s) (some 2) ?_
 refine ldn 3 ?_
 generalize hact : Act.put _ (some 2) _ = act
 simp only [Act.put, sA, sC, sZ] at hact
 subst hact
 go_wp2
 go_ret
 exact POST.out
set_option maxHeartbeats 4000000 in
theorem number_walk (K : Nat → Nat) (q : Nat) (w : World) (l : List (List UInt8)) (h : PAt K q w l) : Calls Try.prog 60 #[.pointer (some ⟨q, 0, none⟩)] w (PP K q (numQ l) RNat w) := by
 have H := Lib.hid h
 clear h
 go_enter Try.func60, Try.ntmps60
 go_upto_region 0 with (fail)
 refine lbeg (opsOf Try.f60 0) ?_
 refine lnow 0 (.int .i64 0) (some 2) ?_
 refine ldn 1 ?_
 generalize hact : Act.put _ (some 2) _ = act
 simp only [Act.put, sA, sC, sZ] at hact
 subst hact
 go_upto_region 1 with (fail)
 refine lbeg (opsOf Try.f60 1) ?_
 refine lnow 0 (.pointer (some ⟨q, 0, none⟩)) (some 6) ?_
 refine lcal 1 39 #[.pointer (some ⟨q, 0, none⟩)] (some 7) _ (text_walk K q w l H.out) ?_
 rintro e w' ⟨rfl, hw'⟩
 obtain rfl := hw'.symm
 refine ⟨_, rfl, ?_⟩
 refine lcal 2 44 #[sT (nx l)] (some 8) _ (xnumber_walk (nx l) w) ?_
 rintro e w' ⟨rfl, hw'⟩
 obtain rfl := hw'.symm
 refine ⟨_, rfl, ?_⟩
 obtain ⟨oo, hoo⟩ : ∃ oo, Hid (numO (nx l) = oo) := ⟨_, rfl⟩
 rw [hoo.out]
 refine lnow 3 (.tuple #[.int .i64 ((oo.getD 0 : Nat) : Int), .bool oo.isSome]) (some 5) ?_
 refine lnow 4 (.int .i64 ((oo.getD 0 : Nat) : Int)) (some 9) ?_
 refine lnow 5 (.bool oo.isSome) (some 10) ?_
 refine lnow 6 (.int .i64 ((oo.getD 0 : Nat) : Int)) (some 3) ?_
 refine lnow 7 (.bool oo.isSome) (some 4) ?_
 refine ldn 8 ?_
 generalize hact : Act.put _ (some 4) _ = act
 simp only [Act.put, sA, sC, sZ] at hact
 subst hact
 cases oo with
 | none =>
  go_upto_region 2 with (fail)
  refine lbeg (opsOf Try.f60 2) ?_
  refine lnow 0 (.pointer (some ⟨q, 0, none⟩)) (some 11) ?_
  refine lnow 1 (.bool false) (some 12) ?_
  refine lin_callP 2 22 #[.pointer (some ⟨q, 0, none⟩), .bool false] (some 13) _ (by kernel_rfl) (by kernel_rfl) (by kernel_rfl) (need_noP K q w l H.out) ?_
  rintro e w' ⟨rfl, hw'⟩
  obtain rfl := hw'.symm
  exact .inr ⟨_, rfl, rfl, PP.no (Bel.refl _ _ _) (by rw [numQ, hoo.out])⟩
 | some n =>
  go_upto_region 2 with (fail)
  refine lbeg (opsOf Try.f60 2) ?_
  refine lnow 0 (.pointer (some ⟨q, 0, none⟩)) (some 11) ?_
  refine lnow 1 (.bool true) (some 12) ?_
  refine lcal 2 22 #[.pointer (some ⟨q, 0, none⟩), .bool true] (some 13) _ (need_yesP q w) ?_
  rintro e w' ⟨rfl, hw'⟩
  obtain rfl := hw'.symm
  refine ⟨_, rfl, ?_⟩
  refine ldn 3 ?_
  generalize hact : Act.put _ (some 13) _ = act
  simp only [Act.put, sA, sC, sZ] at hact
  subst hact
  obtain ⟨s, r, rfl⟩ := H.out.nx_ne (fun h0 => by have := hoo.out; rw [h0, numO_nil] at this; cases this)
  go_upto_region 3 with (fail)
  refine lbeg (opsOf Try.f60 3) ?_
  refine lnow 0 (.pointer (some ⟨q, 0, none⟩)) (some 14) ?_
  refine lcal 1 48 #[.pointer (some ⟨q, 0, none⟩)] (some 15) _ (take_walk K q w s r H.out) ?_
  rintro e w1 ⟨rfl, hp, hu⟩
  refine ⟨_, rfl, ?_⟩
  have POST : Hid (PP K q (numQ (s :: r)) RNat w (.returned (.int .i64 (n : Int))) w1) := PP.yes ((Bel.refl _ _ _).upd hu (.inl (by simp)) (Nat.le_refl _)) (by rw [numQ, hoo.out]; rfl) rfl hp
  clear hp hu
  refine ldn 2 ?_
  generalize hact : Act.put _ (some 15) _ = act
  simp only [Act.put, sA, sC, sZ] at hact
  subst hact
  go_upto_region 4 with (fail)
  refine lbeg (opsOf Try.f60 4) ?_
  refine lnow 0 (.int .i64 (n : Int)) (some 16) ?_
  refine lnow 1 (.int .i64 (n : Int)) (some 2) ?_
  refine ldn 2 ?_
  generalize hact : Act.put _ (some 2) _ = act
  simp only [Act.put, sA, sC, sZ] at hact
  subst hact
  go_wp2
  go_ret
  exact POST.out
set_option maxHeartbeats 4000000 in
theorem numto_walk (K : Nat → Nat) (q : Nat) (w : World) (l : List (List UInt8)) (h : PAt K q w l) (m : Nat) : Calls Try.prog 51 #[.pointer (some ⟨q, 0, none⟩), .int .i64 (m : Int)] w (PP K q (numTo m l) RNat w) := by
 have H := Lib.hid h
 have NW := number_walk K q w l h
 clear h
 go_enter Try.func51, Try.ntmps51
 go_upto_region 0 with (fail)
 refine lbeg (opsOf Try.f51 0) ?_
 refine lnow 0 (.int .i64 0) (some 4) ?_
 refine ldn 1 ?_
 generalize hact : Act.put _ (some 4) _ = act
 simp only [Act.put, sA, sC, sZ] at hact
 subst hact
 go_upto_region 1 with (fail)
 refine lbeg (opsOf Try.f51 1) ?_
 refine lnow 0 (.pointer (some ⟨q, 0, none⟩)) (some 8) ?_
 refine lcal 1 39 #[.pointer (some ⟨q, 0, none⟩)] (some 9) _ (text_walk K q w l H.out) ?_
 rintro e w' ⟨rfl, hw'⟩
 obtain rfl := hw'.symm
 refine ⟨_, rfl, ?_⟩
 refine lcal 2 44 #[sT (nx l)] (some 10) _ (xnumber_walk (nx l) w) ?_
 rintro e w' ⟨rfl, hw'⟩
 obtain rfl := hw'.symm
 refine ⟨_, rfl, ?_⟩
 obtain ⟨oo, hoo⟩ : ∃ oo, Hid (numO (nx l) = oo) := ⟨_, rfl⟩
 rw [hoo.out]
 refine lnow 3 (.tuple #[.int .i64 ((oo.getD 0 : Nat) : Int), .bool oo.isSome]) (some 7) ?_
 refine lnow 4 (.int .i64 ((oo.getD 0 : Nat) : Int)) (some 11) ?_
 refine lnow 5 (.bool oo.isSome) (some 12) ?_
 refine lnow 6 (.int .i64 ((oo.getD 0 : Nat) : Int)) (some 5) ?_
 refine lnow 7 (.bool oo.isSome) (some 6) ?_
 refine ldn 8 ?_
 generalize hact : Act.put _ (some 6) _ = act
 simp only [Act.put, sA, sC, sZ] at hact
 subst hact
 by_cases hm : oo.getD 0 ≤ m
 rotate_left
 ·skip
  obtain ⟨n, rfl⟩ : ∃ n, oo = some n := by cases oo with | none => exact absurd (Nat.zero_le _) hm | some n => exact ⟨n, rfl⟩
  go_upto_region 2 with (fail)
  refine lbeg (opsOf Try.f51 2) ?_
  refine lnow 0 (.pointer (some ⟨q, 0, none⟩)) (some 13) ?_
  refine lnow 1 (.int .i64 (n : Int)) (some 14) ?_
  refine lnow 2 (.int .i64 (m : Int)) (some 15) ?_
  refine lnow 3 (.bool (decide ((n : Int) ≤ (m : Int)))) (some 16) ?_
  rw [decide_eq_false (by simp at hm; omega : ¬ (n : Int) ≤ (m : Int))]
  refine lin_callP 4 22 #[.pointer (some ⟨q, 0, none⟩), .bool false] (some 17) _ (by kernel_rfl) (by kernel_rfl) (by kernel_rfl) (need_noP K q w l H.out) ?_
  rintro e w' ⟨rfl, hw'⟩
  obtain rfl := hw'.symm
  exact .inr ⟨_, rfl, rfl, PP.no (Bel.refl _ _ _) (by rw [numTo, hoo.out]; dsimp only; rw [if_neg (by simpa using hm)])⟩
 go_upto_region 2 with (fail)
 refine lbeg (opsOf Try.f51 2) ?_
 refine lnow 0 (.pointer (some ⟨q, 0, none⟩)) (some 13) ?_
 refine lnow 1 (.int .i64 ((oo.getD 0 : Nat) : Int)) (some 14) ?_
 refine lnow 2 (.int .i64 (m : Int)) (some 15) ?_
 refine lnow 3 (.bool (decide (((oo.getD 0 : Nat) : Int) ≤ (m : Int)))) (some 16) ?_
 rw [decide_eq_true (by omega : ((oo.getD 0 : Nat) : Int) ≤ (m : Int))]
 refine lcal 4 22 #[.pointer (some ⟨q, 0, none⟩), .bool true] (some 17) _ (need_yesP q w) ?_
 rintro e w' ⟨rfl, hw'⟩
 obtain rfl := hw'.symm
 refine ⟨_, rfl, ?_⟩
 refine ldn 5 ?_
 generalize hact : Act.put _ (some 17) _ = act
 simp only [Act.put, sA, sC, sZ] at hact
 subst hact
 have EN : Hid (numTo m l = numQ l) := by rw [Hid, numTo, numQ, hoo.out]; cases oo with | none => rfl | some n => (dsimp only; rw [if_pos (by simpa using hm)])
 obtain ⟨ox, hox⟩ : ∃ ox, Hid (numQ l = ox) := ⟨_, rfl⟩
 rw [hox.out] at NW EN
 go_upto_region 3 with (fail)
 refine lbeg (opsOf Try.f51 3) ?_
 refine lnow 0 (.pointer (some ⟨q, 0, none⟩)) (some 18) ?_
 cases ox with
 | err p c =>
  refine lin_callP 1 60 #[.pointer (some ⟨q, 0, none⟩)] (some 19) _ (by kernel_rfl) (by kernel_rfl) (by kernel_rfl) (NW) ?_
  rintro e w' ⟨hb, hr⟩
  obtain rfl : e = fellP _ _ := hr
  exact .inr ⟨_, rfl, rfl, PP.no hb EN.out.symm⟩
 | ok n r =>
  refine lin_callP 1 60 #[.pointer (some ⟨q, 0, none⟩)] (some 19) _ (by kernel_rfl) (by kernel_rfl) (by kernel_rfl) (NW) ?_
  rintro e w1 ⟨hb, v, rfl, hv, hr⟩
  obtain rfl : v = .int .i64 (n : Int) := hv
  refine .inl ⟨_, rfl, ?_⟩
  have POST : Hid (PP K q (numTo m l) RNat w (.returned (.int .i64 (n : Int))) w1) := PP.yes hb EN.out.symm rfl hr
  clear hb hr
  refine lnow 2 (.int .i64 (n : Int)) (some 4) ?_
  refine ldn 3 ?_
  generalize hact : Act.put _ (some 4) _ = act
  simp only [Act.put, sA, sC, sZ] at hact
  subst hact
  go_wp2
  go_ret
  exact POST.out
set_option maxHeartbeats 4000000 in
theorem declkind_walk (s : List UInt8) (w : World) : Calls Try.prog 47 #[sT s] w fun e w' => e = .returned (.int .i64 (kindOf s : Int)) ∧ w' = w := by
 go_enter Try.func47, Try.ntmps47
 go_upto_region 0 with (fail)
 refine lbeg (opsOf Try.f47 0) ?_
 refine lnow 0 (.int .i64 0) (some 2) ?_
 refine ldn 1 ?_
 generalize hact : Act.put _ (some 2) _ = act
 simp only [Act.put, sA, sC, sZ] at hact
 subst hact
 go_upto_region 1 with (fail)
 refine lbeg (opsOf Try.f47 1) ?_
 refine lnow 0 (sT s) (some 3) ?_
 refine ldn 1 ?_
 generalize hact : Act.put _ (some 3) _ = act
 simp only [Act.put, sA, sC, sZ] at hact
 subst hact
 by_cases h0 : s = [97, 120, 105, 111, 109]
 ·skip
  go_upto_region 2 with (fail)
  refine lbeg (opsOf Try.f47 2) ?_
  refine lnowP 0 (.bool (decide (s = [97, 120, 105, 111, 109]))) (some 5) (exec_sEq 9 9 (.tmp 3) (.const (.string ⟨#[97, 120, 105, 111, 109]⟩)) (by kernel_rfl) s [97, 120, 105, 111, 109] (by kernel_rfl) (by kernel_rfl) (fun _ => rfl)) ?_
  rw [decide_eq_true h0]
  refine lnow 1 (.bool true) (some 4) ?_
  refine ldn 2 ?_
  generalize hact : Act.put _ (some 4) _ = act
  simp only [Act.put, sA, sC, sZ] at hact
  subst hact
  go_upto_region 3 with (fail)
  refine lbeg (opsOf Try.f47 3) ?_
  refine lnow 0 (.int .i64 1) (some 2) ?_
  refine ldn 1 ?_
  generalize hact : Act.put _ (some 2) _ = act
  simp only [Act.put, sA, sC, sZ] at hact
  subst hact
  go_wp2
  go_ret
  exact ⟨by rw [kindOf, if_pos h0]; rfl, rfl⟩
 go_upto_region 2 with (fail)
 refine lbeg (opsOf Try.f47 2) ?_
 refine lnowP 0 (.bool (decide (s = [97, 120, 105, 111, 109]))) (some 5) (exec_sEq 9 9 (.tmp 3) (.const (.string ⟨#[97, 120, 105, 111, 109]⟩)) (by kernel_rfl) s [97, 120, 105, 111, 109] (by kernel_rfl) (by kernel_rfl) (fun _ => rfl)) ?_
 rw [decide_eq_false h0]
 refine lnow 1 (.bool false) (some 4) ?_
 refine ldn 2 ?_
 generalize hact : Act.put _ (some 4) _ = act
 simp only [Act.put, sA, sC, sZ] at hact
 subst hact
 by_cases h1 : s = [100, 101, 102]
 ·skip
  go_upto_region 4 with (fail)
  refine lbeg (opsOf Try.f47 4) ?_
  refine lnowP 0 (.bool (decide (s = [100, 101, 102]))) (some 7) (exec_sEq 9 9 (.tmp 3) (.const (.string ⟨#[100, 101, 102]⟩)) (by kernel_rfl) s [100, 101, 102] (by kernel_rfl) (by kernel_rfl) (fun _ => rfl)) ?_
  rw [decide_eq_true h1]
  refine lnow 1 (.bool true) (some 6) ?_
  refine ldn 2 ?_
  generalize hact : Act.put _ (some 6) _ = act
  simp only [Act.put, sA, sC, sZ] at hact
  subst hact
  go_upto_region 5 with (fail)
  refine lbeg (opsOf Try.f47 5) ?_
  refine lnow 0 (.int .i64 2) (some 2) ?_
  refine ldn 1 ?_
  generalize hact : Act.put _ (some 2) _ = act
  simp only [Act.put, sA, sC, sZ] at hact
  subst hact
  go_wp2
  go_ret
  exact ⟨by rw [kindOf, if_neg h0, if_pos h1]; rfl, rfl⟩
 go_upto_region 4 with (fail)
 refine lbeg (opsOf Try.f47 4) ?_
 refine lnowP 0 (.bool (decide (s = [100, 101, 102]))) (some 7) (exec_sEq 9 9 (.tmp 3) (.const (.string ⟨#[100, 101, 102]⟩)) (by kernel_rfl) s [100, 101, 102] (by kernel_rfl) (by kernel_rfl) (fun _ => rfl)) ?_
 rw [decide_eq_false h1]
 refine lnow 1 (.bool false) (some 6) ?_
 refine ldn 2 ?_
 generalize hact : Act.put _ (some 6) _ = act
 simp only [Act.put, sA, sC, sZ] at hact
 subst hact
 by_cases h2 : s = [116, 104, 101, 111, 114, 101, 109]
 ·skip
  go_upto_region 6 with (fail)
  refine lbeg (opsOf Try.f47 6) ?_
  refine lnowP 0 (.bool (decide (s = [116, 104, 101, 111, 114, 101, 109]))) (some 9) (exec_sEq 9 9 (.tmp 3) (.const (.string ⟨#[116, 104, 101, 111, 114, 101, 109]⟩)) (by kernel_rfl) s [116, 104, 101, 111, 114, 101, 109] (by kernel_rfl) (by kernel_rfl) (fun _ => rfl)) ?_
  rw [decide_eq_true h2]
  refine lnow 1 (.bool true) (some 8) ?_
  refine ldn 2 ?_
  generalize hact : Act.put _ (some 8) _ = act
  simp only [Act.put, sA, sC, sZ] at hact
  subst hact
  go_upto_region 7 with (fail)
  refine lbeg (opsOf Try.f47 7) ?_
  refine lnow 0 (.int .i64 3) (some 2) ?_
  refine ldn 1 ?_
  generalize hact : Act.put _ (some 2) _ = act
  simp only [Act.put, sA, sC, sZ] at hact
  subst hact
  go_wp2
  go_ret
  exact ⟨by rw [kindOf, if_neg h0, if_neg h1, if_pos h2]; rfl, rfl⟩
 go_upto_region 6 with (fail)
 refine lbeg (opsOf Try.f47 6) ?_
 refine lnowP 0 (.bool (decide (s = [116, 104, 101, 111, 114, 101, 109]))) (some 9) (exec_sEq 9 9 (.tmp 3) (.const (.string ⟨#[116, 104, 101, 111, 114, 101, 109]⟩)) (by kernel_rfl) s [116, 104, 101, 111, 114, 101, 109] (by kernel_rfl) (by kernel_rfl) (fun _ => rfl)) ?_
 rw [decide_eq_false h2]
 refine lnow 1 (.bool false) (some 8) ?_
 refine ldn 2 ?_
 generalize hact : Act.put _ (some 8) _ = act
 simp only [Act.put, sA, sC, sZ] at hact
 subst hact
 by_cases h3 : s = [102, 97, 109, 105, 108, 121]
 ·skip
  go_upto_region 8 with (fail)
  refine lbeg (opsOf Try.f47 8) ?_
  refine lnowP 0 (.bool (decide (s = [102, 97, 109, 105, 108, 121]))) (some 11) (exec_sEq 9 9 (.tmp 3) (.const (.string ⟨#[102, 97, 109, 105, 108, 121]⟩)) (by kernel_rfl) s [102, 97, 109, 105, 108, 121] (by kernel_rfl) (by kernel_rfl) (fun _ => rfl)) ?_
  rw [decide_eq_true h3]
  refine lnow 1 (.bool true) (some 10) ?_
  refine ldn 2 ?_
  generalize hact : Act.put _ (some 10) _ = act
  simp only [Act.put, sA, sC, sZ] at hact
  subst hact
  go_upto_region 9 with (fail)
  refine lbeg (opsOf Try.f47 9) ?_
  refine lnow 0 (.int .i64 4) (some 2) ?_
  refine ldn 1 ?_
  generalize hact : Act.put _ (some 2) _ = act
  simp only [Act.put, sA, sC, sZ] at hact
  subst hact
  go_wp2
  go_ret
  exact ⟨by rw [kindOf, if_neg h0, if_neg h1, if_neg h2, if_pos h3]; rfl, rfl⟩
 go_upto_region 8 with (fail)
 refine lbeg (opsOf Try.f47 8) ?_
 refine lnowP 0 (.bool (decide (s = [102, 97, 109, 105, 108, 121]))) (some 11) (exec_sEq 9 9 (.tmp 3) (.const (.string ⟨#[102, 97, 109, 105, 108, 121]⟩)) (by kernel_rfl) s [102, 97, 109, 105, 108, 121] (by kernel_rfl) (by kernel_rfl) (fun _ => rfl)) ?_
 rw [decide_eq_false h3]
 refine lnow 1 (.bool false) (some 10) ?_
 refine ldn 2 ?_
 generalize hact : Act.put _ (some 10) _ = act
 simp only [Act.put, sA, sC, sZ] at hact
 subst hact
 go_upto_region 10 with (fail)
 refine lbeg (opsOf Try.f47 10) ?_
 refine lnow 0 (.int .i64 0) (some 2) ?_
 refine ldn 1 ?_
 generalize hact : Act.put _ (some 2) _ = act
 simp only [Act.put, sA, sC, sZ] at hact
 subst hact
 go_wp2
 go_ret
 exact ⟨by rw [kindOf, if_neg h0, if_neg h1, if_neg h2, if_neg h3]; rfl, rfl⟩
theorem str4 (a b c d : List UInt8) (w : World) : (Instr.buildSlice 42 4 #[(0, sT a), (1, sT b), (2, sT c), (3, sT d)]).run Try.prog w = .ok (.slice (some ⟨w.heap.size, 0, none⟩) 4 4) (w.alloc (.cells [sT a, sT b, sT c, sT d].toArray 9)) := by kernel_rfl
theorem nms4 {w w' : World} {q : Nat} {xs : List (List UInt8)} (hb : Blk w' q 9 (xs.map sT)) : NmsAt w' (.slice (some ⟨q, 0, none⟩) xs.length xs.length) xs := NmsAt.of hb.lt (fun j u hu => by rw [Nat.zero_add]; exact hb.cell hu)
theorem idx_mem {s : List UInt8} : ∀ (l : List (List UInt8)) (j : Nat), s ∈ l → 0 ≤ idxFrom s j l
 | [], _, h => by cases h
 | x :: l, j, h => by
  rw [idxFrom]
  by_cases e : s = x
  ·rw [if_pos e]; exact Int.natCast_nonneg _
  ·rw [if_neg e]; exact idx_mem l (j + 1) ((List.mem_cons.1 h).resolve_left e)
theorem idx_ge (s : List UInt8) (l : List (List UInt8)) : decide (idxFrom s 0 l ≥ 0) = decide (s ∈ l) := by
 by_cases h : s ∈ l
 ·rw [decide_eq_true h, decide_eq_true (idx_mem l 0 h)]
 ·rw [decide_eq_false h, idx_none l 0 h]; rfl
theorem lin_str4 {ops : Array Oper} {Q : Exit → Act → World → Prop} {act : Act} {w : World} (i : Nat) (a b c d : List UInt8) (q : Nat) (dd : Option Tmp) (hi : (ops[i]?.isSome && Region.wanted (opAt ops i) (yielded ops act.tmps)) = true) (hd : (opAt ops i).dst = dd)
    (he : execOp act.eval (opAt ops i) = (Instr.buildSlice 42 4 #[(0, sT a), (1, sT b), (2, sT c), (3, sT d)] >>= fun x => pure (.value x))) (hq : Hid (w.heap.size = q))
    (h : ∀ w', NmsAt w' (.slice (some ⟨q, 0, none⟩) 4 4) [a, b, c, d] → Below q w w' → wpFrom Try.prog ops Q (i + 1) (act.put dd (.slice (some ⟨q, 0, none⟩) 4 4)) w') : wpFrom Try.prog ops Q i act w := by
  obtain rfl := hq.out
  exact lin_value i _ dd _ hi hd (exec_of _ _ he (str4 a b c d w)) (h _ (nms4 (w := w) (xs := [a, b, c, d]) (Blk.new w 9 [sT a, sT b, sT c, sT d])) ((Below.refl _ _).alloc (Nat.le_refl _) _))
set_option maxHeartbeats 4000000 in
theorem begins_walk (s : List UInt8) (hl : s.length ≤ 100000) (w : World) : Calls Try.prog 63 #[sT s] w fun e w' => e = .returned (.bool (begA s)) ∧ Below w.heap.size w w' := by
 obtain ⟨q, hq⟩ : ∃ q, Hid (w.heap.size = q) := ⟨_, rfl⟩
 rw [hq.out]
 go_enter Try.func63, Try.ntmps63
 go_upto_region 0 with (fail)
 refine lbeg (opsOf Try.f63 0) ?_
 refine lnow 0 (.bool false) (some 2) ?_
 refine ldn 1 ?_
 generalize hact : Act.put _ (some 2) _ = act
 simp only [Act.put, sA, sC, sZ] at hact
 subst hact
 go_upto_region 1 with (fail)
 refine lbeg (opsOf Try.f63 1) ?_
 refine lin_str4 0 [80, 114, 111, 112] [84, 121, 112, 101] [40] [91] q (some 3) (by kernel_rfl) (by kernel_rfl) (by kernel_rfl) hq ?_
 intro w1 hn hb
 have BE := Lib.hid hb
 have CW := contains_walk [[80, 114, 111, 112], [84, 121, 112, 101], [40], [91]] s _ w1 hn (by decide)
 rw [idx_ge, show ([[80, 114, 111, 112], [84, 121, 112, 101], [40], [91]] : List (List UInt8)) = begs from rfl] at CW
 clear hb hn
 refine lnow 1 (sT s) (some 4) ?_
 refine lcal 2 71 #[.slice (some ⟨q, 0, none⟩) 4 4, sT s] (some 5) _ (CW) ?_
 rintro e w' ⟨rfl, hw'⟩
 obtain rfl := hw'.symm
 refine ⟨_, rfl, ?_⟩
 by_cases hm : s ∈ begs
 ·skip
  rw [decide_eq_true hm]
  refine lnow 3 (.bool true) (some 6) ?_
  refine lpas 4 (some 7) ?_
  refine lpas 5 (some 8) ?_
  refine lnow 6 (.bool true) (some 9) ?_
  refine lnow 7 (.bool true) (some 2) ?_
  refine ldn 8 ?_
  generalize hact : Act.put _ (some 2) _ = act
  simp only [Act.put, sA, sC, sZ] at hact
  subst hact
  go_wp2
  go_ret
  exact ⟨by rw [begA, decide_eq_true hm]; rfl, BE.out⟩
 rw [decide_eq_false hm]
 refine lnow 3 (.bool false) (some 6) ?_
 refine lnow 4 (sT s) (some 7) ?_
 refine lcal 5 59 #[sT s] (some 8) _ (word_walk s (by omega) w1) ?_
 rintro e w' ⟨rfl, hw'⟩
 obtain rfl := hw'.symm
 refine ⟨_, rfl, ?_⟩
 refine lnow 6 (.bool (wordB s)) (some 9) ?_
 refine lnow 7 (.bool (wordB s)) (some 2) ?_
 refine ldn 8 ?_
 generalize hact : Act.put _ (some 2) _ = act
 simp only [Act.put, sA, sC, sZ] at hact
 subst hact
 go_wp2
 go_ret
 exact ⟨by rw [begA, decide_eq_false hm, Bool.false_or]; rfl, BE.out⟩
end Go.Proofs.Ytdacmogedchnaaa
