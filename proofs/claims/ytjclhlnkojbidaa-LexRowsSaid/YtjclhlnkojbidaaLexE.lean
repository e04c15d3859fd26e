/- The document's own Scan. -/
import Derived.Test.YtjclhlnkojbidaaLexD
namespace Go.Proofs.Ytjclhlnkojbidaa
open Go Go.RowKit
set_option maxRecDepth 100000

theorem idx_mem (l : List UInt8) (c : UInt8) : 0 ≤ Lib.indexByte l c ↔ c ∈ l := by
  induction l with
  | nil => simp [Lib.indexByte]
  | cons b l ih =>
    have hg := Lib.indexByte_ge l c
    unfold Lib.indexByte
    by_cases hb : (b == c) = true
    · rw [if_pos hb]
      have : b = c := by simpa using hb
      simp [this]
    · rw [if_neg hb]
      have hne : ¬ c = b := fun e => hb (by simp [e])
      by_cases h1 : (Lib.indexByte l c == -1) = true
      · rw [if_pos h1]
        have h2 : Lib.indexByte l c = -1 := by simpa using h1
        rw [h2] at ih
        have : c ∉ l := fun hm => by have := ih.2 hm; omega
        simp [hne, this]
      · rw [if_neg h1]
        have h2 : Lib.indexByte l c ≠ -1 := by simpa using h1
        have h3 : c ∈ l := ih.1 (by omega)
        simp [h3]; omega
theorem dig_sign {c : UInt8} (h : isDig c = true) (r : List UInt8) : signL (c :: r) = 0 := by
  have hb : 48 ≤ c.toNat ∧ c.toNat ≤ 57 := by unfold isDig at h; simpa using h
  have h58 : ((58 : UInt8) == c) = false := by
    have : (58 : UInt8) ≠ c := by rintro rfl; revert h; decide
    simpa using this
  have hm : ¬ 0 ≤ Lib.indexByte signs12 c := by
    rw [idx_mem]
    unfold signs12
    simp only [List.mem_cons, List.not_mem_nil, or_false, ← UInt8.toNat_inj]
    obtain ⟨h1, h2⟩ := hb
    generalize c.toNat = m at h1 h2
    rintro (e | e | e | e | e | e | e | e | e | e | e | e) <;> (simp at e; omega)
  rw [signL, pre2, h58, Bool.false_and, if_neg (show ¬ false = true by simp), if_neg hm]
def oneB (c : UInt8) : Bool := decide (0 ≤ Lib.indexByte signs12 c)
def isHd (y : UInt8) : List UInt8 → Bool
  | [] => false
  | b :: _ => y == b
theorem pre2h (x y a : UInt8) (l : List UInt8) : Lib.hasPrefix (a :: l) [x, y] = (x == a && isHd y l) := by
  rw [pre2]
  cases l <;> rfl
/-- The document's answer at a place: the kind and how many bytes. -/
def tokR (l : List UInt8) : Nat × Nat := (tokAt l).getD (0, 0)
theorem tokR_word {c : UInt8} {r : List UInt8} (h : isLet c = true) : tokR (c :: r) = (1, runL inW (c :: r)) := by
  have e : wordL (c :: r) = runL inW (c :: r) := by rw [wordL, if_pos h]
  have hp : 0 < runL inW (c :: r) := by rw [runL_cons, if_pos (by unfold inW; simp [h])]; omega
  unfold tokR tokAt
  rw [e, if_pos hp]
  rfl
theorem numO_run {c : UInt8} {r : List UInt8} (h : isDig c = true) : (numO ((c :: r).take (runL isDig (c :: r)))).isSome = true ↔ ¬ (6 < runL isDig (c :: r) ∨ (1 < runL isDig (c :: r) ∧ c = 48)) := by
  have hp : 0 < runL isDig (c :: r) := by rw [runL_cons, if_pos h]; omega
  have hl := runL_le isDig (c :: r)
  have ha := runL_all isDig (c :: r)
  generalize runL isDig (c :: r) = m at *
  obtain ⟨c', r', e1, e2⟩ := take_ne hp hl
  obtain ⟨rfl, rfl⟩ := List.cons.inj e1
  have hlen : ((c :: r).take m).length = m := List.length_take_of_le hl
  have hs : (numO ((c :: r).take m)).isSome = true ↔ ¬ badNum ((c :: r).take m) := by
    unfold numO
    by_cases hb : badNum ((c :: r).take m)
    · rw [if_pos hb]; simp [hb]
    · rw [if_neg hb]; simp [hb]
  rw [hs]
  refine not_congr ?_
  unfold badNum
  rw [hlen, ha, e2]
  constructor
  · rintro (h | h | h | h)
    · cases h
    · exact .inl h
    · exact .inr ⟨h.1, by simpa using h.2⟩
    · cases h
  · rintro (h | h)
    · exact .inr (.inl h)
    · exact .inr (.inr (.inl ⟨h.1, by rw [h.2]; rfl⟩))
theorem tokR_num {c : UInt8} {r : List UInt8} (h : isDig c = true) : tokR (c :: r) = if 6 < runL isDig (c :: r) ∨ (1 < runL isDig (c :: r) ∧ c = 48) then (0, 0) else (2, runL isDig (c :: r)) := by
  have hp : 0 < runL isDig (c :: r) := by rw [runL_cons, if_pos h]; omega
  have hw : wordL (c :: r) = 0 := wordL_zero r (dig_not_let h)
  unfold tokR tokAt
  rw [hw, if_neg (by omega), dig_sign h r, numL]
  by_cases hb : 6 < runL isDig (c :: r) ∨ (1 < runL isDig (c :: r) ∧ c = 48)
  · have hn : ¬ (numO ((c :: r).take (runL isDig (c :: r)))).isSome = true := fun hx => (numO_run h).1 hx hb
    rw [if_neg hn, if_pos hb]
    rfl
  · rw [if_pos ((numO_run h).2 hb), if_pos hp, if_neg hb]
    rfl
theorem tokR_sign {c : UInt8} {r : List UInt8} (h1 : isLet c = false) (h2 : isDig c = false) : tokR (c :: r) = if Lib.hasPrefix (c :: r) [58, 61] = true then (3, 2) else if 0 ≤ Lib.indexByte signs12 c then (3, 1) else (0, 0) := by
  unfold tokR tokAt
  rw [wordL_zero r h1, if_neg (by omega), numL_zero r h2, if_neg (by omega), signL]
  by_cases hp : Lib.hasPrefix (c :: r) [58, 61] = true
  · rw [if_pos hp, if_pos hp]; rfl
  · rw [if_neg hp, if_neg hp]
    by_cases hx : 0 ≤ Lib.indexByte signs12 c
    · rw [if_pos hx, if_pos hx]; rfl
    · rw [if_neg hx, if_neg hx]; rfl
theorem inW_eq (c : UInt8) : inW c = (isLet c || isDig c || decide ((c.toNat : Int) = 95) || decide ((c.toNat : Int) = 46)) := by
  unfold inW
  congr 1
  · congr 1
    congr 1
    simp only [eq_iff_iff]
    omega
  · congr 1
    simp only [eq_iff_iff]
    omega
theorem u8_eq {c : UInt8} {n : Nat} (hn : n < 256) : (c.toNat : Int) = (n : Int) ↔ c = UInt8.ofNat n := by
  rw [← UInt8.toNat_inj]
  simp
  omega

set_option maxHeartbeats 2000000 in
theorem xrone_walk : PredF 34 oneB := fun c w => by
  unfold oneB
  obtain ⟨R, hR⟩ : ∃ R, Hid (decide (0 ≤ Lib.indexByte signs12 c) = R) := ⟨_, rfl⟩
  rw [hR.out]
  go_enter Try.func34, Try.ntmps34
  go_upto_region 0 with (fail)
  refine lin_begin (opsOf Try.f34 0) (by kernel_rfl) ?_
  refine lnow 0 (.bool false) (some 2) ?_
  refine lin_done 1 (by kernel_rfl) ?_
  generalize hact : Act.put _ (some 2) _ = act
  simp only [Act.put, List.setIfInBounds_toArray, List.set_cons_succ, List.set_cons_zero] at hact
  subst hact
  go_upto_region 1 with (fail)
  refine lin_begin (opsOf Try.f34 1) (by kernel_rfl) ?_
  refine lnow 0 (sT signs12) (some 3) ?_
  refine lin_done 1 (by kernel_rfl) ?_
  generalize hact : Act.put _ (some 3) _ = act
  simp only [Act.put, List.setIfInBounds_toArray, List.set_cons_succ, List.set_cons_zero] at hact
  subst hact
  go_upto_region 2 with (fail)
  refine lin_begin (opsOf Try.f34 2) (by kernel_rfl) ?_
  refine lnow 0 (.int .i64 0) (some 4) ?_
  refine lin_done 1 (by kernel_rfl) ?_
  generalize hact : Act.put _ (some 4) _ = act
  simp only [Act.put, List.setIfInBounds_toArray, List.set_cons_succ, List.set_cons_zero] at hact
  subst hact
  go_wp2
  go_loop [4] (fun kv => ∃ k : Nat, k ≤ 12 ∧ kv = .int .i64 (k : Int) ∧ Hid (c ∉ signs12.take k)) (fun kv => 12 - (intOf kv).toNat)
  case atStart => exact ⟨0, by omega, rfl, by simp [Hid]⟩
  case round =>
    obtain ⟨k, hk, rfl, HM⟩ := hrel
    have L12 : Hid (signs12.length = 12) := rfl
    by_cases hlt : (k : Int) < (12 : Int)
    rotate_left
    · skip
      obtain rfl : k = 12 := by omega
      have E0 : Hid (R = false) := by rw [Hid, ← hR.out, decide_eq_false]; rw [idx_mem]; exact HM.out
      clear HM hR
      go_upto_region 3 with (fail)
      refine lin_begin (opsOf Try.f34 3) (by kernel_rfl) ?_
      refine lnow 0 (.int .i64 ((12 : Nat) : Int)) (some 5) ?_
      refine lnow 1 (sT signs12) (some 6) ?_
      refine lnow 2 (.int .i64 (signs12.length : Int)) (some 7) ?_
      rw [L12.out]
      refine lnow 3 (.bool (decide (((12 : Nat) : Int) < (12 : Int)))) (some 8) ?_
      rw [decide_eq_false (hlt)]
      refine lin_done 4 (by kernel_rfl) ?_
      generalize hact : Act.put _ (some 8) _ = act
      simp only [Act.put, List.setIfInBounds_toArray, List.set_cons_succ, List.set_cons_zero] at hact
      subst hact
      go_wp2
      go_ret
      exact ⟨by rw [E0.out]; rfl, rfl⟩
    go_upto_region 3 with (fail)
    refine lin_begin (opsOf Try.f34 3) (by kernel_rfl) ?_
    refine lnow 0 (.int .i64 (k : Int)) (some 5) ?_
    refine lnow 1 (sT signs12) (some 6) ?_
    refine lnow 2 (.int .i64 (signs12.length : Int)) (some 7) ?_
    rw [L12.out]
    refine lnow 3 (.bool (decide ((k : Int) < (12 : Int)))) (some 8) ?_
    rw [decide_eq_true (hlt)]
    refine lin_done 4 (by kernel_rfl) ?_
    generalize hact : Act.put _ (some 8) _ = act
    simp only [Act.put, List.setIfInBounds_toArray, List.set_cons_succ, List.set_cons_zero] at hact
    subst hact
    obtain ⟨d, hd⟩ : ∃ d, Hid (signs12[k]? = some d) := ⟨_, List.getElem?_eq_getElem (by rw [L12.out]; omega)⟩
    by_cases he : (d.toNat : Int) = (c.toNat : Int)
    · have E0 : Hid (R = true) := by rw [Hid, ← hR.out, decide_eq_true]; rw [idx_mem]; have e : d = c := (by rw [← UInt8.toNat_inj]; omega); rw [← e]; exact List.mem_of_getElem? hd.out
      go_upto_region 5 with (fail)
      refine lin_begin (opsOf Try.f34 5) (by kernel_rfl) ?_
      refine lnow 0 (sT signs12) (some 11) ?_
      refine lnow 1 (.int .i64 (k : Int)) (some 12) ?_
      refine lnowP 2 (.int .u8 (d.toNat : Int)) (some 13) (exec_sIdx (.tmp 11) (.tmp 12) (by kernel_rfl) signs12 (by kernel_rfl) (k) (by kernel_rfl) d hd.out) ?_
      refine lnow 3 (.int .u8 (c.toNat : Int)) (some 14) ?_
      refine lnow 4 (.bool (decide ((d.toNat : Int) = (c.toNat : Int)))) (some 15) ?_
      rw [decide_eq_true (he)]
      refine lin_done 5 (by kernel_rfl) ?_
      generalize hact : Act.put _ (some 15) _ = act
      simp only [Act.put, List.setIfInBounds_toArray, List.set_cons_succ, List.set_cons_zero] at hact
      subst hact
      clear HM hR
      go_wp2
      go_ret
      exact ⟨by rw [E0.out]; rfl, rfl⟩
    go_upto_region 5 with (fail)
    refine lin_begin (opsOf Try.f34 5) (by kernel_rfl) ?_
    refine lnow 0 (sT signs12) (some 11) ?_
    refine lnow 1 (.int .i64 (k : Int)) (some 12) ?_
    refine lnowP 2 (.int .u8 (d.toNat : Int)) (some 13) (exec_sIdx (.tmp 11) (.tmp 12) (by kernel_rfl) signs12 (by kernel_rfl) (k) (by kernel_rfl) d hd.out) ?_
    refine lnow 3 (.int .u8 (c.toNat : Int)) (some 14) ?_
    refine lnow 4 (.bool (decide ((d.toNat : Int) = (c.toNat : Int)))) (some 15) ?_
    rw [decide_eq_false (he)]
    refine lin_done 5 (by kernel_rfl) ?_
    generalize hact : Act.put _ (some 15) _ = act
    simp only [Act.put, List.setIfInBounds_toArray, List.set_cons_succ, List.set_cons_zero] at hact
    subst hact
    have HM2 : Hid (c ∉ signs12.take (k + 1)) := by rw [Hid, take_snoc hd.out, List.mem_append]; rintro (h | h); exact HM.out h; (have e : c = d := by simpa using h); subst e; exact he rfl
    clear HM hd he
    go_wp2
    go_round
    case rel => exact ⟨k + 1, by omega, by go_num, HM2⟩
    case measure => simp [intOf]; omega

set_option maxHeartbeats 8000000 in
theorem xrtoken_walk (s : List UInt8) (hs : s.length ≤ 1000000) (k : Nat) (c : UInt8) (r : List UInt8) (el : s.drop k = c :: r) (w : World) : Calls Try.prog 18 #[sT s, .int .i64 (k : Int)] w fun e w' => e = .returned (.tuple #[.int .i64 ((tokR (s.drop k)).1 : Int), .int .i64 ((tokR (s.drop k)).2 : Int)]) ∧ w' = w := by
  obtain ⟨S, hS⟩ : ∃ S, Hid (s.length = S) := ⟨_, rfl⟩
  obtain ⟨L, hL⟩ : ∃ L, Hid (s.drop k = L) := ⟨_, rfl⟩
  rw [hL.out] at el ⊢
  have KS : Hid (k + L.length = S) := by have h := congrArg List.length hL.out; rw [List.length_drop] at h; have h2 := hS.out; have h3 : L.length = r.length + 1 := (by rw [el]; rfl); rw [Hid]; omega
  have SB : Hid (S ≤ 1000000) := by rw [← hS.out]; exact hs
  have HC : Hid (s[k]? = some c) := by have h : (s.drop k)[0]? = some c := (by rw [hL.out, el]; rfl); rw [List.getElem?_drop, Nat.add_zero] at h; exact h
  obtain ⟨⟨rk, rn⟩, hR⟩ : ∃ R, Hid (tokR L = R) := ⟨_, rfl⟩
  rw [hR.out]
  dsimp only
  have EL := Lib.hid el
  have L1 : Hid (1 ≤ L.length) := by rw [Hid, el]; simp
  clear el hs
  go_enter Try.func18, Try.ntmps18
  go_upto_region 0 with (fail)
  refine lin_begin (opsOf Try.f18 0) (by kernel_rfl) ?_
  refine lnow 0 (.int .i64 0) (some 4) ?_
  refine lnow 1 (.int .i64 0) (some 5) ?_
  refine lin_done 2 (by kernel_rfl) ?_
  generalize hact : Act.put _ (some 5) _ = act
  simp only [Act.put, List.setIfInBounds_toArray, List.set_cons_succ, List.set_cons_zero] at hact
  subst hact
  go_upto_region 1 with (fail)
  refine lin_begin (opsOf Try.f18 1) (by kernel_rfl) ?_
  refine lnow 0 (.int .i64 (k : Int)) (some 7) ?_
  refine lnow 1 (.int .i64 (k : Int)) (some 6) ?_
  refine lin_done 2 (by kernel_rfl) ?_
  generalize hact : Act.put _ (some 6) _ = act
  simp only [Act.put, List.setIfInBounds_toArray, List.set_cons_succ, List.set_cons_zero] at hact
  subst hact
  obtain ⟨b1, hb1⟩ : ∃ b, Hid (isLet c = b) := ⟨_, rfl⟩
  go_upto_region 2 with (fail)
  refine lin_begin (opsOf Try.f18 2) (by kernel_rfl) ?_
  refine lnow 0 (sT s) (some 9) ?_
  refine lnow 1 (.int .i64 (k : Int)) (some 10) ?_
  refine lnowP 2 (.int .u8 (c.toNat : Int)) (some 11) (exec_sIdx (.tmp 9) (.tmp 10) (by kernel_rfl) s (by kernel_rfl) (k) (by kernel_rfl) c HC.out) ?_
  refine lin_call 3 33 #[.int .u8 (c.toNat : Int)] (some 12) _ (by kernel_rfl) (by kernel_rfl) (by kernel_rfl) (xrlet_walk c _) ?_
  rintro e w1 ⟨rfl, hw1⟩
  obtain rfl := hw1.symm
  refine ⟨_, rfl, ?_⟩
  rw [hb1.out]
  refine lnow 4 (.bool b1) (some 8) ?_
  refine lin_done 5 (by kernel_rfl) ?_
  generalize hact : Act.put _ (some 8) _ = act
  simp only [Act.put, List.setIfInBounds_toArray, List.set_cons_succ, List.set_cons_zero] at hact
  subst hact
  cases b1 with
  | true =>
    go_wp2
    go_loop [6] (fun nv => ∃ m : Nat, m ≤ L.length ∧ nv = .int .i64 ((k + m : Nat) : Int) ∧ Hid (runL inW L = m + runL inW (L.drop m))) (fun nv => S - (intOf nv).toNat)
    case atStart => exact ⟨0, Nat.zero_le _, rfl, by rw [Hid, List.drop_zero, Nat.zero_add]⟩
    case round =>
      obtain ⟨m, hm, rfl, HR⟩ := hrel
      have ks := KS.out
      have sb := SB.out
      by_cases hlt : m < L.length
      rotate_left
      · skip
        obtain rfl : m = L.length := by omega
        have RM : Hid (runL inW L = L.length) := by rw [Hid, HR.out, List.drop_eq_nil_of_le (Nat.le_refl _)]; rfl
        have c1 : ¬ (((k + L.length : Nat) : Int) < (S : Int)) := by omega
        clear HR
        obtain ⟨M, hM⟩ : ∃ M, Hid (L.length = M) := ⟨_, rfl⟩
        rw [hM.out] at RM c1 ks L1 ⊢
        go_upto_region 3 with (fail)
        refine lin_begin (opsOf Try.f18 3) (by kernel_rfl) ?_
        refine lnow 0 (.int .i64 ((k + M : Nat) : Int)) (some 13) ?_
        refine lnow 1 (sT s) (some 14) ?_
        refine lnow 2 (.int .i64 (s.length : Int)) (some 15) ?_
        rw [hS.out]
        refine lnow 3 (.bool (decide (((k + M : Nat) : Int) < (S : Int)))) (some 16) ?_
        rw [decide_eq_false (c1)]
        refine lnow 4 (.bool false) (some 17) ?_
        refine lpas 5 (some 18) ?_
        refine lpas 6 (some 19) ?_
        refine lpas 7 (some 20) ?_
        refine lpas 8 (some 21) ?_
        refine lpas 9 (some 22) ?_
        refine lpas 10 (some 23) ?_
        refine lpas 11 (some 24) ?_
        refine lpas 12 (some 25) ?_
        refine lpas 13 (some 26) ?_
        refine lpas 14 (some 27) ?_
        refine lpas 15 (some 28) ?_
        refine lpas 16 (some 29) ?_
        refine lpas 17 (some 30) ?_
        refine lpas 18 (some 31) ?_
        refine lpas 19 (some 32) ?_
        refine lpas 20 (some 33) ?_
        refine lpas 21 (some 34) ?_
        refine lpas 22 (some 35) ?_
        refine lpas 23 (some 36) ?_
        refine lpas 24 (some 37) ?_
        refine lpas 25 (some 38) ?_
        refine lpas 26 (some 39) ?_
        refine lnow 27 (.bool false) (some 40) ?_
        refine lin_done 28 (by kernel_rfl) ?_
        generalize hact : Act.put _ (some 40) _ = act
        simp only [Act.put, List.setIfInBounds_toArray, List.set_cons_succ, List.set_cons_zero] at hact
        subst hact
        have E := hR.out.symm.trans (show tokR L = (1, M) by rw [EL.out, tokR_word hb1.out, ← EL.out, RM.out])
        simp only [Prod.mk.injEq] at E
        obtain ⟨E1, E2⟩ := E
        have E3 := E2.symm
        clear E2
        subst E1
        subst E3
        clear hR
        go_upto_region 5 with (fail)
        refine lin_begin (opsOf Try.f18 5) (by kernel_rfl) ?_
        refine lnow 0 (.int .i64 ((k + M : Nat) : Int)) (some 43) ?_
        refine lnow 1 (.int .i64 (k : Int)) (some 44) ?_
        refine lnow 2 (.int .i64 (IntKind.i64.wrap (((k + M : Nat) : Int) - (k : Int)))) (some 45) ?_
        rw [show IntKind.i64.wrap (((k + M : Nat) : Int) - (k : Int)) = (M : Int) from (IntWalk.i64_in _ (by omega)).trans (by omega)]
        refine lnow 3 (.int .i64 1) (some 4) ?_
        refine lnow 4 (.int .i64 (M : Int)) (some 5) ?_
        refine lin_done 5 (by kernel_rfl) ?_
        generalize hact : Act.put _ (some 5) _ = act
        simp only [Act.put, List.setIfInBounds_toArray, List.set_cons_succ, List.set_cons_zero] at hact
        subst hact
        go_wp2
        go_ret2
        exact ⟨rfl, rfl⟩
      have c1 : (((k + m : Nat) : Int) < (S : Int)) := by omega
      obtain ⟨d, hd⟩ : ∃ d, Hid (L[m]? = some d) := ⟨_, List.getElem?_eq_getElem (by omega)⟩
      have HD : Hid (s[(k + m : Nat)]? = some d) := by have h := hd.out; rw [← hL.out, List.getElem?_drop] at h; exact h
      have DR : Hid (L.drop m = d :: L.drop (m + 1)) := by have h := hd.out; rw [Hid, List.drop_eq_getElem_cons (by omega)]; rw [List.getElem?_eq_getElem (by omega)] at h; rw [Option.some.inj h]
      obtain ⟨b3, hb3⟩ : ∃ b, Hid (isLet d = b) := ⟨_, rfl⟩
      obtain ⟨b4, hb4⟩ : ∃ b, Hid (isDig d = b) := ⟨_, rfl⟩
      cases b3 with
      | true =>
        go_upto_region 3 with (fail)
        refine lin_begin (opsOf Try.f18 3) (by kernel_rfl) ?_
        refine lnow 0 (.int .i64 ((k + m : Nat) : Int)) (some 13) ?_
        refine lnow 1 (sT s) (some 14) ?_
        refine lnow 2 (.int .i64 (s.length : Int)) (some 15) ?_
        rw [hS.out]
        refine lnow 3 (.bool (decide (((k + m : Nat) : Int) < (S : Int)))) (some 16) ?_
        rw [decide_eq_true (c1)]
        refine lnow 4 (.bool true) (some 17) ?_
        refine lnow 5 (sT s) (some 18) ?_
        refine lnow 6 (.int .i64 ((k + m : Nat) : Int)) (some 19) ?_
        refine lnowP 7 (.int .u8 (d.toNat : Int)) (some 20) (exec_sIdx (.tmp 18) (.tmp 19) (by kernel_rfl) s (by kernel_rfl) ((k + m : Nat)) (by kernel_rfl) d HD.out) ?_
        refine lin_call 8 33 #[.int .u8 (d.toNat : Int)] (some 21) _ (by kernel_rfl) (by kernel_rfl) (by kernel_rfl) (xrlet_walk d _) ?_
        rintro e w1 ⟨rfl, hw1⟩
        obtain rfl := hw1.symm
        refine ⟨_, rfl, ?_⟩
        rw [hb3.out]
        refine lnow 9 (.bool true) (some 22) ?_
        refine lpas 10 (some 23) ?_
        refine lpas 11 (some 24) ?_
        refine lpas 12 (some 25) ?_
        refine lpas 13 (some 26) ?_
        refine lnow 14 (.bool true) (some 27) ?_
        refine lnow 15 (.bool true) (some 28) ?_
        refine lpas 16 (some 29) ?_
        refine lpas 17 (some 30) ?_
        refine lpas 18 (some 31) ?_
        refine lpas 19 (some 32) ?_
        refine lnow 20 (.bool true) (some 33) ?_
        refine lnow 21 (.bool true) (some 34) ?_
        refine lpas 22 (some 35) ?_
        refine lpas 23 (some 36) ?_
        refine lpas 24 (some 37) ?_
        refine lpas 25 (some 38) ?_
        refine lnow 26 (.bool true) (some 39) ?_
        refine lnow 27 (.bool true) (some 40) ?_
        refine lin_done 28 (by kernel_rfl) ?_
        generalize hact : Act.put _ (some 40) _ = act
        simp only [Act.put, List.setIfInBounds_toArray, List.set_cons_succ, List.set_cons_zero] at hact
        subst hact
        have HR2 : Hid (runL inW L = (m + 1) + runL inW (L.drop (m + 1))) := by rw [Hid, HR.out, DR.out, runL_cons, if_pos (by rw [inW_eq, hb3.out]; simp)]; omega
        clear HR DR HD hd c1
        go_wp2
        go_round
        case rel => exact ⟨m + 1, by omega, by go_num, HR2⟩
        case measure => simp [intOf]; omega
      | false =>
        cases b4 with
        | true =>
          go_upto_region 3 with (fail)
          refine lin_begin (opsOf Try.f18 3) (by kernel_rfl) ?_
          refine lnow 0 (.int .i64 ((k + m : Nat) : Int)) (some 13) ?_
          refine lnow 1 (sT s) (some 14) ?_
          refine lnow 2 (.int .i64 (s.length : Int)) (some 15) ?_
          rw [hS.out]
          refine lnow 3 (.bool (decide (((k + m : Nat) : Int) < (S : Int)))) (some 16) ?_
          rw [decide_eq_true (c1)]
          refine lnow 4 (.bool true) (some 17) ?_
          refine lnow 5 (sT s) (some 18) ?_
          refine lnow 6 (.int .i64 ((k + m : Nat) : Int)) (some 19) ?_
          refine lnowP 7 (.int .u8 (d.toNat : Int)) (some 20) (exec_sIdx (.tmp 18) (.tmp 19) (by kernel_rfl) s (by kernel_rfl) ((k + m : Nat)) (by kernel_rfl) d HD.out) ?_
          refine lin_call 8 33 #[.int .u8 (d.toNat : Int)] (some 21) _ (by kernel_rfl) (by kernel_rfl) (by kernel_rfl) (xrlet_walk d _) ?_
          rintro e w1 ⟨rfl, hw1⟩
          obtain rfl := hw1.symm
          refine ⟨_, rfl, ?_⟩
          rw [hb3.out]
          refine lnow 9 (.bool false) (some 22) ?_
          refine lnow 10 (sT s) (some 23) ?_
          refine lnow 11 (.int .i64 ((k + m : Nat) : Int)) (some 24) ?_
          refine lnowP 12 (.int .u8 (d.toNat : Int)) (some 25) (exec_sIdx (.tmp 23) (.tmp 24) (by kernel_rfl) s (by kernel_rfl) ((k + m : Nat)) (by kernel_rfl) d HD.out) ?_
          refine lin_call 13 22 #[.int .u8 (d.toNat : Int)] (some 26) _ (by kernel_rfl) (by kernel_rfl) (by kernel_rfl) (xrdig_walk d _) ?_
          rintro e w1 ⟨rfl, hw1⟩
          obtain rfl := hw1.symm
          refine ⟨_, rfl, ?_⟩
          rw [hb4.out]
          refine lnow 14 (.bool true) (some 27) ?_
          refine lnow 15 (.bool true) (some 28) ?_
          refine lpas 16 (some 29) ?_
          refine lpas 17 (some 30) ?_
          refine lpas 18 (some 31) ?_
          refine lpas 19 (some 32) ?_
          refine lnow 20 (.bool true) (some 33) ?_
          refine lnow 21 (.bool true) (some 34) ?_
          refine lpas 22 (some 35) ?_
          refine lpas 23 (some 36) ?_
          refine lpas 24 (some 37) ?_
          refine lpas 25 (some 38) ?_
          refine lnow 26 (.bool true) (some 39) ?_
          refine lnow 27 (.bool true) (some 40) ?_
          refine lin_done 28 (by kernel_rfl) ?_
          generalize hact : Act.put _ (some 40) _ = act
          simp only [Act.put, List.setIfInBounds_toArray, List.set_cons_succ, List.set_cons_zero] at hact
          subst hact
          have HR2 : Hid (runL inW L = (m + 1) + runL inW (L.drop (m + 1))) := by rw [Hid, HR.out, DR.out, runL_cons, if_pos (by rw [inW_eq, hb4.out]; simp)]; omega
          clear HR DR HD hd c1
          go_wp2
          go_round
          case rel => exact ⟨m + 1, by omega, by go_num, HR2⟩
          case measure => simp [intOf]; omega
        | false =>
          by_cases h95 : (d.toNat : Int) = 95
          · skip
            go_upto_region 3 with (fail)
            refine lin_begin (opsOf Try.f18 3) (by kernel_rfl) ?_
            refine lnow 0 (.int .i64 ((k + m : Nat) : Int)) (some 13) ?_
            refine lnow 1 (sT s) (some 14) ?_
            refine lnow 2 (.int .i64 (s.length : Int)) (some 15) ?_
            rw [hS.out]
            refine lnow 3 (.bool (decide (((k + m : Nat) : Int) < (S : Int)))) (some 16) ?_
            rw [decide_eq_true (c1)]
            refine lnow 4 (.bool true) (some 17) ?_
            refine lnow 5 (sT s) (some 18) ?_
            refine lnow 6 (.int .i64 ((k + m : Nat) : Int)) (some 19) ?_
            refine lnowP 7 (.int .u8 (d.toNat : Int)) (some 20) (exec_sIdx (.tmp 18) (.tmp 19) (by kernel_rfl) s (by kernel_rfl) ((k + m : Nat)) (by kernel_rfl) d HD.out) ?_
            refine lin_call 8 33 #[.int .u8 (d.toNat : Int)] (some 21) _ (by kernel_rfl) (by kernel_rfl) (by kernel_rfl) (xrlet_walk d _) ?_
            rintro e w1 ⟨rfl, hw1⟩
            obtain rfl := hw1.symm
            refine ⟨_, rfl, ?_⟩
            rw [hb3.out]
            refine lnow 9 (.bool false) (some 22) ?_
            refine lnow 10 (sT s) (some 23) ?_
            refine lnow 11 (.int .i64 ((k + m : Nat) : Int)) (some 24) ?_
            refine lnowP 12 (.int .u8 (d.toNat : Int)) (some 25) (exec_sIdx (.tmp 23) (.tmp 24) (by kernel_rfl) s (by kernel_rfl) ((k + m : Nat)) (by kernel_rfl) d HD.out) ?_
            refine lin_call 13 22 #[.int .u8 (d.toNat : Int)] (some 26) _ (by kernel_rfl) (by kernel_rfl) (by kernel_rfl) (xrdig_walk d _) ?_
            rintro e w1 ⟨rfl, hw1⟩
            obtain rfl := hw1.symm
            refine ⟨_, rfl, ?_⟩
            rw [hb4.out]
            refine lnow 14 (.bool false) (some 27) ?_
            refine lnow 15 (.bool false) (some 28) ?_
            refine lnow 16 (sT s) (some 29) ?_
            refine lnow 17 (.int .i64 ((k + m : Nat) : Int)) (some 30) ?_
            refine lnowP 18 (.int .u8 (d.toNat : Int)) (some 31) (exec_sIdx (.tmp 29) (.tmp 30) (by kernel_rfl) s (by kernel_rfl) ((k + m : Nat)) (by kernel_rfl) d HD.out) ?_
            refine lnow 19 (.bool (decide ((d.toNat : Int) = 95))) (some 32) ?_
            rw [decide_eq_true (h95)]
            refine lnow 20 (.bool true) (some 33) ?_
            refine lnow 21 (.bool true) (some 34) ?_
            refine lpas 22 (some 35) ?_
            refine lpas 23 (some 36) ?_
            refine lpas 24 (some 37) ?_
            refine lpas 25 (some 38) ?_
            refine lnow 26 (.bool true) (some 39) ?_
            refine lnow 27 (.bool true) (some 40) ?_
            refine lin_done 28 (by kernel_rfl) ?_
            generalize hact : Act.put _ (some 40) _ = act
            simp only [Act.put, List.setIfInBounds_toArray, List.set_cons_succ, List.set_cons_zero] at hact
            subst hact
            have HR2 : Hid (runL inW L = (m + 1) + runL inW (L.drop (m + 1))) := by rw [Hid, HR.out, DR.out, runL_cons, if_pos (by rw [inW_eq, decide_eq_true h95]; simp)]; omega
            clear HR DR HD hd c1
            go_wp2
            go_round
            case rel => exact ⟨m + 1, by omega, by go_num, HR2⟩
            case measure => simp [intOf]; omega
          by_cases h46 : (d.toNat : Int) = 46
          · skip
            go_upto_region 3 with (fail)
            refine lin_begin (opsOf Try.f18 3) (by kernel_rfl) ?_
            refine lnow 0 (.int .i64 ((k + m : Nat) : Int)) (some 13) ?_
            refine lnow 1 (sT s) (some 14) ?_
            refine lnow 2 (.int .i64 (s.length : Int)) (some 15) ?_
            rw [hS.out]
            refine lnow 3 (.bool (decide (((k + m : Nat) : Int) < (S : Int)))) (some 16) ?_
            rw [decide_eq_true (c1)]
            refine lnow 4 (.bool true) (some 17) ?_
            refine lnow 5 (sT s) (some 18) ?_
            refine lnow 6 (.int .i64 ((k + m : Nat) : Int)) (some 19) ?_
            refine lnowP 7 (.int .u8 (d.toNat : Int)) (some 20) (exec_sIdx (.tmp 18) (.tmp 19) (by kernel_rfl) s (by kernel_rfl) ((k + m : Nat)) (by kernel_rfl) d HD.out) ?_
            refine lin_call 8 33 #[.int .u8 (d.toNat : Int)] (some 21) _ (by kernel_rfl) (by kernel_rfl) (by kernel_rfl) (xrlet_walk d _) ?_
            rintro e w1 ⟨rfl, hw1⟩
            obtain rfl := hw1.symm
            refine ⟨_, rfl, ?_⟩
            rw [hb3.out]
            refine lnow 9 (.bool false) (some 22) ?_
            refine lnow 10 (sT s) (some 23) ?_
            refine lnow 11 (.int .i64 ((k + m : Nat) : Int)) (some 24) ?_
            refine lnowP 12 (.int .u8 (d.toNat : Int)) (some 25) (exec_sIdx (.tmp 23) (.tmp 24) (by kernel_rfl) s (by kernel_rfl) ((k + m : Nat)) (by kernel_rfl) d HD.out) ?_
            refine lin_call 13 22 #[.int .u8 (d.toNat : Int)] (some 26) _ (by kernel_rfl) (by kernel_rfl) (by kernel_rfl) (xrdig_walk d _) ?_
            rintro e w1 ⟨rfl, hw1⟩
            obtain rfl := hw1.symm
            refine ⟨_, rfl, ?_⟩
            rw [hb4.out]
            refine lnow 14 (.bool false) (some 27) ?_
            refine lnow 15 (.bool false) (some 28) ?_
            refine lnow 16 (sT s) (some 29) ?_
            refine lnow 17 (.int .i64 ((k + m : Nat) : Int)) (some 30) ?_
            refine lnowP 18 (.int .u8 (d.toNat : Int)) (some 31) (exec_sIdx (.tmp 29) (.tmp 30) (by kernel_rfl) s (by kernel_rfl) ((k + m : Nat)) (by kernel_rfl) d HD.out) ?_
            refine lnow 19 (.bool (decide ((d.toNat : Int) = 95))) (some 32) ?_
            rw [decide_eq_false (h95)]
            refine lnow 20 (.bool false) (some 33) ?_
            refine lnow 21 (.bool false) (some 34) ?_
            refine lnow 22 (sT s) (some 35) ?_
            refine lnow 23 (.int .i64 ((k + m : Nat) : Int)) (some 36) ?_
            refine lnowP 24 (.int .u8 (d.toNat : Int)) (some 37) (exec_sIdx (.tmp 35) (.tmp 36) (by kernel_rfl) s (by kernel_rfl) ((k + m : Nat)) (by kernel_rfl) d HD.out) ?_
            refine lnow 25 (.bool (decide ((d.toNat : Int) = 46))) (some 38) ?_
            rw [decide_eq_true (h46)]
            refine lnow 26 (.bool true) (some 39) ?_
            refine lnow 27 (.bool true) (some 40) ?_
            refine lin_done 28 (by kernel_rfl) ?_
            generalize hact : Act.put _ (some 40) _ = act
            simp only [Act.put, List.setIfInBounds_toArray, List.set_cons_succ, List.set_cons_zero] at hact
            subst hact
            have HR2 : Hid (runL inW L = (m + 1) + runL inW (L.drop (m + 1))) := by rw [Hid, HR.out, DR.out, runL_cons, if_pos (by rw [inW_eq, decide_eq_true h46]; simp)]; omega
            clear HR DR HD hd c1
            go_wp2
            go_round
            case rel => exact ⟨m + 1, by omega, by go_num, HR2⟩
            case measure => simp [intOf]; omega
          go_upto_region 3 with (fail)
          refine lin_begin (opsOf Try.f18 3) (by kernel_rfl) ?_
          refine lnow 0 (.int .i64 ((k + m : Nat) : Int)) (some 13) ?_
          refine lnow 1 (sT s) (some 14) ?_
          refine lnow 2 (.int .i64 (s.length : Int)) (some 15) ?_
          rw [hS.out]
          refine lnow 3 (.bool (decide (((k + m : Nat) : Int) < (S : Int)))) (some 16) ?_
          rw [decide_eq_true (c1)]
          refine lnow 4 (.bool true) (some 17) ?_
          refine lnow 5 (sT s) (some 18) ?_
          refine lnow 6 (.int .i64 ((k + m : Nat) : Int)) (some 19) ?_
          refine lnowP 7 (.int .u8 (d.toNat : Int)) (some 20) (exec_sIdx (.tmp 18) (.tmp 19) (by kernel_rfl) s (by kernel_rfl) ((k + m : Nat)) (by kernel_rfl) d HD.out) ?_
          refine lin_call 8 33 #[.int .u8 (d.toNat : Int)] (some 21) _ (by kernel_rfl) (by kernel_rfl) (by kernel_rfl) (xrlet_walk d _) ?_
          rintro e w1 ⟨rfl, hw1⟩
          obtain rfl := hw1.symm
          refine ⟨_, rfl, ?_⟩
          rw [hb3.out]
          refine lnow 9 (.bool false) (some 22) ?_
          refine lnow 10 (sT s) (some 23) ?_
          refine lnow 11 (.int .i64 ((k + m : Nat) : Int)) (some 24) ?_
          refine lnowP 12 (.int .u8 (d.toNat : Int)) (some 25) (exec_sIdx (.tmp 23) (.tmp 24) (by kernel_rfl) s (by kernel_rfl) ((k + m : Nat)) (by kernel_rfl) d HD.out) ?_
          refine lin_call 13 22 #[.int .u8 (d.toNat : Int)] (some 26) _ (by kernel_rfl) (by kernel_rfl) (by kernel_rfl) (xrdig_walk d _) ?_
          rintro e w1 ⟨rfl, hw1⟩
          obtain rfl := hw1.symm
          refine ⟨_, rfl, ?_⟩
          rw [hb4.out]
          refine lnow 14 (.bool false) (some 27) ?_
          refine lnow 15 (.bool false) (some 28) ?_
          refine lnow 16 (sT s) (some 29) ?_
          refine lnow 17 (.int .i64 ((k + m : Nat) : Int)) (some 30) ?_
          refine lnowP 18 (.int .u8 (d.toNat : Int)) (some 31) (exec_sIdx (.tmp 29) (.tmp 30) (by kernel_rfl) s (by kernel_rfl) ((k + m : Nat)) (by kernel_rfl) d HD.out) ?_
          refine lnow 19 (.bool (decide ((d.toNat : Int) = 95))) (some 32) ?_
          rw [decide_eq_false (h95)]
          refine lnow 20 (.bool false) (some 33) ?_
          refine lnow 21 (.bool false) (some 34) ?_
          refine lnow 22 (sT s) (some 35) ?_
          refine lnow 23 (.int .i64 ((k + m : Nat) : Int)) (some 36) ?_
          refine lnowP 24 (.int .u8 (d.toNat : Int)) (some 37) (exec_sIdx (.tmp 35) (.tmp 36) (by kernel_rfl) s (by kernel_rfl) ((k + m : Nat)) (by kernel_rfl) d HD.out) ?_
          refine lnow 25 (.bool (decide ((d.toNat : Int) = 46))) (some 38) ?_
          rw [decide_eq_false (h46)]
          refine lnow 26 (.bool false) (some 39) ?_
          refine lnow 27 (.bool false) (some 40) ?_
          refine lin_done 28 (by kernel_rfl) ?_
          generalize hact : Act.put _ (some 40) _ = act
          simp only [Act.put, List.setIfInBounds_toArray, List.set_cons_succ, List.set_cons_zero] at hact
          subst hact
          have RM : Hid (runL inW L = m) := by rw [Hid, HR.out, DR.out, runL_cons, if_neg (by rw [inW_eq, hb3.out, hb4.out, decide_eq_false h95, decide_eq_false h46]; simp)]; rfl
          clear HR DR HD hd c1
          have E := hR.out.symm.trans (show tokR L = (1, m) by rw [EL.out, tokR_word hb1.out, ← EL.out, RM.out])
          simp only [Prod.mk.injEq] at E
          obtain ⟨E1, E2⟩ := E
          have E3 := E2.symm
          clear E2
          subst E1
          subst E3
          clear hR
          go_upto_region 5 with (fail)
          refine lin_begin (opsOf Try.f18 5) (by kernel_rfl) ?_
          refine lnow 0 (.int .i64 ((k + m : Nat) : Int)) (some 43) ?_
          refine lnow 1 (.int .i64 (k : Int)) (some 44) ?_
          refine lnow 2 (.int .i64 (IntKind.i64.wrap (((k + m : Nat) : Int) - (k : Int)))) (some 45) ?_
          rw [show IntKind.i64.wrap (((k + m : Nat) : Int) - (k : Int)) = (m : Int) from (IntWalk.i64_in _ (by omega)).trans (by omega)]
          refine lnow 3 (.int .i64 1) (some 4) ?_
          refine lnow 4 (.int .i64 (m : Int)) (some 5) ?_
          refine lin_done 5 (by kernel_rfl) ?_
          generalize hact : Act.put _ (some 5) _ = act
          simp only [Act.put, List.setIfInBounds_toArray, List.set_cons_succ, List.set_cons_zero] at hact
          subst hact
          go_wp2
          go_ret2
          exact ⟨rfl, rfl⟩
  | false =>
    obtain ⟨b2, hb2⟩ : ∃ b, Hid (isDig c = b) := ⟨_, rfl⟩
    go_upto_region 6 with (fail)
    refine lin_begin (opsOf Try.f18 6) (by kernel_rfl) ?_
    refine lnow 0 (sT s) (some 47) ?_
    refine lnow 1 (.int .i64 (k : Int)) (some 48) ?_
    refine lnowP 2 (.int .u8 (c.toNat : Int)) (some 49) (exec_sIdx (.tmp 47) (.tmp 48) (by kernel_rfl) s (by kernel_rfl) (k) (by kernel_rfl) c HC.out) ?_
    refine lin_call 3 22 #[.int .u8 (c.toNat : Int)] (some 50) _ (by kernel_rfl) (by kernel_rfl) (by kernel_rfl) (xrdig_walk c _) ?_
    rintro e w1 ⟨rfl, hw1⟩
    obtain rfl := hw1.symm
    refine ⟨_, rfl, ?_⟩
    rw [hb2.out]
    refine lnow 4 (.bool b2) (some 46) ?_
    refine lin_done 5 (by kernel_rfl) ?_
    generalize hact : Act.put _ (some 46) _ = act
    simp only [Act.put, List.setIfInBounds_toArray, List.set_cons_succ, List.set_cons_zero] at hact
    subst hact
    cases b2 with
    | true =>
      go_wp2
      go_loop [6] (fun nv => ∃ m : Nat, m ≤ L.length ∧ nv = .int .i64 ((k + m : Nat) : Int) ∧ Hid (runL isDig L = m + runL isDig (L.drop m))) (fun nv => S - (intOf nv).toNat)
      case atStart => exact ⟨0, Nat.zero_le _, rfl, by rw [Hid, List.drop_zero, Nat.zero_add]⟩
      case round =>
        obtain ⟨m, hm, rfl, HR⟩ := hrel
        have ks := KS.out
        have sb := SB.out
        by_cases hlt : m < L.length
        rotate_left
        · skip
          obtain rfl : m = L.length := by omega
          have RM : Hid (runL isDig L = L.length) := by rw [Hid, HR.out, List.drop_eq_nil_of_le (Nat.le_refl _)]; rfl
          have c1 : ¬ (((k + L.length : Nat) : Int) < (S : Int)) := by omega
          clear HR
          obtain ⟨M, hM⟩ : ∃ M, Hid (L.length = M) := ⟨_, rfl⟩
          rw [hM.out] at RM c1 ks L1 ⊢
          go_upto_region 7 with (fail)
          refine lin_begin (opsOf Try.f18 7) (by kernel_rfl) ?_
          refine lnow 0 (.int .i64 ((k + M : Nat) : Int)) (some 51) ?_
          refine lnow 1 (sT s) (some 52) ?_
          refine lnow 2 (.int .i64 (s.length : Int)) (some 53) ?_
          rw [hS.out]
          refine lnow 3 (.bool (decide (((k + M : Nat) : Int) < (S : Int)))) (some 54) ?_
          rw [decide_eq_false (c1)]
          refine lnow 4 (.bool false) (some 55) ?_
          refine lpas 5 (some 56) ?_
          refine lpas 6 (some 57) ?_
          refine lpas 7 (some 58) ?_
          refine lpas 8 (some 59) ?_
          refine lnow 9 (.bool false) (some 60) ?_
          refine lin_done 10 (by kernel_rfl) ?_
          generalize hact : Act.put _ (some 60) _ = act
          simp only [Act.put, List.setIfInBounds_toArray, List.set_cons_succ, List.set_cons_zero] at hact
          subst hact
          have TQ : Hid (tokR L = if 6 < M ∨ (1 < M ∧ c = 48) then (0, 0) else (2, M)) := by have h := tokR_num (r := r) hb2.out; rw [← EL.out, RM.out] at h; exact h
          by_cases h6 : (M : Int) > 6
          · skip
            have E := hR.out.symm.trans (show tokR L = (0, 0) by rw [TQ.out]; exact if_pos (.inl (by omega)))
            simp only [Prod.mk.injEq] at E
            obtain ⟨E1, E2⟩ := E
            have E3 := E2.symm
            clear E2
            subst E1
            subst E3
            clear hR
            go_upto_region 9 with (fail)
            refine lin_begin (opsOf Try.f18 9) (by kernel_rfl) ?_
            refine lnow 0 (.int .i64 ((k + M : Nat) : Int)) (some 63) ?_
            refine lnow 1 (.int .i64 (k : Int)) (some 64) ?_
            refine lnow 2 (.int .i64 (IntKind.i64.wrap (((k + M : Nat) : Int) - (k : Int)))) (some 65) ?_
            rw [show IntKind.i64.wrap (((k + M : Nat) : Int) - (k : Int)) = (M : Int) from (IntWalk.i64_in _ (by omega)).trans (by omega)]
            refine lnow 3 (.bool (decide ((M : Int) > 6))) (some 66) ?_
            rw [decide_eq_true (h6)]
            refine lnow 4 (.bool true) (some 67) ?_
            refine lpas 5 (some 68) ?_
            refine lpas 6 (some 69) ?_
            refine lpas 7 (some 70) ?_
            refine lpas 8 (some 71) ?_
            refine lpas 9 (some 72) ?_
            refine lpas 10 (some 73) ?_
            refine lpas 11 (some 74) ?_
            refine lpas 12 (some 75) ?_
            refine lpas 13 (some 76) ?_
            refine lpas 14 (some 77) ?_
            refine lnow 15 (.bool true) (some 78) ?_
            refine lin_done 16 (by kernel_rfl) ?_
            generalize hact : Act.put _ (some 78) _ = act
            simp only [Act.put, List.setIfInBounds_toArray, List.set_cons_succ, List.set_cons_zero] at hact
            subst hact
            clear TQ
            go_upto_region 10 with (fail)
            refine lin_begin (opsOf Try.f18 10) (by kernel_rfl) ?_
            refine lnow 0 (.int .i64 0) (some 4) ?_
            refine lnow 1 (.int .i64 0) (some 5) ?_
            refine lin_done 2 (by kernel_rfl) ?_
            generalize hact : Act.put _ (some 5) _ = act
            simp only [Act.put, List.setIfInBounds_toArray, List.set_cons_succ, List.set_cons_zero] at hact
            subst hact
            go_wp2
            go_ret2
            exact ⟨rfl, rfl⟩
          by_cases h1 : (M : Int) > 1
          · by_cases hc48 : (c.toNat : Int) = 48
            · skip
              have E := hR.out.symm.trans (show tokR L = (0, 0) by rw [TQ.out]; exact if_pos (.inr ⟨by omega, (u8_eq (n := 48) (by decide)).1 hc48⟩))
              simp only [Prod.mk.injEq] at E
              obtain ⟨E1, E2⟩ := E
              have E3 := E2.symm
              clear E2
              subst E1
              subst E3
              clear hR
              go_upto_region 9 with (fail)
              refine lin_begin (opsOf Try.f18 9) (by kernel_rfl) ?_
              refine lnow 0 (.int .i64 ((k + M : Nat) : Int)) (some 63) ?_
              refine lnow 1 (.int .i64 (k : Int)) (some 64) ?_
              refine lnow 2 (.int .i64 (IntKind.i64.wrap (((k + M : Nat) : Int) - (k : Int)))) (some 65) ?_
              rw [show IntKind.i64.wrap (((k + M : Nat) : Int) - (k : Int)) = (M : Int) from (IntWalk.i64_in _ (by omega)).trans (by omega)]
              refine lnow 3 (.bool (decide ((M : Int) > 6))) (some 66) ?_
              rw [decide_eq_false (h6)]
              refine lnow 4 (.bool false) (some 67) ?_
              refine lnow 5 (.int .i64 ((k + M : Nat) : Int)) (some 68) ?_
              refine lnow 6 (.int .i64 (k : Int)) (some 69) ?_
              refine lnow 7 (.int .i64 (IntKind.i64.wrap (((k + M : Nat) : Int) - (k : Int)))) (some 70) ?_
              rw [show IntKind.i64.wrap (((k + M : Nat) : Int) - (k : Int)) = (M : Int) from (IntWalk.i64_in _ (by omega)).trans (by omega)]
              refine lnow 8 (.bool (decide ((M : Int) > 1))) (some 71) ?_
              rw [decide_eq_true (h1)]
              refine lnow 9 (.bool true) (some 72) ?_
              refine lnow 10 (sT s) (some 73) ?_
              refine lnow 11 (.int .i64 (k : Int)) (some 74) ?_
              refine lnowP 12 (.int .u8 (c.toNat : Int)) (some 75) (exec_sIdx (.tmp 73) (.tmp 74) (by kernel_rfl) s (by kernel_rfl) (k) (by kernel_rfl) c HC.out) ?_
              refine lnow 13 (.bool (decide ((c.toNat : Int) = 48))) (some 76) ?_
              rw [decide_eq_true (hc48)]
              refine lnow 14 (.bool true) (some 77) ?_
              refine lnow 15 (.bool true) (some 78) ?_
              refine lin_done 16 (by kernel_rfl) ?_
              generalize hact : Act.put _ (some 78) _ = act
              simp only [Act.put, List.setIfInBounds_toArray, List.set_cons_succ, List.set_cons_zero] at hact
              subst hact
              clear TQ
              go_upto_region 10 with (fail)
              refine lin_begin (opsOf Try.f18 10) (by kernel_rfl) ?_
              refine lnow 0 (.int .i64 0) (some 4) ?_
              refine lnow 1 (.int .i64 0) (some 5) ?_
              refine lin_done 2 (by kernel_rfl) ?_
              generalize hact : Act.put _ (some 5) _ = act
              simp only [Act.put, List.setIfInBounds_toArray, List.set_cons_succ, List.set_cons_zero] at hact
              subst hact
              go_wp2
              go_ret2
              exact ⟨rfl, rfl⟩
            · skip
              have E := hR.out.symm.trans (show tokR L = (2, M) by rw [TQ.out]; exact if_neg (by rintro (h | h); omega; (have e := h.2; subst e; exact hc48 rfl)))
              simp only [Prod.mk.injEq] at E
              obtain ⟨E1, E2⟩ := E
              have E3 := E2.symm
              clear E2
              subst E1
              subst E3
              clear hR
              go_upto_region 9 with (fail)
              refine lin_begin (opsOf Try.f18 9) (by kernel_rfl) ?_
              refine lnow 0 (.int .i64 ((k + M : Nat) : Int)) (some 63) ?_
              refine lnow 1 (.int .i64 (k : Int)) (some 64) ?_
              refine lnow 2 (.int .i64 (IntKind.i64.wrap (((k + M : Nat) : Int) - (k : Int)))) (some 65) ?_
              rw [show IntKind.i64.wrap (((k + M : Nat) : Int) - (k : Int)) = (M : Int) from (IntWalk.i64_in _ (by omega)).trans (by omega)]
              refine lnow 3 (.bool (decide ((M : Int) > 6))) (some 66) ?_
              rw [decide_eq_false (h6)]
              refine lnow 4 (.bool false) (some 67) ?_
              refine lnow 5 (.int .i64 ((k + M : Nat) : Int)) (some 68) ?_
              refine lnow 6 (.int .i64 (k : Int)) (some 69) ?_
              refine lnow 7 (.int .i64 (IntKind.i64.wrap (((k + M : Nat) : Int) - (k : Int)))) (some 70) ?_
              rw [show IntKind.i64.wrap (((k + M : Nat) : Int) - (k : Int)) = (M : Int) from (IntWalk.i64_in _ (by omega)).trans (by omega)]
              refine lnow 8 (.bool (decide ((M : Int) > 1))) (some 71) ?_
              rw [decide_eq_true (h1)]
              refine lnow 9 (.bool true) (some 72) ?_
              refine lnow 10 (sT s) (some 73) ?_
              refine lnow 11 (.int .i64 (k : Int)) (some 74) ?_
              refine lnowP 12 (.int .u8 (c.toNat : Int)) (some 75) (exec_sIdx (.tmp 73) (.tmp 74) (by kernel_rfl) s (by kernel_rfl) (k) (by kernel_rfl) c HC.out) ?_
              refine lnow 13 (.bool (decide ((c.toNat : Int) = 48))) (some 76) ?_
              rw [decide_eq_false (hc48)]
              refine lnow 14 (.bool false) (some 77) ?_
              refine lnow 15 (.bool false) (some 78) ?_
              refine lin_done 16 (by kernel_rfl) ?_
              generalize hact : Act.put _ (some 78) _ = act
              simp only [Act.put, List.setIfInBounds_toArray, List.set_cons_succ, List.set_cons_zero] at hact
              subst hact
              clear TQ
              go_upto_region 11 with (fail)
              refine lin_begin (opsOf Try.f18 11) (by kernel_rfl) ?_
              refine lnow 0 (.int .i64 ((k + M : Nat) : Int)) (some 79) ?_
              refine lnow 1 (.int .i64 (k : Int)) (some 80) ?_
              refine lnow 2 (.int .i64 (IntKind.i64.wrap (((k + M : Nat) : Int) - (k : Int)))) (some 81) ?_
              rw [show IntKind.i64.wrap (((k + M : Nat) : Int) - (k : Int)) = (M : Int) from (IntWalk.i64_in _ (by omega)).trans (by omega)]
              refine lnow 3 (.int .i64 2) (some 4) ?_
              refine lnow 4 (.int .i64 (M : Int)) (some 5) ?_
              refine lin_done 5 (by kernel_rfl) ?_
              generalize hact : Act.put _ (some 5) _ = act
              simp only [Act.put, List.setIfInBounds_toArray, List.set_cons_succ, List.set_cons_zero] at hact
              subst hact
              go_wp2
              go_ret2
              exact ⟨rfl, rfl⟩
          have E := hR.out.symm.trans (show tokR L = (2, M) by rw [TQ.out]; exact if_neg (by rintro (h | h); omega; (have h1 := h.1; omega)))
          simp only [Prod.mk.injEq] at E
          obtain ⟨E1, E2⟩ := E
          have E3 := E2.symm
          clear E2
          subst E1
          subst E3
          clear hR
          go_upto_region 9 with (fail)
          refine lin_begin (opsOf Try.f18 9) (by kernel_rfl) ?_
          refine lnow 0 (.int .i64 ((k + M : Nat) : Int)) (some 63) ?_
          refine lnow 1 (.int .i64 (k : Int)) (some 64) ?_
          refine lnow 2 (.int .i64 (IntKind.i64.wrap (((k + M : Nat) : Int) - (k : Int)))) (some 65) ?_
          rw [show IntKind.i64.wrap (((k + M : Nat) : Int) - (k : Int)) = (M : Int) from (IntWalk.i64_in _ (by omega)).trans (by omega)]
          refine lnow 3 (.bool (decide ((M : Int) > 6))) (some 66) ?_
          rw [decide_eq_false (h6)]
          refine lnow 4 (.bool false) (some 67) ?_
          refine lnow 5 (.int .i64 ((k + M : Nat) : Int)) (some 68) ?_
          refine lnow 6 (.int .i64 (k : Int)) (some 69) ?_
          refine lnow 7 (.int .i64 (IntKind.i64.wrap (((k + M : Nat) : Int) - (k : Int)))) (some 70) ?_
          rw [show IntKind.i64.wrap (((k + M : Nat) : Int) - (k : Int)) = (M : Int) from (IntWalk.i64_in _ (by omega)).trans (by omega)]
          refine lnow 8 (.bool (decide ((M : Int) > 1))) (some 71) ?_
          rw [decide_eq_false (h1)]
          refine lnow 9 (.bool false) (some 72) ?_
          refine lpas 10 (some 73) ?_
          refine lpas 11 (some 74) ?_
          refine lpas 12 (some 75) ?_
          refine lpas 13 (some 76) ?_
          refine lnow 14 (.bool false) (some 77) ?_
          refine lnow 15 (.bool false) (some 78) ?_
          refine lin_done 16 (by kernel_rfl) ?_
          generalize hact : Act.put _ (some 78) _ = act
          simp only [Act.put, List.setIfInBounds_toArray, List.set_cons_succ, List.set_cons_zero] at hact
          subst hact
          clear TQ
          go_upto_region 11 with (fail)
          refine lin_begin (opsOf Try.f18 11) (by kernel_rfl) ?_
          refine lnow 0 (.int .i64 ((k + M : Nat) : Int)) (some 79) ?_
          refine lnow 1 (.int .i64 (k : Int)) (some 80) ?_
          refine lnow 2 (.int .i64 (IntKind.i64.wrap (((k + M : Nat) : Int) - (k : Int)))) (some 81) ?_
          rw [show IntKind.i64.wrap (((k + M : Nat) : Int) - (k : Int)) = (M : Int) from (IntWalk.i64_in _ (by omega)).trans (by omega)]
          refine lnow 3 (.int .i64 2) (some 4) ?_
          refine lnow 4 (.int .i64 (M : Int)) (some 5) ?_
          refine lin_done 5 (by kernel_rfl) ?_
          generalize hact : Act.put _ (some 5) _ = act
          simp only [Act.put, List.setIfInBounds_toArray, List.set_cons_succ, List.set_cons_zero] at hact
          subst hact
          go_wp2
          go_ret2
          exact ⟨rfl, rfl⟩
        have c1 : (((k + m : Nat) : Int) < (S : Int)) := by omega
        obtain ⟨d, hd⟩ : ∃ d, Hid (L[m]? = some d) := ⟨_, List.getElem?_eq_getElem (by omega)⟩
        have HD : Hid (s[(k + m : Nat)]? = some d) := by have h := hd.out; rw [← hL.out, List.getElem?_drop] at h; exact h
        have DR : Hid (L.drop m = d :: L.drop (m + 1)) := by have h := hd.out; rw [Hid, List.drop_eq_getElem_cons (by omega)]; rw [List.getElem?_eq_getElem (by omega)] at h; rw [Option.some.inj h]
        obtain ⟨b4, hb4⟩ : ∃ b, Hid (isDig d = b) := ⟨_, rfl⟩
        cases b4 with
        | true =>
          go_upto_region 7 with (fail)
          refine lin_begin (opsOf Try.f18 7) (by kernel_rfl) ?_
          refine lnow 0 (.int .i64 ((k + m : Nat) : Int)) (some 51) ?_
          refine lnow 1 (sT s) (some 52) ?_
          refine lnow 2 (.int .i64 (s.length : Int)) (some 53) ?_
          rw [hS.out]
          refine lnow 3 (.bool (decide (((k + m : Nat) : Int) < (S : Int)))) (some 54) ?_
          rw [decide_eq_true (c1)]
          refine lnow 4 (.bool true) (some 55) ?_
          refine lnow 5 (sT s) (some 56) ?_
          refine lnow 6 (.int .i64 ((k + m : Nat) : Int)) (some 57) ?_
          refine lnowP 7 (.int .u8 (d.toNat : Int)) (some 58) (exec_sIdx (.tmp 56) (.tmp 57) (by kernel_rfl) s (by kernel_rfl) ((k + m : Nat)) (by kernel_rfl) d HD.out) ?_
          refine lin_call 8 22 #[.int .u8 (d.toNat : Int)] (some 59) _ (by kernel_rfl) (by kernel_rfl) (by kernel_rfl) (xrdig_walk d _) ?_
          rintro e w1 ⟨rfl, hw1⟩
          obtain rfl := hw1.symm
          refine ⟨_, rfl, ?_⟩
          rw [hb4.out]
          refine lnow 9 (.bool true) (some 60) ?_
          refine lin_done 10 (by kernel_rfl) ?_
          generalize hact : Act.put _ (some 60) _ = act
          simp only [Act.put, List.setIfInBounds_toArray, List.set_cons_succ, List.set_cons_zero] at hact
          subst hact
          have HR2 : Hid (runL isDig L = (m + 1) + runL isDig (L.drop (m + 1))) := by rw [Hid, HR.out, DR.out, runL_cons, if_pos (hb4.out)]; omega
          clear HR DR HD hd c1
          go_wp2
          go_round
          case rel => exact ⟨m + 1, by omega, by go_num, HR2⟩
          case measure => simp [intOf]; omega
        | false =>
          go_upto_region 7 with (fail)
          refine lin_begin (opsOf Try.f18 7) (by kernel_rfl) ?_
          refine lnow 0 (.int .i64 ((k + m : Nat) : Int)) (some 51) ?_
          refine lnow 1 (sT s) (some 52) ?_
          refine lnow 2 (.int .i64 (s.length : Int)) (some 53) ?_
          rw [hS.out]
          refine lnow 3 (.bool (decide (((k + m : Nat) : Int) < (S : Int)))) (some 54) ?_
          rw [decide_eq_true (c1)]
          refine lnow 4 (.bool true) (some 55) ?_
          refine lnow 5 (sT s) (some 56) ?_
          refine lnow 6 (.int .i64 ((k + m : Nat) : Int)) (some 57) ?_
          refine lnowP 7 (.int .u8 (d.toNat : Int)) (some 58) (exec_sIdx (.tmp 56) (.tmp 57) (by kernel_rfl) s (by kernel_rfl) ((k + m : Nat)) (by kernel_rfl) d HD.out) ?_
          refine lin_call 8 22 #[.int .u8 (d.toNat : Int)] (some 59) _ (by kernel_rfl) (by kernel_rfl) (by kernel_rfl) (xrdig_walk d _) ?_
          rintro e w1 ⟨rfl, hw1⟩
          obtain rfl := hw1.symm
          refine ⟨_, rfl, ?_⟩
          rw [hb4.out]
          refine lnow 9 (.bool false) (some 60) ?_
          refine lin_done 10 (by kernel_rfl) ?_
          generalize hact : Act.put _ (some 60) _ = act
          simp only [Act.put, List.setIfInBounds_toArray, List.set_cons_succ, List.set_cons_zero] at hact
          subst hact
          have RM : Hid (runL isDig L = m) := by rw [Hid, HR.out, DR.out, runL_cons, if_neg (by rw [hb4.out]; simp)]; rfl
          clear HR DR HD hd c1
          have TQ : Hid (tokR L = if 6 < m ∨ (1 < m ∧ c = 48) then (0, 0) else (2, m)) := by have h := tokR_num (r := r) hb2.out; rw [← EL.out, RM.out] at h; exact h
          by_cases h6 : (m : Int) > 6
          · skip
            have E := hR.out.symm.trans (show tokR L = (0, 0) by rw [TQ.out]; exact if_pos (.inl (by omega)))
            simp only [Prod.mk.injEq] at E
            obtain ⟨E1, E2⟩ := E
            have E3 := E2.symm
            clear E2
            subst E1
            subst E3
            clear hR
            go_upto_region 9 with (fail)
            refine lin_begin (opsOf Try.f18 9) (by kernel_rfl) ?_
            refine lnow 0 (.int .i64 ((k + m : Nat) : Int)) (some 63) ?_
            refine lnow 1 (.int .i64 (k : Int)) (some 64) ?_
            refine lnow 2 (.int .i64 (IntKind.i64.wrap (((k + m : Nat) : Int) - (k : Int)))) (some 65) ?_
            rw [show IntKind.i64.wrap (((k + m : Nat) : Int) - (k : Int)) = (m : Int) from (IntWalk.i64_in _ (by omega)).trans (by omega)]
            refine lnow 3 (.bool (decide ((m : Int) > 6))) (some 66) ?_
            rw [decide_eq_true (h6)]
            refine lnow 4 (.bool true) (some 67) ?_
            refine lpas 5 (some 68) ?_
            refine lpas 6 (some 69) ?_
            refine lpas 7 (some 70) ?_
            refine lpas 8 (some 71) ?_
            refine lpas 9 (some 72) ?_
            refine lpas 10 (some 73) ?_
            refine lpas 11 (some 74) ?_
            refine lpas 12 (some 75) ?_
            refine lpas 13 (some 76) ?_
            refine lpas 14 (some 77) ?_
            refine lnow 15 (.bool true) (some 78) ?_
            refine lin_done 16 (by kernel_rfl) ?_
            generalize hact : Act.put _ (some 78) _ = act
            simp only [Act.put, List.setIfInBounds_toArray, List.set_cons_succ, List.set_cons_zero] at hact
            subst hact
            clear TQ
            go_upto_region 10 with (fail)
            refine lin_begin (opsOf Try.f18 10) (by kernel_rfl) ?_
            refine lnow 0 (.int .i64 0) (some 4) ?_
            refine lnow 1 (.int .i64 0) (some 5) ?_
            refine lin_done 2 (by kernel_rfl) ?_
            generalize hact : Act.put _ (some 5) _ = act
            simp only [Act.put, List.setIfInBounds_toArray, List.set_cons_succ, List.set_cons_zero] at hact
            subst hact
            go_wp2
            go_ret2
            exact ⟨rfl, rfl⟩
          by_cases h1 : (m : Int) > 1
          · by_cases hc48 : (c.toNat : Int) = 48
            · skip
              have E := hR.out.symm.trans (show tokR L = (0, 0) by rw [TQ.out]; exact if_pos (.inr ⟨by omega, (u8_eq (n := 48) (by decide)).1 hc48⟩))
              simp only [Prod.mk.injEq] at E
              obtain ⟨E1, E2⟩ := E
              have E3 := E2.symm
              clear E2
              subst E1
              subst E3
              clear hR
              go_upto_region 9 with (fail)
              refine lin_begin (opsOf Try.f18 9) (by kernel_rfl) ?_
              refine lnow 0 (.int .i64 ((k + m : Nat) : Int)) (some 63) ?_
              refine lnow 1 (.int .i64 (k : Int)) (some 64) ?_
              refine lnow 2 (.int .i64 (IntKind.i64.wrap (((k + m : Nat) : Int) - (k : Int)))) (some 65) ?_
              rw [show IntKind.i64.wrap (((k + m : Nat) : Int) - (k : Int)) = (m : Int) from (IntWalk.i64_in _ (by omega)).trans (by omega)]
              refine lnow 3 (.bool (decide ((m : Int) > 6))) (some 66) ?_
              rw [decide_eq_false (h6)]
              refine lnow 4 (.bool false) (some 67) ?_
              refine lnow 5 (.int .i64 ((k + m : Nat) : Int)) (some 68) ?_
              refine lnow 6 (.int .i64 (k : Int)) (some 69) ?_
              refine lnow 7 (.int .i64 (IntKind.i64.wrap (((k + m : Nat) : Int) - (k : Int)))) (some 70) ?_
              rw [show IntKind.i64.wrap (((k + m : Nat) : Int) - (k : Int)) = (m : Int) from (IntWalk.i64_in _ (by omega)).trans (by omega)]
              refine lnow 8 (.bool (decide ((m : Int) > 1))) (some 71) ?_
              rw [decide_eq_true (h1)]
              refine lnow 9 (.bool true) (some 72) ?_
              refine lnow 10 (sT s) (some 73) ?_
              refine lnow 11 (.int .i64 (k : Int)) (some 74) ?_
              refine lnowP 12 (.int .u8 (c.toNat : Int)) (some 75) (exec_sIdx (.tmp 73) (.tmp 74) (by kernel_rfl) s (by kernel_rfl) (k) (by kernel_rfl) c HC.out) ?_
              refine lnow 13 (.bool (decide ((c.toNat : Int) = 48))) (some 76) ?_
              rw [decide_eq_true (hc48)]
              refine lnow 14 (.bool true) (some 77) ?_
              refine lnow 15 (.bool true) (some 78) ?_
              refine lin_done 16 (by kernel_rfl) ?_
              generalize hact : Act.put _ (some 78) _ = act
              simp only [Act.put, List.setIfInBounds_toArray, List.set_cons_succ, List.set_cons_zero] at hact
              subst hact
              clear TQ
              go_upto_region 10 with (fail)
              refine lin_begin (opsOf Try.f18 10) (by kernel_rfl) ?_
              refine lnow 0 (.int .i64 0) (some 4) ?_
              refine lnow 1 (.int .i64 0) (some 5) ?_
              refine lin_done 2 (by kernel_rfl) ?_
              generalize hact : Act.put _ (some 5) _ = act
              simp only [Act.put, List.setIfInBounds_toArray, List.set_cons_succ, List.set_cons_zero] at hact
              subst hact
              go_wp2
              go_ret2
              exact ⟨rfl, rfl⟩
            · skip
              have E := hR.out.symm.trans (show tokR L = (2, m) by rw [TQ.out]; exact if_neg (by rintro (h | h); omega; (have e := h.2; subst e; exact hc48 rfl)))
              simp only [Prod.mk.injEq] at E
              obtain ⟨E1, E2⟩ := E
              have E3 := E2.symm
              clear E2
              subst E1
              subst E3
              clear hR
              go_upto_region 9 with (fail)
              refine lin_begin (opsOf Try.f18 9) (by kernel_rfl) ?_
              refine lnow 0 (.int .i64 ((k + m : Nat) : Int)) (some 63) ?_
              refine lnow 1 (.int .i64 (k : Int)) (some 64) ?_
              refine lnow 2 (.int .i64 (IntKind.i64.wrap (((k + m : Nat) : Int) - (k : Int)))) (some 65) ?_
              rw [show IntKind.i64.wrap (((k + m : Nat) : Int) - (k : Int)) = (m : Int) from (IntWalk.i64_in _ (by omega)).trans (by omega)]
              refine lnow 3 (.bool (decide ((m : Int) > 6))) (some 66) ?_
              rw [decide_eq_false (h6)]
              refine lnow 4 (.bool false) (some 67) ?_
              refine lnow 5 (.int .i64 ((k + m : Nat) : Int)) (some 68) ?_
              refine lnow 6 (.int .i64 (k : Int)) (some 69) ?_
              refine lnow 7 (.int .i64 (IntKind.i64.wrap (((k + m : Nat) : Int) - (k : Int)))) (some 70) ?_
              rw [show IntKind.i64.wrap (((k + m : Nat) : Int) - (k : Int)) = (m : Int) from (IntWalk.i64_in _ (by omega)).trans (by omega)]
              refine lnow 8 (.bool (decide ((m : Int) > 1))) (some 71) ?_
              rw [decide_eq_true (h1)]
              refine lnow 9 (.bool true) (some 72) ?_
              refine lnow 10 (sT s) (some 73) ?_
              refine lnow 11 (.int .i64 (k : Int)) (some 74) ?_
              refine lnowP 12 (.int .u8 (c.toNat : Int)) (some 75) (exec_sIdx (.tmp 73) (.tmp 74) (by kernel_rfl) s (by kernel_rfl) (k) (by kernel_rfl) c HC.out) ?_
              refine lnow 13 (.bool (decide ((c.toNat : Int) = 48))) (some 76) ?_
              rw [decide_eq_false (hc48)]
              refine lnow 14 (.bool false) (some 77) ?_
              refine lnow 15 (.bool false) (some 78) ?_
              refine lin_done 16 (by kernel_rfl) ?_
              generalize hact : Act.put _ (some 78) _ = act
              simp only [Act.put, List.setIfInBounds_toArray, List.set_cons_succ, List.set_cons_zero] at hact
              subst hact
              clear TQ
              go_upto_region 11 with (fail)
              refine lin_begin (opsOf Try.f18 11) (by kernel_rfl) ?_
              refine lnow 0 (.int .i64 ((k + m : Nat) : Int)) (some 79) ?_
              refine lnow 1 (.int .i64 (k : Int)) (some 80) ?_
              refine lnow 2 (.int .i64 (IntKind.i64.wrap (((k + m : Nat) : Int) - (k : Int)))) (some 81) ?_
              rw [show IntKind.i64.wrap (((k + m : Nat) : Int) - (k : Int)) = (m : Int) from (IntWalk.i64_in _ (by omega)).trans (by omega)]
              refine lnow 3 (.int .i64 2) (some 4) ?_
              refine lnow 4 (.int .i64 (m : Int)) (some 5) ?_
              refine lin_done 5 (by kernel_rfl) ?_
              generalize hact : Act.put _ (some 5) _ = act
              simp only [Act.put, List.setIfInBounds_toArray, List.set_cons_succ, List.set_cons_zero] at hact
              subst hact
              go_wp2
              go_ret2
              exact ⟨rfl, rfl⟩
          have E := hR.out.symm.trans (show tokR L = (2, m) by rw [TQ.out]; exact if_neg (by rintro (h | h); omega; (have h1 := h.1; omega)))
          simp only [Prod.mk.injEq] at E
          obtain ⟨E1, E2⟩ := E
          have E3 := E2.symm
          clear E2
          subst E1
          subst E3
          clear hR
          go_upto_region 9 with (fail)
          refine lin_begin (opsOf Try.f18 9) (by kernel_rfl) ?_
          refine lnow 0 (.int .i64 ((k + m : Nat) : Int)) (some 63) ?_
          refine lnow 1 (.int .i64 (k : Int)) (some 64) ?_
          refine lnow 2 (.int .i64 (IntKind.i64.wrap (((k + m : Nat) : Int) - (k : Int)))) (some 65) ?_
          rw [show IntKind.i64.wrap (((k + m : Nat) : Int) - (k : Int)) = (m : Int) from (IntWalk.i64_in _ (by omega)).trans (by omega)]
          refine lnow 3 (.bool (decide ((m : Int) > 6))) (some 66) ?_
          rw [decide_eq_false (h6)]
          refine lnow 4 (.bool false) (some 67) ?_
          refine lnow 5 (.int .i64 ((k + m : Nat) : Int)) (some 68) ?_
          refine lnow 6 (.int .i64 (k : Int)) (some 69) ?_
          refine lnow 7 (.int .i64 (IntKind.i64.wrap (((k + m : Nat) : Int) - (k : Int)))) (some 70) ?_
          rw [show IntKind.i64.wrap (((k + m : Nat) : Int) - (k : Int)) = (m : Int) from (IntWalk.i64_in _ (by omega)).trans (by omega)]
          refine lnow 8 (.bool (decide ((m : Int) > 1))) (some 71) ?_
          rw [decide_eq_false (h1)]
          refine lnow 9 (.bool false) (some 72) ?_
          refine lpas 10 (some 73) ?_
          refine lpas 11 (some 74) ?_
          refine lpas 12 (some 75) ?_
          refine lpas 13 (some 76) ?_
          refine lnow 14 (.bool false) (some 77) ?_
          refine lnow 15 (.bool false) (some 78) ?_
          refine lin_done 16 (by kernel_rfl) ?_
          generalize hact : Act.put _ (some 78) _ = act
          simp only [Act.put, List.setIfInBounds_toArray, List.set_cons_succ, List.set_cons_zero] at hact
          subst hact
          clear TQ
          go_upto_region 11 with (fail)
          refine lin_begin (opsOf Try.f18 11) (by kernel_rfl) ?_
          refine lnow 0 (.int .i64 ((k + m : Nat) : Int)) (some 79) ?_
          refine lnow 1 (.int .i64 (k : Int)) (some 80) ?_
          refine lnow 2 (.int .i64 (IntKind.i64.wrap (((k + m : Nat) : Int) - (k : Int)))) (some 81) ?_
          rw [show IntKind.i64.wrap (((k + m : Nat) : Int) - (k : Int)) = (m : Int) from (IntWalk.i64_in _ (by omega)).trans (by omega)]
          refine lnow 3 (.int .i64 2) (some 4) ?_
          refine lnow 4 (.int .i64 (m : Int)) (some 5) ?_
          refine lin_done 5 (by kernel_rfl) ?_
          generalize hact : Act.put _ (some 5) _ = act
          simp only [Act.put, List.setIfInBounds_toArray, List.set_cons_succ, List.set_cons_zero] at hact
          subst hact
          go_wp2
          go_ret2
          exact ⟨rfl, rfl⟩
    | false =>
      have ks := KS.out
      have sb := SB.out
      have l1 := L1.out
      have TQ : Hid (tokR L = if Lib.hasPrefix L [58, 61] = true then (3, 2) else if 0 ≤ Lib.indexByte signs12 c then (3, 1) else (0, 0)) := by have h := tokR_sign (r := r) hb1.out hb2.out; rw [← EL.out] at h; exact h
      have PQ : Hid (Lib.hasPrefix L [58, 61] = ((58 : UInt8) == c && isHd 61 r)) := by rw [Hid, EL.out]; exact pre2h 58 61 c r
      by_cases h58 : (c.toNat : Int) = 58
      · skip
        by_cases hl2 : ((k + 1 : Nat) : Int) < (S : Int)
        · skip
          obtain ⟨b, r2, er⟩ : ∃ b r2, r = b :: r2 := by cases r with | nil => (have h := congrArg List.length EL.out; simp at h; omega) | cons b r2 => exact ⟨b, r2, rfl⟩
          have HB : Hid (s[(k + 1 : Nat)]? = some b) := by have h : (s.drop k)[1]? = some b := (by rw [hL.out, EL.out, er]; rfl); rw [List.getElem?_drop] at h; exact h
          by_cases h61 : (b.toNat : Int) = 61
          · skip
            have e58 : c = 58 := (u8_eq (n := 58) (by decide)).1 h58
            have e61 : b = 61 := (u8_eq (n := 61) (by decide)).1 h61
            have E := hR.out.symm.trans (show tokR L = (3, 2) by rw [TQ.out]; exact if_pos (by rw [PQ.out, er, e58, e61]; rfl))
            simp only [Prod.mk.injEq] at E
            obtain ⟨E1, E2⟩ := E
            have E3 := E2.symm
            clear E2
            subst E1
            subst E3
            clear hR
            clear TQ PQ
            go_upto_region 12 with (fail)
            refine lin_begin (opsOf Try.f18 12) (by kernel_rfl) ?_
            refine lnow 0 (sT s) (some 83) ?_
            refine lnow 1 (.int .i64 (k : Int)) (some 84) ?_
            refine lnowP 2 (.int .u8 (c.toNat : Int)) (some 85) (exec_sIdx (.tmp 83) (.tmp 84) (by kernel_rfl) s (by kernel_rfl) (k) (by kernel_rfl) c HC.out) ?_
            refine lnow 3 (.bool (decide ((c.toNat : Int) = 58))) (some 86) ?_
            rw [decide_eq_true (h58)]
            refine lnow 4 (.bool true) (some 87) ?_
            refine lnow 5 (.int .i64 (k : Int)) (some 88) ?_
            refine lnow 6 (.int .i64 (IntKind.i64.wrap ((k : Int) + 1))) (some 89) ?_
            rw [show IntKind.i64.wrap ((k : Int) + 1) = ((k + 1 : Nat) : Int) from (IntWalk.i64_in _ (by omega)).trans (by omega)]
            refine lnow 7 (sT s) (some 90) ?_
            refine lnow 8 (.int .i64 (s.length : Int)) (some 91) ?_
            rw [hS.out]
            refine lnow 9 (.bool (decide (((k + 1 : Nat) : Int) < (S : Int)))) (some 92) ?_
            rw [decide_eq_true (hl2)]
            refine lnow 10 (.bool true) (some 93) ?_
            refine lnow 11 (.bool true) (some 94) ?_
            refine lnow 12 (sT s) (some 95) ?_
            refine lnow 13 (.int .i64 (k : Int)) (some 96) ?_
            refine lnow 14 (.int .i64 (IntKind.i64.wrap ((k : Int) + 1))) (some 97) ?_
            rw [show IntKind.i64.wrap ((k : Int) + 1) = ((k + 1 : Nat) : Int) from (IntWalk.i64_in _ (by omega)).trans (by omega)]
            refine lnowP 15 (.int .u8 (b.toNat : Int)) (some 98) (exec_sIdx (.tmp 95) (.tmp 97) (by kernel_rfl) s (by kernel_rfl) ((k + 1 : Nat)) (by kernel_rfl) b HB.out) ?_
            refine lnow 16 (.bool (decide ((b.toNat : Int) = 61))) (some 99) ?_
            rw [decide_eq_true (h61)]
            refine lnow 17 (.bool true) (some 100) ?_
            refine lnow 18 (.bool true) (some 82) ?_
            refine lin_done 19 (by kernel_rfl) ?_
            generalize hact : Act.put _ (some 82) _ = act
            simp only [Act.put, List.setIfInBounds_toArray, List.set_cons_succ, List.set_cons_zero] at hact
            subst hact
            go_upto_region 13 with (fail)
            refine lin_begin (opsOf Try.f18 13) (by kernel_rfl) ?_
            refine lnow 0 (.int .i64 3) (some 4) ?_
            refine lnow 1 (.int .i64 2) (some 5) ?_
            refine lin_done 2 (by kernel_rfl) ?_
            generalize hact : Act.put _ (some 5) _ = act
            simp only [Act.put, List.setIfInBounds_toArray, List.set_cons_succ, List.set_cons_zero] at hact
            subst hact
            go_wp2
            go_ret2
            exact ⟨rfl, rfl⟩
          go_upto_region 12 with (fail)
          refine lin_begin (opsOf Try.f18 12) (by kernel_rfl) ?_
          refine lnow 0 (sT s) (some 83) ?_
          refine lnow 1 (.int .i64 (k : Int)) (some 84) ?_
          refine lnowP 2 (.int .u8 (c.toNat : Int)) (some 85) (exec_sIdx (.tmp 83) (.tmp 84) (by kernel_rfl) s (by kernel_rfl) (k) (by kernel_rfl) c HC.out) ?_
          refine lnow 3 (.bool (decide ((c.toNat : Int) = 58))) (some 86) ?_
          rw [decide_eq_true (h58)]
          refine lnow 4 (.bool true) (some 87) ?_
          refine lnow 5 (.int .i64 (k : Int)) (some 88) ?_
          refine lnow 6 (.int .i64 (IntKind.i64.wrap ((k : Int) + 1))) (some 89) ?_
          rw [show IntKind.i64.wrap ((k : Int) + 1) = ((k + 1 : Nat) : Int) from (IntWalk.i64_in _ (by omega)).trans (by omega)]
          refine lnow 7 (sT s) (some 90) ?_
          refine lnow 8 (.int .i64 (s.length : Int)) (some 91) ?_
          rw [hS.out]
          refine lnow 9 (.bool (decide (((k + 1 : Nat) : Int) < (S : Int)))) (some 92) ?_
          rw [decide_eq_true (hl2)]
          refine lnow 10 (.bool true) (some 93) ?_
          refine lnow 11 (.bool true) (some 94) ?_
          refine lnow 12 (sT s) (some 95) ?_
          refine lnow 13 (.int .i64 (k : Int)) (some 96) ?_
          refine lnow 14 (.int .i64 (IntKind.i64.wrap ((k : Int) + 1))) (some 97) ?_
          rw [show IntKind.i64.wrap ((k : Int) + 1) = ((k + 1 : Nat) : Int) from (IntWalk.i64_in _ (by omega)).trans (by omega)]
          refine lnowP 15 (.int .u8 (b.toNat : Int)) (some 98) (exec_sIdx (.tmp 95) (.tmp 97) (by kernel_rfl) s (by kernel_rfl) ((k + 1 : Nat)) (by kernel_rfl) b HB.out) ?_
          refine lnow 16 (.bool (decide ((b.toNat : Int) = 61))) (some 99) ?_
          rw [decide_eq_false (h61)]
          refine lnow 17 (.bool false) (some 100) ?_
          refine lnow 18 (.bool false) (some 82) ?_
          refine lin_done 19 (by kernel_rfl) ?_
          generalize hact : Act.put _ (some 82) _ = act
          simp only [Act.put, List.setIfInBounds_toArray, List.set_cons_succ, List.set_cons_zero] at hact
          subst hact
          have NP : Hid (¬ Lib.hasPrefix L [58, 61] = true) := by rw [Hid, PQ.out]; rw [er]; intro h; rw [Bool.and_eq_true] at h; have h2 : ((61 : UInt8) == b) = true := h.2; have e : (61 : UInt8) = b := (by simpa using h2); subst e; exact h61 rfl
          have TQ2 : Hid (tokR L = if 0 ≤ Lib.indexByte signs12 c then (3, 1) else (0, 0)) := by rw [Hid, TQ.out, if_neg NP.out]
          clear NP PQ TQ
          obtain ⟨bo, hbo⟩ : ∃ b, Hid (oneB c = b) := ⟨_, rfl⟩
          go_upto_region 14 with (fail)
          refine lin_begin (opsOf Try.f18 14) (by kernel_rfl) ?_
          refine lnow 0 (sT s) (some 102) ?_
          refine lnow 1 (.int .i64 (k : Int)) (some 103) ?_
          refine lnowP 2 (.int .u8 (c.toNat : Int)) (some 104) (exec_sIdx (.tmp 102) (.tmp 103) (by kernel_rfl) s (by kernel_rfl) (k) (by kernel_rfl) c HC.out) ?_
          refine lin_call 3 34 #[.int .u8 (c.toNat : Int)] (some 105) _ (by kernel_rfl) (by kernel_rfl) (by kernel_rfl) (xrone_walk c _) ?_
          rintro e w1 ⟨rfl, hw1⟩
          obtain rfl := hw1.symm
          refine ⟨_, rfl, ?_⟩
          rw [hbo.out]
          refine lnow 4 (.bool bo) (some 101) ?_
          refine lin_done 5 (by kernel_rfl) ?_
          generalize hact : Act.put _ (some 101) _ = act
          simp only [Act.put, List.setIfInBounds_toArray, List.set_cons_succ, List.set_cons_zero] at hact
          subst hact
          cases bo with
          | true =>
            have E := hR.out.symm.trans (show tokR L = (3, 1) by rw [TQ2.out]; exact if_pos (of_decide_eq_true hbo.out))
            simp only [Prod.mk.injEq] at E
            obtain ⟨E1, E2⟩ := E
            have E3 := E2.symm
            clear E2
            subst E1
            subst E3
            clear hR
            go_upto_region 15 with (fail)
            refine lin_begin (opsOf Try.f18 15) (by kernel_rfl) ?_
            refine lnow 0 (.int .i64 3) (some 4) ?_
            refine lnow 1 (.int .i64 1) (some 5) ?_
            refine lin_done 2 (by kernel_rfl) ?_
            generalize hact : Act.put _ (some 5) _ = act
            simp only [Act.put, List.setIfInBounds_toArray, List.set_cons_succ, List.set_cons_zero] at hact
            subst hact
            go_wp2
            go_ret2
            exact ⟨rfl, rfl⟩
          | false =>
            have E := hR.out.symm.trans (show tokR L = (0, 0) by rw [TQ2.out]; exact if_neg (of_decide_eq_false hbo.out))
            simp only [Prod.mk.injEq] at E
            obtain ⟨E1, E2⟩ := E
            have E3 := E2.symm
            clear E2
            subst E1
            subst E3
            clear hR
            go_upto_region 16 with (fail)
            refine lin_begin (opsOf Try.f18 16) (by kernel_rfl) ?_
            refine lnow 0 (.int .i64 0) (some 4) ?_
            refine lnow 1 (.int .i64 0) (some 5) ?_
            refine lin_done 2 (by kernel_rfl) ?_
            generalize hact : Act.put _ (some 5) _ = act
            simp only [Act.put, List.setIfInBounds_toArray, List.set_cons_succ, List.set_cons_zero] at hact
            subst hact
            go_wp2
            go_ret2
            exact ⟨rfl, rfl⟩
        go_upto_region 12 with (fail)
        refine lin_begin (opsOf Try.f18 12) (by kernel_rfl) ?_
        refine lnow 0 (sT s) (some 83) ?_
        refine lnow 1 (.int .i64 (k : Int)) (some 84) ?_
        refine lnowP 2 (.int .u8 (c.toNat : Int)) (some 85) (exec_sIdx (.tmp 83) (.tmp 84) (by kernel_rfl) s (by kernel_rfl) (k) (by kernel_rfl) c HC.out) ?_
        refine lnow 3 (.bool (decide ((c.toNat : Int) = 58))) (some 86) ?_
        rw [decide_eq_true (h58)]
        refine lnow 4 (.bool true) (some 87) ?_
        refine lnow 5 (.int .i64 (k : Int)) (some 88) ?_
        refine lnow 6 (.int .i64 (IntKind.i64.wrap ((k : Int) + 1))) (some 89) ?_
        rw [show IntKind.i64.wrap ((k : Int) + 1) = ((k + 1 : Nat) : Int) from (IntWalk.i64_in _ (by omega)).trans (by omega)]
        refine lnow 7 (sT s) (some 90) ?_
        refine lnow 8 (.int .i64 (s.length : Int)) (some 91) ?_
        rw [hS.out]
        refine lnow 9 (.bool (decide (((k + 1 : Nat) : Int) < (S : Int)))) (some 92) ?_
        rw [decide_eq_false (hl2)]
        refine lnow 10 (.bool false) (some 93) ?_
        refine lnow 11 (.bool false) (some 94) ?_
        refine lpas 12 (some 95) ?_
        refine lpas 13 (some 96) ?_
        refine lpas 14 (some 97) ?_
        refine lpas 15 (some 98) ?_
        refine lpas 16 (some 99) ?_
        refine lnow 17 (.bool false) (some 100) ?_
        refine lnow 18 (.bool false) (some 82) ?_
        refine lin_done 19 (by kernel_rfl) ?_
        generalize hact : Act.put _ (some 82) _ = act
        simp only [Act.put, List.setIfInBounds_toArray, List.set_cons_succ, List.set_cons_zero] at hact
        subst hact
        have NP : Hid (¬ Lib.hasPrefix L [58, 61] = true) := by rw [Hid, PQ.out]; have er : r = [] := (by cases r with | nil => rfl | cons b r2 => (have h := congrArg List.length EL.out; simp at h; omega)); rw [er, isHd, Bool.and_false]; simp
        have TQ2 : Hid (tokR L = if 0 ≤ Lib.indexByte signs12 c then (3, 1) else (0, 0)) := by rw [Hid, TQ.out, if_neg NP.out]
        clear NP PQ TQ
        obtain ⟨bo, hbo⟩ : ∃ b, Hid (oneB c = b) := ⟨_, rfl⟩
        go_upto_region 14 with (fail)
        refine lin_begin (opsOf Try.f18 14) (by kernel_rfl) ?_
        refine lnow 0 (sT s) (some 102) ?_
        refine lnow 1 (.int .i64 (k : Int)) (some 103) ?_
        refine lnowP 2 (.int .u8 (c.toNat : Int)) (some 104) (exec_sIdx (.tmp 102) (.tmp 103) (by kernel_rfl) s (by kernel_rfl) (k) (by kernel_rfl) c HC.out) ?_
        refine lin_call 3 34 #[.int .u8 (c.toNat : Int)] (some 105) _ (by kernel_rfl) (by kernel_rfl) (by kernel_rfl) (xrone_walk c _) ?_
        rintro e w1 ⟨rfl, hw1⟩
        obtain rfl := hw1.symm
        refine ⟨_, rfl, ?_⟩
        rw [hbo.out]
        refine lnow 4 (.bool bo) (some 101) ?_
        refine lin_done 5 (by kernel_rfl) ?_
        generalize hact : Act.put _ (some 101) _ = act
        simp only [Act.put, List.setIfInBounds_toArray, List.set_cons_succ, List.set_cons_zero] at hact
        subst hact
        cases bo with
        | true =>
          have E := hR.out.symm.trans (show tokR L = (3, 1) by rw [TQ2.out]; exact if_pos (of_decide_eq_true hbo.out))
          simp only [Prod.mk.injEq] at E
          obtain ⟨E1, E2⟩ := E
          have E3 := E2.symm
          clear E2
          subst E1
          subst E3
          clear hR
          go_upto_region 15 with (fail)
          refine lin_begin (opsOf Try.f18 15) (by kernel_rfl) ?_
          refine lnow 0 (.int .i64 3) (some 4) ?_
          refine lnow 1 (.int .i64 1) (some 5) ?_
          refine lin_done 2 (by kernel_rfl) ?_
          generalize hact : Act.put _ (some 5) _ = act
          simp only [Act.put, List.setIfInBounds_toArray, List.set_cons_succ, List.set_cons_zero] at hact
          subst hact
          go_wp2
          go_ret2
          exact ⟨rfl, rfl⟩
        | false =>
          have E := hR.out.symm.trans (show tokR L = (0, 0) by rw [TQ2.out]; exact if_neg (of_decide_eq_false hbo.out))
          simp only [Prod.mk.injEq] at E
          obtain ⟨E1, E2⟩ := E
          have E3 := E2.symm
          clear E2
          subst E1
          subst E3
          clear hR
          go_upto_region 16 with (fail)
          refine lin_begin (opsOf Try.f18 16) (by kernel_rfl) ?_
          refine lnow 0 (.int .i64 0) (some 4) ?_
          refine lnow 1 (.int .i64 0) (some 5) ?_
          refine lin_done 2 (by kernel_rfl) ?_
          generalize hact : Act.put _ (some 5) _ = act
          simp only [Act.put, List.setIfInBounds_toArray, List.set_cons_succ, List.set_cons_zero] at hact
          subst hact
          go_wp2
          go_ret2
          exact ⟨rfl, rfl⟩
      go_upto_region 12 with (fail)
      refine lin_begin (opsOf Try.f18 12) (by kernel_rfl) ?_
      refine lnow 0 (sT s) (some 83) ?_
      refine lnow 1 (.int .i64 (k : Int)) (some 84) ?_
      refine lnowP 2 (.int .u8 (c.toNat : Int)) (some 85) (exec_sIdx (.tmp 83) (.tmp 84) (by kernel_rfl) s (by kernel_rfl) (k) (by kernel_rfl) c HC.out) ?_
      refine lnow 3 (.bool (decide ((c.toNat : Int) = 58))) (some 86) ?_
      rw [decide_eq_false (h58)]
      refine lnow 4 (.bool false) (some 87) ?_
      refine lpas 5 (some 88) ?_
      refine lpas 6 (some 89) ?_
      refine lpas 7 (some 90) ?_
      refine lpas 8 (some 91) ?_
      refine lpas 9 (some 92) ?_
      refine lnow 10 (.bool false) (some 93) ?_
      refine lnow 11 (.bool false) (some 94) ?_
      refine lpas 12 (some 95) ?_
      refine lpas 13 (some 96) ?_
      refine lpas 14 (some 97) ?_
      refine lpas 15 (some 98) ?_
      refine lpas 16 (some 99) ?_
      refine lnow 17 (.bool false) (some 100) ?_
      refine lnow 18 (.bool false) (some 82) ?_
      refine lin_done 19 (by kernel_rfl) ?_
      generalize hact : Act.put _ (some 82) _ = act
      simp only [Act.put, List.setIfInBounds_toArray, List.set_cons_succ, List.set_cons_zero] at hact
      subst hact
      have NP : Hid (¬ Lib.hasPrefix L [58, 61] = true) := by rw [Hid, PQ.out]; intro h; rw [Bool.and_eq_true] at h; have e : (58 : UInt8) = c := (by simpa using h.1); subst e; exact h58 rfl
      have TQ2 : Hid (tokR L = if 0 ≤ Lib.indexByte signs12 c then (3, 1) else (0, 0)) := by rw [Hid, TQ.out, if_neg NP.out]
      clear NP PQ TQ
      obtain ⟨bo, hbo⟩ : ∃ b, Hid (oneB c = b) := ⟨_, rfl⟩
      go_upto_region 14 with (fail)
      refine lin_begin (opsOf Try.f18 14) (by kernel_rfl) ?_
      refine lnow 0 (sT s) (some 102) ?_
      refine lnow 1 (.int .i64 (k : Int)) (some 103) ?_
      refine lnowP 2 (.int .u8 (c.toNat : Int)) (some 104) (exec_sIdx (.tmp 102) (.tmp 103) (by kernel_rfl) s (by kernel_rfl) (k) (by kernel_rfl) c HC.out) ?_
      refine lin_call 3 34 #[.int .u8 (c.toNat : Int)] (some 105) _ (by kernel_rfl) (by kernel_rfl) (by kernel_rfl) (xrone_walk c _) ?_
      rintro e w1 ⟨rfl, hw1⟩
      obtain rfl := hw1.symm
      refine ⟨_, rfl, ?_⟩
      rw [hbo.out]
      refine lnow 4 (.bool bo) (some 101) ?_
      refine lin_done 5 (by kernel_rfl) ?_
      generalize hact : Act.put _ (some 101) _ = act
      simp only [Act.put, List.setIfInBounds_toArray, List.set_cons_succ, List.set_cons_zero] at hact
      subst hact
      cases bo with
      | true =>
        have E := hR.out.symm.trans (show tokR L = (3, 1) by rw [TQ2.out]; exact if_pos (of_decide_eq_true hbo.out))
        simp only [Prod.mk.injEq] at E
        obtain ⟨E1, E2⟩ := E
        have E3 := E2.symm
        clear E2
        subst E1
        subst E3
        clear hR
        go_upto_region 15 with (fail)
        refine lin_begin (opsOf Try.f18 15) (by kernel_rfl) ?_
        refine lnow 0 (.int .i64 3) (some 4) ?_
        refine lnow 1 (.int .i64 1) (some 5) ?_
        refine lin_done 2 (by kernel_rfl) ?_
        generalize hact : Act.put _ (some 5) _ = act
        simp only [Act.put, List.setIfInBounds_toArray, List.set_cons_succ, List.set_cons_zero] at hact
        subst hact
        go_wp2
        go_ret2
        exact ⟨rfl, rfl⟩
      | false =>
        have E := hR.out.symm.trans (show tokR L = (0, 0) by rw [TQ2.out]; exact if_neg (of_decide_eq_false hbo.out))
        simp only [Prod.mk.injEq] at E
        obtain ⟨E1, E2⟩ := E
        have E3 := E2.symm
        clear E2
        subst E1
        subst E3
        clear hR
        go_upto_region 16 with (fail)
        refine lin_begin (opsOf Try.f18 16) (by kernel_rfl) ?_
        refine lnow 0 (.int .i64 0) (some 4) ?_
        refine lnow 1 (.int .i64 0) (some 5) ?_
        refine lin_done 2 (by kernel_rfl) ?_
        generalize hact : Act.put _ (some 5) _ = act
        simp only [Act.put, List.setIfInBounds_toArray, List.set_cons_succ, List.set_cons_zero] at hact
        subst hact
        go_wp2
        go_ret2
        exact ⟨rfl, rfl⟩
end Go.Proofs.Ytjclhlnkojbidaa
