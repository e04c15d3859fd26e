/- The document's own Scan. -/
import Derived.Test.YtjclhlnkojbidaaLexE
namespace Go.Proofs.Ytjclhlnkojbidaa
open Go Go.RowKit
set_option maxRecDepth 100000

theorem bad_byte {d : UInt8} (h1 : inC d = false) (h2 : d ≠ 10) (r : List UInt8) : tokAt (d :: r) = none ∧ gapL (d :: r) = 0 := by
  have hb : ¬ (32 ≤ d.toNat ∧ d.toNat ≤ 126) := by unfold inC at h1; simpa using h1
  have hl : isLet d = false := by unfold isLet; simp; omega
  have hd : isDig d = false := by unfold isDig; simp; omega
  have hm : d ∉ signs12 := by
    unfold signs12
    simp only [List.mem_cons, List.not_mem_nil, or_false, ← UInt8.toNat_inj]
    generalize d.toNat = m at hb
    rintro (e | e | e | e | e | e | e | e | e | e | e | e) <;> (simp at e; omega)
  have hi : Lib.indexByte signs12 d = -1 := by
    have h := Lib.indexByte_ge signs12 d
    have h2 : ¬ 0 ≤ Lib.indexByte signs12 d := fun hx => hm ((idx_mem _ _).1 hx)
    omega
  have ne : ∀ n : Nat, 32 ≤ n → n ≤ 126 → d ≠ UInt8.ofNat n := fun n a b e => by
    have := congrArg UInt8.toNat e
    simp at this
    omega
  refine ⟨tokAt_none r hl hd hi (ne 58 (by decide) (by decide)), ?_⟩
  have e45 : ((45 : UInt8) == d) = false := by
    have := ne 45 (by decide) (by decide)
    simp
    exact fun e => this e.symm
  rw [gapL, pre2h, e45, Bool.false_and, if_neg (show ¬ false = true by simp), if_neg]
  rintro (e | e)
  · exact ne 32 (by decide) (by decide) e
  · exact h2 e
theorem blank_gap {c : UInt8} (h : c = 32 ∨ c = 10) (r : List UInt8) : tokAt (c :: r) = none ∧ gapL (c :: r) = 1 := by
  rcases h with rfl | rfl
  · exact ⟨tok32 r, gap32 r⟩
  · exact ⟨tok10 r, gap10 r⟩
theorem tokR_none {l : List UInt8} {n : Nat} (h : tokR l = (0, n)) : tokAt l = none := by
  unfold tokR at h
  cases ht : tokAt l with
  | none => rfl
  | some x =>
    obtain ⟨k, m⟩ := x
    rw [ht] at h
    have := (tokAt_pos ht).2.2.1
    have h2 : k = 0 := (Prod.mk.inj h).1
    omega
theorem tokR_some {l : List UInt8} {k n : Nat} (h : tokR l = (k, n)) (hk : k ≠ 0) : tokAt l = some (k, n) := by
  unfold tokR at h
  cases ht : tokAt l with
  | none =>
    rw [ht] at h
    exact absurd (Prod.mk.inj h).1.symm hk
  | some x => rw [ht] at h; exact congrArg some h
theorem own_empty (ty : TypeId) (w : World) (q : Nat) (hq : q ≤ w.heap.size) : OwnX ty q (w.alloc (.cells #[] ty)) (.slice (some ⟨w.heap.size, 0, none⟩) 0 0) [] :=
  ⟨rfl, .inr ⟨w.heap.size, 0, #[], rfl, hq, heap_alloc_last w _, Nat.le_refl _, by unfold maxLen; omega, rfl, rfl⟩⟩

set_option maxHeartbeats 8000000 in
theorem xrscan_walk (l : List UInt8) (w : World) : Calls Try.prog 9 #[sT l] w (ScanPost 32 l w) := by
  obtain ⟨q, hq⟩ : ∃ q, Hid (w.heap.size = q) := ⟨_, rfl⟩
  obtain ⟨N, hN⟩ : ∃ N, Hid (l.length = N) := ⟨_, rfl⟩
  obtain ⟨⟨rt, rp, re⟩, hR⟩ : ∃ R, Hid (scanR l = R) := ⟨_, rfl⟩
  unfold ScanPost
  rw [hq.out, hR.out]
  dsimp only
  go_enter Try.func9, Try.ntmps9
  go_upto_region 0 with (fail)
  refine lin_begin (opsOf Try.f9 0) (by kernel_rfl) ?_
  refine lnow 0 (.slice none 0 0) (some 2) ?_
  refine lnow 1 (.int .i64 0) (some 3) ?_
  refine lnow 2 (.int .i64 0) (some 4) ?_
  refine lin_done 3 (by kernel_rfl) ?_
  generalize hact : Act.put _ (some 4) _ = act
  simp only [Act.put, List.setIfInBounds_toArray, List.set_cons_succ, List.set_cons_zero] at hact
  subst hact
  by_cases hm : (N : Int) > 65536
  · skip
    have E := hR.out.symm.trans (scanR_many (l := l) (by have := hN.out; omega))
    simp only [Prod.mk.injEq] at E
    obtain ⟨E1, E2, E3⟩ := E
    have E4 := E1.symm
    have E5 := E2.symm
    clear E1 E2 hR
    subst E4
    subst E5
    subst E3
    go_upto_region 1 with (fail)
    refine lin_begin (opsOf Try.f9 1) (by kernel_rfl) ?_
    refine lnow 0 (sT l) (some 9) ?_
    refine lnow 1 (.int .i64 (l.length : Int)) (some 10) ?_
    rw [hN.out]
    refine lnow 2 (.bool (decide ((N : Int) > 65536))) (some 11) ?_
    rw [decide_eq_true (hm)]
    refine lin_done 3 (by kernel_rfl) ?_
    generalize hact : Act.put _ (some 11) _ = act
    simp only [Act.put, List.setIfInBounds_toArray, List.set_cons_succ, List.set_cons_zero] at hact
    subst hact
    go_wp2
    refine bodyPost_ret (v := .tuple #[.slice none 0 0, .int .i64 0, .int .i64 14]) (by kernel_rfl) rfl ⟨_, rfl, OwnX.nil _ _ _, by rw [← hq.out]; exact Below.refl _ _⟩
  go_upto_region 1 with (fail)
  refine lin_begin (opsOf Try.f9 1) (by kernel_rfl) ?_
  refine lnow 0 (sT l) (some 9) ?_
  refine lnow 1 (.int .i64 (l.length : Int)) (some 10) ?_
  rw [hN.out]
  refine lnow 2 (.bool (decide ((N : Int) > 65536))) (some 11) ?_
  rw [decide_eq_false (hm)]
  refine lin_done 3 (by kernel_rfl) ?_
  generalize hact : Act.put _ (some 11) _ = act
  simp only [Act.put, List.setIfInBounds_toArray, List.set_cons_succ, List.set_cons_zero] at hact
  subst hact
  have NM : Hid (¬ 65536 < l.length) := by have := hN.out; rw [Hid]; omega
  have NB : Hid (N ≤ 65536) := by have := hN.out; rw [Hid]; omega
  clear hm
  go_upto_region 3 with (fail)
  refine lin_begin (opsOf Try.f9 3) (by kernel_rfl) ?_
  refine lin_value 0 (.slice (some ⟨w.heap.size, 0, none⟩) 0 0) (some 12) (w.alloc (.cells #[] 32)) (by kernel_rfl) (by kernel_rfl) (by kernel_rfl) ?_
  have OW0 : Hid (OwnX 32 q (w.alloc (.cells #[] 32)) (.slice (some ⟨w.heap.size, 0, none⟩) 0 0) []) := own_empty _ _ _ (by rw [hq.out]; exact Nat.le_refl _)
  have BE0 : Hid (Below q w (w.alloc (.cells #[] 32))) := (Below.refl _ _).alloc (by rw [hq.out]; exact Nat.le_refl _) _
  generalize w.alloc (.cells #[] 32) = w0 at OW0 BE0 ⊢
  generalize (Value.slice (some ⟨w.heap.size, 0, none⟩) 0 0) = v0 at OW0 ⊢
  refine lnow 1 (v0) (some 5) ?_
  refine lin_done 2 (by kernel_rfl) ?_
  generalize hact : Act.put _ (some 5) _ = act
  simp only [Act.put, List.setIfInBounds_toArray, List.set_cons_succ, List.set_cons_zero] at hact
  subst hact
  go_upto_region 4 with (fail)
  refine lin_begin (opsOf Try.f9 4) (by kernel_rfl) ?_
  refine lnow 0 (.int .i64 0) (some 6) ?_
  refine lin_done 1 (by kernel_rfl) ?_
  generalize hact : Act.put _ (some 6) _ = act
  simp only [Act.put, List.setIfInBounds_toArray, List.set_cons_succ, List.set_cons_zero] at hact
  subst hact
  go_wp2
  go_loopg [5, 6] N (fun gn lv kv wr => ∃ (k : Nat) (ts : List Tk) (lz : Value), lz = lv ∧ k + gn = N ∧ kv = .int .i64 (k : Int) ∧ Hid (ts.length ≤ k) ∧ Hid (OwnX 32 q wr lz ts) ∧ Hid (Below q w wr) ∧ Hid (scanS l 0 = preR ts (scanS (l.drop k) k)))
  case atStart => exact ⟨0, [], _, rfl, Nat.zero_add _, rfl, Nat.zero_le _, OW0, BE0, by rw [Hid, preR_nil, List.drop_zero]⟩
  case round =>
    obtain ⟨k, ts, lv, hlz, hgk, rfl, TL, OW, BE, SC⟩ := hrel
    subst hlz
    have nb := NB.out
    obtain ⟨wo, hwo⟩ : ∃ y, y = wr := ⟨_, rfl⟩
    subst hwo
    have QW : Hid (q ≤ wo.heap.size) := by rw [Hid, ← hq.out]; have := BE.out.size; exact this
    clear OW0 BE0
    by_cases hlt : (k : Int) < (N : Int)
    rotate_left
    · skip
      obtain rfl : k = N := by omega
      have E := hR.out.symm.trans (scanR_ok (ts := ts) NM.out (by rw [SC.out, List.drop_eq_nil_of_le (by have := hN.out; omega), scanS_nil]; simp [preR]))
      simp only [Prod.mk.injEq] at E
      obtain ⟨E1, E2, E3⟩ := E
      have E4 := E1.symm
      have E5 := E2.symm
      clear E1 E2 hR
      subst E4
      subst E5
      subst E3
      have FIN : Hid (OwnX 32 q wo lv ts ∧ Below q w wo) := ⟨OW.out, BE.out⟩
      clear SC OW BE
      go_upto_region 5 with (fail)
      refine lin_begin (opsOf Try.f9 5) (by kernel_rfl) ?_
      refine lnow 0 (.int .i64 (k : Int)) (some 13) ?_
      refine lnow 1 (sT l) (some 14) ?_
      refine lnow 2 (.int .i64 (l.length : Int)) (some 15) ?_
      rw [hN.out]
      refine lnow 3 (.bool (decide ((k : Int) < (k : Int)))) (some 16) ?_
      rw [decide_eq_false (hlt)]
      refine lin_done 4 (by kernel_rfl) ?_
      generalize hact : Act.put _ (some 16) _ = act
      simp only [Act.put, List.setIfInBounds_toArray, List.set_cons_succ, List.set_cons_zero] at hact
      subst hact
      go_wp2
      refine bodyPost_ret (v := .tuple #[lv, .int .i64 0, .int .i64 0]) (by kernel_rfl) rfl ⟨_, rfl, FIN.out⟩
    go_upto_region 5 with (fail)
    refine lin_begin (opsOf Try.f9 5) (by kernel_rfl) ?_
    refine lnow 0 (.int .i64 (k : Int)) (some 13) ?_
    refine lnow 1 (sT l) (some 14) ?_
    refine lnow 2 (.int .i64 (l.length : Int)) (some 15) ?_
    rw [hN.out]
    refine lnow 3 (.bool (decide ((k : Int) < (N : Int)))) (some 16) ?_
    rw [decide_eq_true (hlt)]
    refine lin_done 4 (by kernel_rfl) ?_
    generalize hact : Act.put _ (some 16) _ = act
    simp only [Act.put, List.setIfInBounds_toArray, List.set_cons_succ, List.set_cons_zero] at hact
    subst hact
    obtain ⟨L, hL⟩ : ∃ L, Hid (l.drop k = L) := ⟨_, rfl⟩
    have LL : Hid (k + L.length = N) := by rw [Hid, ← hL.out, List.length_drop]; have := hN.out; omega
    obtain ⟨c, r, ec⟩ : ∃ c r, L = c :: r := by cases L with | nil => (have := LL.out; simp at this; omega) | cons c r => exact ⟨c, r, rfl⟩
    have EC := Lib.hid ec
    rw [hL.out] at SC
    have HC : Hid (l[k]? = some c) := by have h : (l.drop k)[0]? = some c := (by rw [hL.out, ec]; rfl); rw [List.getElem?_drop, Nat.add_zero] at h; exact h
    clear ec
    have ll := LL.out
    by_cases h32 : (c.toNat : Int) = 32
    · skip
      go_upto_region 6 with (fail)
      refine lin_begin (opsOf Try.f9 6) (by kernel_rfl) ?_
      refine lnow 0 (sT l) (some 17) ?_
      refine lnow 1 (.int .i64 (k : Int)) (some 18) ?_
      refine lnowP 2 (.int .u8 (c.toNat : Int)) (some 19) (exec_sIdx (.tmp 17) (.tmp 18) (by kernel_rfl) l (by kernel_rfl) (k) (by kernel_rfl) c HC.out) ?_
      refine lnow 3 (.bool (decide ((c.toNat : Int) = 32))) (some 20) ?_
      rw [decide_eq_true (h32)]
      refine lnow 4 (.bool true) (some 21) ?_
      refine lpas 5 (some 22) ?_
      refine lpas 6 (some 23) ?_
      refine lpas 7 (some 24) ?_
      refine lpas 8 (some 25) ?_
      refine lnow 9 (.bool true) (some 26) ?_
      refine lin_done 10 (by kernel_rfl) ?_
      generalize hact : Act.put _ (some 26) _ = act
      simp only [Act.put, List.setIfInBounds_toArray, List.set_cons_succ, List.set_cons_zero] at hact
      subst hact
      have BG := blank_gap (c := c) (.inl ((u8_eq (n := 32) (by decide)).1 h32)) r
      rw [← EC.out] at BG
      have SC2 : Hid (scanS l 0 = preR ts (scanS (l.drop (k + 1)) (k + 1))) := by rw [Hid, SC.out, scanS_gap BG.1 (by rw [BG.2]; decide), BG.2, ← hL.out, List.drop_drop]
      have TL2 : Hid (ts.length ≤ k + 1) := by rw [Hid]; have := TL.out; omega
      clear SC BG
      go_upto_region 7 with (fail)
      refine lin_begin (opsOf Try.f9 7) (by kernel_rfl) ?_
      refine lnow 0 (.int .i64 (k : Int)) (some 27) ?_
      refine lnow 1 (.int .i64 (IntKind.i64.wrap ((k : Int) + 1))) (some 28) ?_
      rw [show IntKind.i64.wrap ((k : Int) + 1) = ((k + 1 : Nat) : Int) from (IntWalk.i64_in _ (by omega)).trans (by omega)]
      refine lnow 2 (.int .i64 ((k + 1 : Nat) : Int)) (some 6) ?_
      refine lin_done 3 (by kernel_rfl) ?_
      generalize hact : Act.put _ (some 6) _ = act
      simp only [Act.put, List.setIfInBounds_toArray, List.set_cons_succ, List.set_cons_zero] at hact
      subst hact
      go_wp2
      go_roundg (N - (k + 1))
      case rel => exact ⟨k + 1, ts, lv, rfl, by omega, rfl, TL2, OW, BE, SC2⟩
      case measure => omega
    by_cases h10 : (c.toNat : Int) = 10
    · skip
      go_upto_region 6 with (fail)
      refine lin_begin (opsOf Try.f9 6) (by kernel_rfl) ?_
      refine lnow 0 (sT l) (some 17) ?_
      refine lnow 1 (.int .i64 (k : Int)) (some 18) ?_
      refine lnowP 2 (.int .u8 (c.toNat : Int)) (some 19) (exec_sIdx (.tmp 17) (.tmp 18) (by kernel_rfl) l (by kernel_rfl) (k) (by kernel_rfl) c HC.out) ?_
      refine lnow 3 (.bool (decide ((c.toNat : Int) = 32))) (some 20) ?_
      rw [decide_eq_false (h32)]
      refine lnow 4 (.bool false) (some 21) ?_
      refine lnow 5 (sT l) (some 22) ?_
      refine lnow 6 (.int .i64 (k : Int)) (some 23) ?_
      refine lnowP 7 (.int .u8 (c.toNat : Int)) (some 24) (exec_sIdx (.tmp 22) (.tmp 23) (by kernel_rfl) l (by kernel_rfl) (k) (by kernel_rfl) c HC.out) ?_
      refine lnow 8 (.bool (decide ((c.toNat : Int) = 10))) (some 25) ?_
      rw [decide_eq_true (h10)]
      refine lnow 9 (.bool true) (some 26) ?_
      refine lin_done 10 (by kernel_rfl) ?_
      generalize hact : Act.put _ (some 26) _ = act
      simp only [Act.put, List.setIfInBounds_toArray, List.set_cons_succ, List.set_cons_zero] at hact
      subst hact
      have BG := blank_gap (c := c) (.inr ((u8_eq (n := 10) (by decide)).1 h10)) r
      rw [← EC.out] at BG
      have SC2 : Hid (scanS l 0 = preR ts (scanS (l.drop (k + 1)) (k + 1))) := by rw [Hid, SC.out, scanS_gap BG.1 (by rw [BG.2]; decide), BG.2, ← hL.out, List.drop_drop]
      have TL2 : Hid (ts.length ≤ k + 1) := by rw [Hid]; have := TL.out; omega
      clear SC BG
      go_upto_region 7 with (fail)
      refine lin_begin (opsOf Try.f9 7) (by kernel_rfl) ?_
      refine lnow 0 (.int .i64 (k : Int)) (some 27) ?_
      refine lnow 1 (.int .i64 (IntKind.i64.wrap ((k : Int) + 1))) (some 28) ?_
      rw [show IntKind.i64.wrap ((k : Int) + 1) = ((k + 1 : Nat) : Int) from (IntWalk.i64_in _ (by omega)).trans (by omega)]
      refine lnow 2 (.int .i64 ((k + 1 : Nat) : Int)) (some 6) ?_
      refine lin_done 3 (by kernel_rfl) ?_
      generalize hact : Act.put _ (some 6) _ = act
      simp only [Act.put, List.setIfInBounds_toArray, List.set_cons_succ, List.set_cons_zero] at hact
      subst hact
      go_wp2
      go_roundg (N - (k + 1))
      case rel => exact ⟨k + 1, ts, lv, rfl, by omega, rfl, TL2, OW, BE, SC2⟩
      case measure => omega
    go_upto_region 6 with (fail)
    refine lin_begin (opsOf Try.f9 6) (by kernel_rfl) ?_
    refine lnow 0 (sT l) (some 17) ?_
    refine lnow 1 (.int .i64 (k : Int)) (some 18) ?_
    refine lnowP 2 (.int .u8 (c.toNat : Int)) (some 19) (exec_sIdx (.tmp 17) (.tmp 18) (by kernel_rfl) l (by kernel_rfl) (k) (by kernel_rfl) c HC.out) ?_
    refine lnow 3 (.bool (decide ((c.toNat : Int) = 32))) (some 20) ?_
    rw [decide_eq_false (h32)]
    refine lnow 4 (.bool false) (some 21) ?_
    refine lnow 5 (sT l) (some 22) ?_
    refine lnow 6 (.int .i64 (k : Int)) (some 23) ?_
    refine lnowP 7 (.int .u8 (c.toNat : Int)) (some 24) (exec_sIdx (.tmp 22) (.tmp 23) (by kernel_rfl) l (by kernel_rfl) (k) (by kernel_rfl) c HC.out) ?_
    refine lnow 8 (.bool (decide ((c.toNat : Int) = 10))) (some 25) ?_
    rw [decide_eq_false (h10)]
    refine lnow 9 (.bool false) (some 26) ?_
    refine lin_done 10 (by kernel_rfl) ?_
    generalize hact : Act.put _ (some 26) _ = act
    simp only [Act.put, List.setIfInBounds_toArray, List.set_cons_succ, List.set_cons_zero] at hact
    subst hact
    have GQ : Hid (gapL L = if Lib.hasPrefix L [45, 45] = true then runL inC L else 0) := by rw [Hid, EC.out, gapL, if_neg (show ¬ (c = 32 ∨ c = 10) by rintro (rfl | rfl); exact h32 rfl; exact h10 rfl)]
    have PQ : Hid (Lib.hasPrefix L [45, 45] = ((45 : UInt8) == c && isHd 45 r)) := by rw [Hid, EC.out]; exact pre2h 45 45 c r
    clear h32 h10
    by_cases h45 : (c.toNat : Int) = 45
    · skip
      by_cases hl2 : ((k + 1 : Nat) : Int) < (N : Int)
      · skip
        obtain ⟨b, r2, er⟩ : ∃ b r2, r = b :: r2 := by cases r with | nil => (have h := congrArg List.length EC.out; simp at h; omega) | cons b r2 => exact ⟨b, r2, rfl⟩
        have HB : Hid (l[(k + 1 : Nat)]? = some b) := by have h : (l.drop k)[1]? = some b := (by rw [hL.out, EC.out, er]; rfl); rw [List.getElem?_drop] at h; exact h
        by_cases hb45 : (b.toNat : Int) = 45
        · skip
          go_upto_region 8 with (fail)
          refine lin_begin (opsOf Try.f9 8) (by kernel_rfl) ?_
          refine lnow 0 (sT l) (some 29) ?_
          refine lnow 1 (.int .i64 (k : Int)) (some 30) ?_
          refine lnowP 2 (.int .u8 (c.toNat : Int)) (some 31) (exec_sIdx (.tmp 29) (.tmp 30) (by kernel_rfl) l (by kernel_rfl) (k) (by kernel_rfl) c HC.out) ?_
          refine lnow 3 (.bool (decide ((c.toNat : Int) = 45))) (some 32) ?_
          rw [decide_eq_true (h45)]
          refine lnow 4 (.bool true) (some 33) ?_
          refine lnow 5 (.int .i64 (k : Int)) (some 34) ?_
          refine lnow 6 (.int .i64 (IntKind.i64.wrap ((k : Int) + 1))) (some 35) ?_
          rw [show IntKind.i64.wrap ((k : Int) + 1) = ((k + 1 : Nat) : Int) from (IntWalk.i64_in _ (by omega)).trans (by omega)]
          refine lnow 7 (sT l) (some 36) ?_
          refine lnow 8 (.int .i64 (l.length : Int)) (some 37) ?_
          rw [hN.out]
          refine lnow 9 (.bool (decide (((k + 1 : Nat) : Int) < (N : Int)))) (some 38) ?_
          rw [decide_eq_true (hl2)]
          refine lnow 10 (.bool true) (some 39) ?_
          refine lnow 11 (.bool true) (some 40) ?_
          refine lnow 12 (sT l) (some 41) ?_
          refine lnow 13 (.int .i64 (k : Int)) (some 42) ?_
          refine lnow 14 (.int .i64 (IntKind.i64.wrap ((k : Int) + 1))) (some 43) ?_
          rw [show IntKind.i64.wrap ((k : Int) + 1) = ((k + 1 : Nat) : Int) from (IntWalk.i64_in _ (by omega)).trans (by omega)]
          refine lnowP 15 (.int .u8 (b.toNat : Int)) (some 44) (exec_sIdx (.tmp 41) (.tmp 43) (by kernel_rfl) l (by kernel_rfl) ((k + 1 : Nat)) (by kernel_rfl) b HB.out) ?_
          refine lnow 16 (.bool (decide ((b.toNat : Int) = 45))) (some 45) ?_
          rw [decide_eq_true (hb45)]
          refine lnow 17 (.bool true) (some 46) ?_
          refine lin_done 18 (by kernel_rfl) ?_
          generalize hact : Act.put _ (some 46) _ = act
          simp only [Act.put, List.setIfInBounds_toArray, List.set_cons_succ, List.set_cons_zero] at hact
          subst hact
          have e45 : c = 45 := (u8_eq (n := 45) (by decide)).1 h45
          have eb45 : b = 45 := (u8_eq (n := 45) (by decide)).1 hb45
          have GR : Hid (gapL L = runL inC L) := by rw [Hid, GQ.out]; exact if_pos (by rw [PQ.out, er, e45, eb45]; rfl)
          have TN : Hid (tokAt L = none) := by rw [Hid, EC.out, e45]; exact tok45 _
          have R1 : Hid (1 ≤ runL inC L) := by rw [Hid, EC.out, e45, runL_cons, if_pos (by decide)]; omega
          clear GQ PQ e45 eb45 hb45 h45 HB er
          go_wp2
          go_loopg [6] (N - k) (fun g2 nv wy => ∃ m : Nat, m ≤ L.length ∧ k + m + g2 = N ∧ nv = .int .i64 ((k + m : Nat) : Int) ∧ Hid (runL inC L = m + runL inC (L.drop m)) ∧ wo = wy)
          case atStart => exact ⟨0, Nat.zero_le _, by omega, rfl, by rw [Hid, List.drop_zero, Nat.zero_add], rfl⟩
          case round =>
            obtain ⟨m, hm, hmg, rfl, HR, hwy⟩ := hrel
            subst hwy
            by_cases hlm : m < L.length
            rotate_left
            · skip
              have c1 : ¬ (((k + m : Nat) : Int) < (N : Int)) := by omega
              have RM : Hid (runL inC L = m) := by rw [Hid, HR.out, List.drop_eq_nil_of_le (by omega)]; rfl
              clear HR
              go_upto_region 9 with (fail)
              refine lin_begin (opsOf Try.f9 9) (by kernel_rfl) ?_
              refine lnow 0 (.int .i64 ((k + m : Nat) : Int)) (some 47) ?_
              refine lnow 1 (sT l) (some 48) ?_
              refine lnow 2 (.int .i64 (l.length : Int)) (some 49) ?_
              rw [hN.out]
              refine lnow 3 (.bool (decide (((k + m : Nat) : Int) < (N : Int)))) (some 50) ?_
              rw [decide_eq_false (c1)]
              refine lnow 4 (.bool false) (some 51) ?_
              refine lpas 5 (some 52) ?_
              refine lpas 6 (some 53) ?_
              refine lpas 7 (some 54) ?_
              refine lpas 8 (some 55) ?_
              refine lnow 9 (.bool false) (some 56) ?_
              refine lin_done 10 (by kernel_rfl) ?_
              generalize hact : Act.put _ (some 56) _ = act
              simp only [Act.put, List.setIfInBounds_toArray, List.set_cons_succ, List.set_cons_zero] at hact
              subst hact
              have rm := RM.out
              have r1 := R1.out
              have SC2 : Hid (scanS l 0 = preR ts (scanS (l.drop (k + m)) (k + m))) := by rw [Hid, SC.out, scanS_gap TN.out (by rw [GR.out]; omega), GR.out, RM.out, ← hL.out, List.drop_drop]
              have TL2 : Hid (ts.length ≤ k + m) := by rw [Hid]; have := TL.out; omega
              clear SC GR TN R1
              go_wp2
              go_roundg (N - (k + m))
              case rel => exact ⟨k + m, ts, lv, rfl, by omega, rfl, TL2, OW, BE, SC2⟩
              case measure => omega
            have c1 : (((k + m : Nat) : Int) < (N : Int)) := by omega
            obtain ⟨d, hd⟩ : ∃ d, Hid (L[m]? = some d) := ⟨_, List.getElem?_eq_getElem (by omega)⟩
            have HD : Hid (l[(k + m : Nat)]? = some d) := by have h := hd.out; rw [← hL.out, List.getElem?_drop] at h; exact h
            have DR : Hid (L.drop m = d :: L.drop (m + 1)) := by have h := hd.out; rw [Hid, List.drop_eq_getElem_cons (by omega)]; rw [List.getElem?_eq_getElem (by omega)] at h; rw [Option.some.inj h]
            by_cases hd10 : (d.toNat : Int) = 10
            · skip
              have RM : Hid (runL inC L = m) := by rw [Hid, HR.out, DR.out, runL_cons, (u8_eq (n := 10) (by decide)).1 hd10, if_neg (by decide)]; rfl
              clear HR
              go_upto_region 9 with (fail)
              refine lin_begin (opsOf Try.f9 9) (by kernel_rfl) ?_
              refine lnow 0 (.int .i64 ((k + m : Nat) : Int)) (some 47) ?_
              refine lnow 1 (sT l) (some 48) ?_
              refine lnow 2 (.int .i64 (l.length : Int)) (some 49) ?_
              rw [hN.out]
              refine lnow 3 (.bool (decide (((k + m : Nat) : Int) < (N : Int)))) (some 50) ?_
              rw [decide_eq_true (c1)]
              refine lnow 4 (.bool true) (some 51) ?_
              refine lnow 5 (sT l) (some 52) ?_
              refine lnow 6 (.int .i64 ((k + m : Nat) : Int)) (some 53) ?_
              refine lnowP 7 (.int .u8 (d.toNat : Int)) (some 54) (exec_sIdx (.tmp 52) (.tmp 53) (by kernel_rfl) l (by kernel_rfl) ((k + m : Nat)) (by kernel_rfl) d HD.out) ?_
              refine lnow 8 (.bool (!decide ((d.toNat : Int) = 10))) (some 55) ?_
              rw [decide_eq_true (hd10)]
              rw [show (!true) = false from rfl]
              refine lnow 9 (.bool false) (some 56) ?_
              refine lin_done 10 (by kernel_rfl) ?_
              generalize hact : Act.put _ (some 56) _ = act
              simp only [Act.put, List.setIfInBounds_toArray, List.set_cons_succ, List.set_cons_zero] at hact
              subst hact
              clear DR HD hd
              have rm := RM.out
              have r1 := R1.out
              have SC2 : Hid (scanS l 0 = preR ts (scanS (l.drop (k + m)) (k + m))) := by rw [Hid, SC.out, scanS_gap TN.out (by rw [GR.out]; omega), GR.out, RM.out, ← hL.out, List.drop_drop]
              have TL2 : Hid (ts.length ≤ k + m) := by rw [Hid]; have := TL.out; omega
              clear SC GR TN R1
              go_wp2
              go_roundg (N - (k + m))
              case rel => exact ⟨k + m, ts, lv, rfl, by omega, rfl, TL2, OW, BE, SC2⟩
              case measure => omega
            go_upto_region 9 with (fail)
            refine lin_begin (opsOf Try.f9 9) (by kernel_rfl) ?_
            refine lnow 0 (.int .i64 ((k + m : Nat) : Int)) (some 47) ?_
            refine lnow 1 (sT l) (some 48) ?_
            refine lnow 2 (.int .i64 (l.length : Int)) (some 49) ?_
            rw [hN.out]
            refine lnow 3 (.bool (decide (((k + m : Nat) : Int) < (N : Int)))) (some 50) ?_
            rw [decide_eq_true (c1)]
            refine lnow 4 (.bool true) (some 51) ?_
            refine lnow 5 (sT l) (some 52) ?_
            refine lnow 6 (.int .i64 ((k + m : Nat) : Int)) (some 53) ?_
            refine lnowP 7 (.int .u8 (d.toNat : Int)) (some 54) (exec_sIdx (.tmp 52) (.tmp 53) (by kernel_rfl) l (by kernel_rfl) ((k + m : Nat)) (by kernel_rfl) d HD.out) ?_
            refine lnow 8 (.bool (!decide ((d.toNat : Int) = 10))) (some 55) ?_
            rw [decide_eq_false (hd10)]
            rw [show (!false) = true from rfl]
            refine lnow 9 (.bool true) (some 56) ?_
            refine lin_done 10 (by kernel_rfl) ?_
            generalize hact : Act.put _ (some 56) _ = act
            simp only [Act.put, List.setIfInBounds_toArray, List.set_cons_succ, List.set_cons_zero] at hact
            subst hact
            by_cases hlo : (d.toNat : Int) < 32
            · skip
              go_upto_region 10 with (fail)
              refine lin_begin (opsOf Try.f9 10) (by kernel_rfl) ?_
              refine lnow 0 (sT l) (some 57) ?_
              refine lnow 1 (.int .i64 ((k + m : Nat) : Int)) (some 58) ?_
              refine lnowP 2 (.int .u8 (d.toNat : Int)) (some 59) (exec_sIdx (.tmp 57) (.tmp 58) (by kernel_rfl) l (by kernel_rfl) ((k + m : Nat)) (by kernel_rfl) d HD.out) ?_
              refine lnow 3 (.bool (decide ((d.toNat : Int) < 32))) (some 60) ?_
              rw [decide_eq_true (hlo)]
              refine lnow 4 (.bool true) (some 61) ?_
              refine lpas 5 (some 62) ?_
              refine lpas 6 (some 63) ?_
              refine lpas 7 (some 64) ?_
              refine lpas 8 (some 65) ?_
              refine lnow 9 (.bool true) (some 66) ?_
              refine lin_done 10 (by kernel_rfl) ?_
              generalize hact : Act.put _ (some 66) _ = act
              simp only [Act.put, List.setIfInBounds_toArray, List.set_cons_succ, List.set_cons_zero] at hact
              subst hact
              have hin : inC d = false := by unfold inC; simp; omega
              have RM : Hid (runL inC L = m) := by rw [Hid, HR.out, DR.out, runL_cons, if_neg (by rw [hin]; simp)]; rfl
              have BB := bad_byte hin (fun e => by subst e; exact hd10 rfl) (L.drop (m + 1))
              rw [← DR.out] at BB
              have E := hR.out.symm.trans (scanR_bad (p := k + m) NM.out (by rw [SC.out, scanS_gap TN.out (by rw [GR.out]; have := R1.out; omega), GR.out, RM.out, scanS_bad BB.1 BB.2 (by rw [DR.out]; simp)]; rfl))
              simp only [Prod.mk.injEq] at E
              obtain ⟨E1, E2, E3⟩ := E
              have E4 := E1.symm
              have E5 := E2.symm
              clear E1 E2 hR
              subst E4
              subst E5
              subst E3
              clear SC OW TN GR R1 BB RM HR DR hd hin
              go_upto_region 11 with (fail)
              refine lin_begin (opsOf Try.f9 11) (by kernel_rfl) ?_
              refine lnow 0 (.int .i64 ((k + m : Nat) : Int)) (some 67) ?_
              refine lnow 1 (.slice none 0 0) (some 2) ?_
              refine lnow 2 (.int .i64 ((k + m : Nat) : Int)) (some 3) ?_
              refine lnow 3 (.int .i64 10) (some 4) ?_
              refine lin_done 4 (by kernel_rfl) ?_
              generalize hact : Act.put _ (some 4) _ = act
              simp only [Act.put, List.setIfInBounds_toArray, List.set_cons_succ, List.set_cons_zero] at hact
              subst hact
              go_wp2
              refine bodyPost_ret (v := .tuple #[.slice none 0 0, .int .i64 ((k + m : Nat) : Int), .int .i64 10]) (by kernel_rfl) rfl ⟨_, rfl, OwnX.nil _ _ _, BE.out⟩
            by_cases hhi : (d.toNat : Int) > 126
            · skip
              go_upto_region 10 with (fail)
              refine lin_begin (opsOf Try.f9 10) (by kernel_rfl) ?_
              refine lnow 0 (sT l) (some 57) ?_
              refine lnow 1 (.int .i64 ((k + m : Nat) : Int)) (some 58) ?_
              refine lnowP 2 (.int .u8 (d.toNat : Int)) (some 59) (exec_sIdx (.tmp 57) (.tmp 58) (by kernel_rfl) l (by kernel_rfl) ((k + m : Nat)) (by kernel_rfl) d HD.out) ?_
              refine lnow 3 (.bool (decide ((d.toNat : Int) < 32))) (some 60) ?_
              rw [decide_eq_false (hlo)]
              refine lnow 4 (.bool false) (some 61) ?_
              refine lnow 5 (sT l) (some 62) ?_
              refine lnow 6 (.int .i64 ((k + m : Nat) : Int)) (some 63) ?_
              refine lnowP 7 (.int .u8 (d.toNat : Int)) (some 64) (exec_sIdx (.tmp 62) (.tmp 63) (by kernel_rfl) l (by kernel_rfl) ((k + m : Nat)) (by kernel_rfl) d HD.out) ?_
              refine lnow 8 (.bool (decide ((d.toNat : Int) > 126))) (some 65) ?_
              rw [decide_eq_true (hhi)]
              refine lnow 9 (.bool true) (some 66) ?_
              refine lin_done 10 (by kernel_rfl) ?_
              generalize hact : Act.put _ (some 66) _ = act
              simp only [Act.put, List.setIfInBounds_toArray, List.set_cons_succ, List.set_cons_zero] at hact
              subst hact
              have hin : inC d = false := by unfold inC; simp; omega
              have RM : Hid (runL inC L = m) := by rw [Hid, HR.out, DR.out, runL_cons, if_neg (by rw [hin]; simp)]; rfl
              have BB := bad_byte hin (fun e => by subst e; exact hd10 rfl) (L.drop (m + 1))
              rw [← DR.out] at BB
              have E := hR.out.symm.trans (scanR_bad (p := k + m) NM.out (by rw [SC.out, scanS_gap TN.out (by rw [GR.out]; have := R1.out; omega), GR.out, RM.out, scanS_bad BB.1 BB.2 (by rw [DR.out]; simp)]; rfl))
              simp only [Prod.mk.injEq] at E
              obtain ⟨E1, E2, E3⟩ := E
              have E4 := E1.symm
              have E5 := E2.symm
              clear E1 E2 hR
              subst E4
              subst E5
              subst E3
              clear SC OW TN GR R1 BB RM HR DR hd hin
              go_upto_region 11 with (fail)
              refine lin_begin (opsOf Try.f9 11) (by kernel_rfl) ?_
              refine lnow 0 (.int .i64 ((k + m : Nat) : Int)) (some 67) ?_
              refine lnow 1 (.slice none 0 0) (some 2) ?_
              refine lnow 2 (.int .i64 ((k + m : Nat) : Int)) (some 3) ?_
              refine lnow 3 (.int .i64 10) (some 4) ?_
              refine lin_done 4 (by kernel_rfl) ?_
              generalize hact : Act.put _ (some 4) _ = act
              simp only [Act.put, List.setIfInBounds_toArray, List.set_cons_succ, List.set_cons_zero] at hact
              subst hact
              go_wp2
              refine bodyPost_ret (v := .tuple #[.slice none 0 0, .int .i64 ((k + m : Nat) : Int), .int .i64 10]) (by kernel_rfl) rfl ⟨_, rfl, OwnX.nil _ _ _, BE.out⟩
            go_upto_region 10 with (fail)
            refine lin_begin (opsOf Try.f9 10) (by kernel_rfl) ?_
            refine lnow 0 (sT l) (some 57) ?_
            refine lnow 1 (.int .i64 ((k + m : Nat) : Int)) (some 58) ?_
            refine lnowP 2 (.int .u8 (d.toNat : Int)) (some 59) (exec_sIdx (.tmp 57) (.tmp 58) (by kernel_rfl) l (by kernel_rfl) ((k + m : Nat)) (by kernel_rfl) d HD.out) ?_
            refine lnow 3 (.bool (decide ((d.toNat : Int) < 32))) (some 60) ?_
            rw [decide_eq_false (hlo)]
            refine lnow 4 (.bool false) (some 61) ?_
            refine lnow 5 (sT l) (some 62) ?_
            refine lnow 6 (.int .i64 ((k + m : Nat) : Int)) (some 63) ?_
            refine lnowP 7 (.int .u8 (d.toNat : Int)) (some 64) (exec_sIdx (.tmp 62) (.tmp 63) (by kernel_rfl) l (by kernel_rfl) ((k + m : Nat)) (by kernel_rfl) d HD.out) ?_
            refine lnow 8 (.bool (decide ((d.toNat : Int) > 126))) (some 65) ?_
            rw [decide_eq_false (hhi)]
            refine lnow 9 (.bool false) (some 66) ?_
            refine lin_done 10 (by kernel_rfl) ?_
            generalize hact : Act.put _ (some 66) _ = act
            simp only [Act.put, List.setIfInBounds_toArray, List.set_cons_succ, List.set_cons_zero] at hact
            subst hact
            have HR2 : Hid (runL inC L = (m + 1) + runL inC (L.drop (m + 1))) := by rw [Hid, HR.out, DR.out, runL_cons, if_pos (show inC d = true by unfold inC; simp; omega)]; omega
            clear HR DR hd HD
            go_upto_region 12 with (fail)
            refine lin_begin (opsOf Try.f9 12) (by kernel_rfl) ?_
            refine lnow 0 (.int .i64 ((k + m : Nat) : Int)) (some 68) ?_
            refine lnow 1 (.int .i64 (IntKind.i64.wrap (((k + m : Nat) : Int) + 1))) (some 69) ?_
            rw [show IntKind.i64.wrap (((k + m : Nat) : Int) + 1) = ((k + (m + 1) : Nat) : Int) from (IntWalk.i64_in _ (by omega)).trans (by omega)]
            refine lnow 2 (.int .i64 ((k + (m + 1) : Nat) : Int)) (some 6) ?_
            refine lin_done 3 (by kernel_rfl) ?_
            generalize hact : Act.put _ (some 6) _ = act
            simp only [Act.put, List.setIfInBounds_toArray, List.set_cons_succ, List.set_cons_zero] at hact
            subst hact
            go_wp2
            go_roundg (N - (k + (m + 1)))
            case rel => exact ⟨m + 1, by omega, by omega, rfl, HR2, rfl⟩
            case measure => omega
        go_upto_region 8 with (fail)
        refine lin_begin (opsOf Try.f9 8) (by kernel_rfl) ?_
        refine lnow 0 (sT l) (some 29) ?_
        refine lnow 1 (.int .i64 (k : Int)) (some 30) ?_
        refine lnowP 2 (.int .u8 (c.toNat : Int)) (some 31) (exec_sIdx (.tmp 29) (.tmp 30) (by kernel_rfl) l (by kernel_rfl) (k) (by kernel_rfl) c HC.out) ?_
        refine lnow 3 (.bool (decide ((c.toNat : Int) = 45))) (some 32) ?_
        rw [decide_eq_true (h45)]
        refine lnow 4 (.bool true) (some 33) ?_
        refine lnow 5 (.int .i64 (k : Int)) (some 34) ?_
        refine lnow 6 (.int .i64 (IntKind.i64.wrap ((k : Int) + 1))) (some 35) ?_
        rw [show IntKind.i64.wrap ((k : Int) + 1) = ((k + 1 : Nat) : Int) from (IntWalk.i64_in _ (by omega)).trans (by omega)]
        refine lnow 7 (sT l) (some 36) ?_
        refine lnow 8 (.int .i64 (l.length : Int)) (some 37) ?_
        rw [hN.out]
        refine lnow 9 (.bool (decide (((k + 1 : Nat) : Int) < (N : Int)))) (some 38) ?_
        rw [decide_eq_true (hl2)]
        refine lnow 10 (.bool true) (some 39) ?_
        refine lnow 11 (.bool true) (some 40) ?_
        refine lnow 12 (sT l) (some 41) ?_
        refine lnow 13 (.int .i64 (k : Int)) (some 42) ?_
        refine lnow 14 (.int .i64 (IntKind.i64.wrap ((k : Int) + 1))) (some 43) ?_
        rw [show IntKind.i64.wrap ((k : Int) + 1) = ((k + 1 : Nat) : Int) from (IntWalk.i64_in _ (by omega)).trans (by omega)]
        refine lnowP 15 (.int .u8 (b.toNat : Int)) (some 44) (exec_sIdx (.tmp 41) (.tmp 43) (by kernel_rfl) l (by kernel_rfl) ((k + 1 : Nat)) (by kernel_rfl) b HB.out) ?_
        refine lnow 16 (.bool (decide ((b.toNat : Int) = 45))) (some 45) ?_
        rw [decide_eq_false (hb45)]
        refine lnow 17 (.bool false) (some 46) ?_
        refine lin_done 18 (by kernel_rfl) ?_
        generalize hact : Act.put _ (some 46) _ = act
        simp only [Act.put, List.setIfInBounds_toArray, List.set_cons_succ, List.set_cons_zero] at hact
        subst hact
        have NP : Hid (¬ Lib.hasPrefix L [45, 45] = true) := by rw [Hid, PQ.out]; rw [er]; intro h; rw [Bool.and_eq_true] at h; have h2 : ((45 : UInt8) == b) = true := h.2; have e : (45 : UInt8) = b := (by simpa using h2); subst e; exact hb45 rfl
        have G0 : Hid (gapL L = 0) := by rw [Hid, GQ.out, if_neg NP.out]
        clear NP PQ GQ
        obtain ⟨⟨tk, tn⟩, hT⟩ : ∃ T, Hid (tokR L = T) := ⟨_, rfl⟩
        go_upto_region 13 with (fail)
        refine lin_begin (opsOf Try.f9 13) (by kernel_rfl) ?_
        refine lnow 0 (sT l) (some 71) ?_
        refine lnow 1 (.int .i64 (k : Int)) (some 72) ?_
        refine lin_call 2 18 #[sT l, .int .i64 (k : Int)] (some 73) _ (by kernel_rfl) (by kernel_rfl) (by kernel_rfl) (xrtoken_walk l (by have := hN.out; omega) k c r (hL.out.trans EC.out) _) ?_
        rintro e w1 ⟨rfl, hw1⟩
        obtain rfl := hw1.symm
        rw [hL.out, hT.out]
        dsimp only
        refine ⟨_, rfl, ?_⟩
        refine lnow 3 (.tuple #[.int .i64 (tk : Int), .int .i64 (tn : Int)]) (some 70) ?_
        refine lnow 4 (.int .i64 (tk : Int)) (some 74) ?_
        refine lnow 5 (.int .i64 (tn : Int)) (some 75) ?_
        refine lnow 6 (.int .i64 (tk : Int)) (some 7) ?_
        refine lnow 7 (.int .i64 (tn : Int)) (some 8) ?_
        refine lin_done 8 (by kernel_rfl) ?_
        generalize hact : Act.put _ (some 8) _ = act
        simp only [Act.put, List.setIfInBounds_toArray, List.set_cons_succ, List.set_cons_zero] at hact
        subst hact
        by_cases hk0 : (tk : Int) = 0
        · skip
          go_upto_region 14 with (fail)
          refine lin_begin (opsOf Try.f9 14) (by kernel_rfl) ?_
          refine lnow 0 (.int .i64 (tk : Int)) (some 76) ?_
          refine lnow 1 (.bool (decide ((tk : Int) = 0))) (some 77) ?_
          rw [decide_eq_true (hk0)]
          refine lin_done 2 (by kernel_rfl) ?_
          generalize hact : Act.put _ (some 77) _ = act
          simp only [Act.put, List.setIfInBounds_toArray, List.set_cons_succ, List.set_cons_zero] at hact
          subst hact
          have TN : Hid (tokAt L = none) := tokR_none (n := tn) (by rw [hT.out, show tk = 0 by omega])
          have E := hR.out.symm.trans (scanR_bad (p := k) NM.out (by rw [SC.out, scanS_bad TN.out G0.out (by rw [EC.out]; simp)]; rfl))
          simp only [Prod.mk.injEq] at E
          obtain ⟨E1, E2, E3⟩ := E
          have E4 := E1.symm
          have E5 := E2.symm
          clear E1 E2 hR
          subst E4
          subst E5
          subst E3
          clear SC OW TN hT G0 hk0
          go_upto_region 15 with (fail)
          refine lin_begin (opsOf Try.f9 15) (by kernel_rfl) ?_
          refine lnow 0 (.int .i64 (k : Int)) (some 78) ?_
          refine lnow 1 (.slice none 0 0) (some 2) ?_
          refine lnow 2 (.int .i64 (k : Int)) (some 3) ?_
          refine lnow 3 (.int .i64 10) (some 4) ?_
          refine lin_done 4 (by kernel_rfl) ?_
          generalize hact : Act.put _ (some 4) _ = act
          simp only [Act.put, List.setIfInBounds_toArray, List.set_cons_succ, List.set_cons_zero] at hact
          subst hact
          go_wp2
          refine bodyPost_ret (v := .tuple #[.slice none 0 0, .int .i64 (k : Int), .int .i64 10]) (by kernel_rfl) rfl ⟨_, rfl, OwnX.nil _ _ _, BE.out⟩
        go_upto_region 14 with (fail)
        refine lin_begin (opsOf Try.f9 14) (by kernel_rfl) ?_
        refine lnow 0 (.int .i64 (tk : Int)) (some 76) ?_
        refine lnow 1 (.bool (decide ((tk : Int) = 0))) (some 77) ?_
        rw [decide_eq_false (hk0)]
        refine lin_done 2 (by kernel_rfl) ?_
        generalize hact : Act.put _ (some 77) _ = act
        simp only [Act.put, List.setIfInBounds_toArray, List.set_cons_succ, List.set_cons_zero] at hact
        subst hact
        have TA : Hid (tokAt L = some (tk, tn)) := tokR_some hT.out (by omega)
        have tp := (tokAt_pos TA.out).1
        have tl := (tokAt_pos TA.out).2.1
        have SC2 : Hid (scanS l 0 = preR (ts ++ [(⟨tk, L.take tn, k⟩ : Tk)]) (scanS (l.drop (k + tn)) (k + tn))) := by rw [Hid, SC.out, scanS_tok TA.out, preR_cons, ← hL.out, List.drop_drop]
        clear SC hT TA hk0 G0
        go_upto_region 16 with (fail)
        refine lin_begin (opsOf Try.f9 16) (by kernel_rfl) ?_
        refine lnow 0 (lv) (some 79) ?_
        refine lnow 1 (.int .i64 (tk : Int)) (some 80) ?_
        refine lnow 2 (sT l) (some 81) ?_
        refine lnow 3 (.int .i64 (k : Int)) (some 82) ?_
        refine lnow 4 (.int .i64 (k : Int)) (some 83) ?_
        refine lnow 5 (.int .i64 (tn : Int)) (some 84) ?_
        refine lnow 6 (.int .i64 (IntKind.i64.wrap ((k : Int) + (tn : Int)))) (some 85) ?_
        rw [show IntKind.i64.wrap ((k : Int) + (tn : Int)) = ((k + tn : Nat) : Int) from (IntWalk.i64_in _ (by omega)).trans (by omega)]
        refine lin_now 7 (sT (L.take tn)) (some 86) (by kernel_rfl) (by kernel_rfl) (by have h := run_sCut l k (k + tn) (by omega) (by have := hN.out; omega) wo; rw [hL.out, Nat.add_sub_cancel_left] at h; exact exec_of (Instr.sliceAt 9 (sT l) (some (.int .i64 (k : Int))) (some (.int .i64 ((k + tn : Nat) : Int))) none) _ (by kernel_rfl) h) ?_
        refine lnow 8 (.int .i64 (k : Int)) (some 87) ?_
        refine lnow 9 (.agg (tkC ⟨tk, L.take tn, k⟩).toArray) (some 88) ?_
        refine lin_tok 32 27 infoRTok Try.underlying27 mkRTok 10 (some 89) (some 90) ⟨tk, L.take tn, k⟩ lv ts q OW.out (by have := TL.out; omega) QW.out (by kernel_rfl) (by kernel_rfl) (by kernel_rfl) (fun _ => by kernel_rfl) (by kernel_rfl) (fun _ => by kernel_rfl) ?_
        intro g v' w2 ow2 be2
        have OW2 := Lib.hid ow2
        have BE2 : Hid (Below q w w2) := BE.out.trans be2
        clear ow2 be2 OW BE QW
        refine lnow 12 (v') (some 5) ?_
        refine lin_done 13 (by kernel_rfl) ?_
        generalize hact : Act.put _ (some 5) _ = act
        simp only [Act.put, List.setIfInBounds_toArray, List.set_cons_succ, List.set_cons_zero] at hact
        subst hact
        have TL2 : Hid ((ts ++ [(⟨tk, L.take tn, k⟩ : Tk)]).length ≤ k + tn) := by rw [Hid, List.length_append]; have := TL.out; simp; omega
        obtain ⟨T2, hT2⟩ : ∃ T2 : List Tk, Hid (ts ++ [(⟨tk, L.take tn, k⟩ : Tk)] = T2) := ⟨ts ++ [(⟨tk, L.take tn, k⟩ : Tk)], rfl⟩
        rw [hT2.out] at SC2 OW2 TL2
        go_upto_region 17 with (fail)
        refine lin_begin (opsOf Try.f9 17) (by kernel_rfl) ?_
        refine lnow 0 (.int .i64 (k : Int)) (some 91) ?_
        refine lnow 1 (.int .i64 (tn : Int)) (some 92) ?_
        refine lnow 2 (.int .i64 (IntKind.i64.wrap ((k : Int) + (tn : Int)))) (some 93) ?_
        rw [show IntKind.i64.wrap ((k : Int) + (tn : Int)) = ((k + tn : Nat) : Int) from (IntWalk.i64_in _ (by omega)).trans (by omega)]
        refine lnow 3 (.int .i64 ((k + tn : Nat) : Int)) (some 6) ?_
        refine lin_done 4 (by kernel_rfl) ?_
        generalize hact : Act.put _ (some 6) _ = act
        simp only [Act.put, List.setIfInBounds_toArray, List.set_cons_succ, List.set_cons_zero] at hact
        subst hact
        go_wp2
        go_roundg (N - (k + tn))
        case rel => exact ⟨k + tn, T2, v', rfl, by omega, rfl, TL2, OW2, BE2, SC2⟩
        case measure => omega
      go_upto_region 8 with (fail)
      refine lin_begin (opsOf Try.f9 8) (by kernel_rfl) ?_
      refine lnow 0 (sT l) (some 29) ?_
      refine lnow 1 (.int .i64 (k : Int)) (some 30) ?_
      refine lnowP 2 (.int .u8 (c.toNat : Int)) (some 31) (exec_sIdx (.tmp 29) (.tmp 30) (by kernel_rfl) l (by kernel_rfl) (k) (by kernel_rfl) c HC.out) ?_
      refine lnow 3 (.bool (decide ((c.toNat : Int) = 45))) (some 32) ?_
      rw [decide_eq_true (h45)]
      refine lnow 4 (.bool true) (some 33) ?_
      refine lnow 5 (.int .i64 (k : Int)) (some 34) ?_
      refine lnow 6 (.int .i64 (IntKind.i64.wrap ((k : Int) + 1))) (some 35) ?_
      rw [show IntKind.i64.wrap ((k : Int) + 1) = ((k + 1 : Nat) : Int) from (IntWalk.i64_in _ (by omega)).trans (by omega)]
      refine lnow 7 (sT l) (some 36) ?_
      refine lnow 8 (.int .i64 (l.length : Int)) (some 37) ?_
      rw [hN.out]
      refine lnow 9 (.bool (decide (((k + 1 : Nat) : Int) < (N : Int)))) (some 38) ?_
      rw [decide_eq_false (hl2)]
      refine lnow 10 (.bool false) (some 39) ?_
      refine lnow 11 (.bool false) (some 40) ?_
      refine lpas 12 (some 41) ?_
      refine lpas 13 (some 42) ?_
      refine lpas 14 (some 43) ?_
      refine lpas 15 (some 44) ?_
      refine lpas 16 (some 45) ?_
      refine lnow 17 (.bool false) (some 46) ?_
      refine lin_done 18 (by kernel_rfl) ?_
      generalize hact : Act.put _ (some 46) _ = act
      simp only [Act.put, List.setIfInBounds_toArray, List.set_cons_succ, List.set_cons_zero] at hact
      subst hact
      have NP : Hid (¬ Lib.hasPrefix L [45, 45] = true) := by rw [Hid, PQ.out]; have er : r = [] := (by cases r with | nil => rfl | cons b r2 => (have h := congrArg List.length EC.out; simp at h; omega)); rw [er, isHd, Bool.and_false]; simp
      have G0 : Hid (gapL L = 0) := by rw [Hid, GQ.out, if_neg NP.out]
      clear NP PQ GQ
      obtain ⟨⟨tk, tn⟩, hT⟩ : ∃ T, Hid (tokR L = T) := ⟨_, rfl⟩
      go_upto_region 13 with (fail)
      refine lin_begin (opsOf Try.f9 13) (by kernel_rfl) ?_
      refine lnow 0 (sT l) (some 71) ?_
      refine lnow 1 (.int .i64 (k : Int)) (some 72) ?_
      refine lin_call 2 18 #[sT l, .int .i64 (k : Int)] (some 73) _ (by kernel_rfl) (by kernel_rfl) (by kernel_rfl) (xrtoken_walk l (by have := hN.out; omega) k c r (hL.out.trans EC.out) _) ?_
      rintro e w1 ⟨rfl, hw1⟩
      obtain rfl := hw1.symm
      rw [hL.out, hT.out]
      dsimp only
      refine ⟨_, rfl, ?_⟩
      refine lnow 3 (.tuple #[.int .i64 (tk : Int), .int .i64 (tn : Int)]) (some 70) ?_
      refine lnow 4 (.int .i64 (tk : Int)) (some 74) ?_
      refine lnow 5 (.int .i64 (tn : Int)) (some 75) ?_
      refine lnow 6 (.int .i64 (tk : Int)) (some 7) ?_
      refine lnow 7 (.int .i64 (tn : Int)) (some 8) ?_
      refine lin_done 8 (by kernel_rfl) ?_
      generalize hact : Act.put _ (some 8) _ = act
      simp only [Act.put, List.setIfInBounds_toArray, List.set_cons_succ, List.set_cons_zero] at hact
      subst hact
      by_cases hk0 : (tk : Int) = 0
      · skip
        go_upto_region 14 with (fail)
        refine lin_begin (opsOf Try.f9 14) (by kernel_rfl) ?_
        refine lnow 0 (.int .i64 (tk : Int)) (some 76) ?_
        refine lnow 1 (.bool (decide ((tk : Int) = 0))) (some 77) ?_
        rw [decide_eq_true (hk0)]
        refine lin_done 2 (by kernel_rfl) ?_
        generalize hact : Act.put _ (some 77) _ = act
        simp only [Act.put, List.setIfInBounds_toArray, List.set_cons_succ, List.set_cons_zero] at hact
        subst hact
        have TN : Hid (tokAt L = none) := tokR_none (n := tn) (by rw [hT.out, show tk = 0 by omega])
        have E := hR.out.symm.trans (scanR_bad (p := k) NM.out (by rw [SC.out, scanS_bad TN.out G0.out (by rw [EC.out]; simp)]; rfl))
        simp only [Prod.mk.injEq] at E
        obtain ⟨E1, E2, E3⟩ := E
        have E4 := E1.symm
        have E5 := E2.symm
        clear E1 E2 hR
        subst E4
        subst E5
        subst E3
        clear SC OW TN hT G0 hk0
        go_upto_region 15 with (fail)
        refine lin_begin (opsOf Try.f9 15) (by kernel_rfl) ?_
        refine lnow 0 (.int .i64 (k : Int)) (some 78) ?_
        refine lnow 1 (.slice none 0 0) (some 2) ?_
        refine lnow 2 (.int .i64 (k : Int)) (some 3) ?_
        refine lnow 3 (.int .i64 10) (some 4) ?_
        refine lin_done 4 (by kernel_rfl) ?_
        generalize hact : Act.put _ (some 4) _ = act
        simp only [Act.put, List.setIfInBounds_toArray, List.set_cons_succ, List.set_cons_zero] at hact
        subst hact
        go_wp2
        refine bodyPost_ret (v := .tuple #[.slice none 0 0, .int .i64 (k : Int), .int .i64 10]) (by kernel_rfl) rfl ⟨_, rfl, OwnX.nil _ _ _, BE.out⟩
      go_upto_region 14 with (fail)
      refine lin_begin (opsOf Try.f9 14) (by kernel_rfl) ?_
      refine lnow 0 (.int .i64 (tk : Int)) (some 76) ?_
      refine lnow 1 (.bool (decide ((tk : Int) = 0))) (some 77) ?_
      rw [decide_eq_false (hk0)]
      refine lin_done 2 (by kernel_rfl) ?_
      generalize hact : Act.put _ (some 77) _ = act
      simp only [Act.put, List.setIfInBounds_toArray, List.set_cons_succ, List.set_cons_zero] at hact
      subst hact
      have TA : Hid (tokAt L = some (tk, tn)) := tokR_some hT.out (by omega)
      have tp := (tokAt_pos TA.out).1
      have tl := (tokAt_pos TA.out).2.1
      have SC2 : Hid (scanS l 0 = preR (ts ++ [(⟨tk, L.take tn, k⟩ : Tk)]) (scanS (l.drop (k + tn)) (k + tn))) := by rw [Hid, SC.out, scanS_tok TA.out, preR_cons, ← hL.out, List.drop_drop]
      clear SC hT TA hk0 G0
      go_upto_region 16 with (fail)
      refine lin_begin (opsOf Try.f9 16) (by kernel_rfl) ?_
      refine lnow 0 (lv) (some 79) ?_
      refine lnow 1 (.int .i64 (tk : Int)) (some 80) ?_
      refine lnow 2 (sT l) (some 81) ?_
      refine lnow 3 (.int .i64 (k : Int)) (some 82) ?_
      refine lnow 4 (.int .i64 (k : Int)) (some 83) ?_
      refine lnow 5 (.int .i64 (tn : Int)) (some 84) ?_
      refine lnow 6 (.int .i64 (IntKind.i64.wrap ((k : Int) + (tn : Int)))) (some 85) ?_
      rw [show IntKind.i64.wrap ((k : Int) + (tn : Int)) = ((k + tn : Nat) : Int) from (IntWalk.i64_in _ (by omega)).trans (by omega)]
      refine lin_now 7 (sT (L.take tn)) (some 86) (by kernel_rfl) (by kernel_rfl) (by have h := run_sCut l k (k + tn) (by omega) (by have := hN.out; omega) wo; rw [hL.out, Nat.add_sub_cancel_left] at h; exact exec_of (Instr.sliceAt 9 (sT l) (some (.int .i64 (k : Int))) (some (.int .i64 ((k + tn : Nat) : Int))) none) _ (by kernel_rfl) h) ?_
      refine lnow 8 (.int .i64 (k : Int)) (some 87) ?_
      refine lnow 9 (.agg (tkC ⟨tk, L.take tn, k⟩).toArray) (some 88) ?_
      refine lin_tok 32 27 infoRTok Try.underlying27 mkRTok 10 (some 89) (some 90) ⟨tk, L.take tn, k⟩ lv ts q OW.out (by have := TL.out; omega) QW.out (by kernel_rfl) (by kernel_rfl) (by kernel_rfl) (fun _ => by kernel_rfl) (by kernel_rfl) (fun _ => by kernel_rfl) ?_
      intro g v' w2 ow2 be2
      have OW2 := Lib.hid ow2
      have BE2 : Hid (Below q w w2) := BE.out.trans be2
      clear ow2 be2 OW BE QW
      refine lnow 12 (v') (some 5) ?_
      refine lin_done 13 (by kernel_rfl) ?_
      generalize hact : Act.put _ (some 5) _ = act
      simp only [Act.put, List.setIfInBounds_toArray, List.set_cons_succ, List.set_cons_zero] at hact
      subst hact
      have TL2 : Hid ((ts ++ [(⟨tk, L.take tn, k⟩ : Tk)]).length ≤ k + tn) := by rw [Hid, List.length_append]; have := TL.out; simp; omega
      obtain ⟨T2, hT2⟩ : ∃ T2 : List Tk, Hid (ts ++ [(⟨tk, L.take tn, k⟩ : Tk)] = T2) := ⟨ts ++ [(⟨tk, L.take tn, k⟩ : Tk)], rfl⟩
      rw [hT2.out] at SC2 OW2 TL2
      go_upto_region 17 with (fail)
      refine lin_begin (opsOf Try.f9 17) (by kernel_rfl) ?_
      refine lnow 0 (.int .i64 (k : Int)) (some 91) ?_
      refine lnow 1 (.int .i64 (tn : Int)) (some 92) ?_
      refine lnow 2 (.int .i64 (IntKind.i64.wrap ((k : Int) + (tn : Int)))) (some 93) ?_
      rw [show IntKind.i64.wrap ((k : Int) + (tn : Int)) = ((k + tn : Nat) : Int) from (IntWalk.i64_in _ (by omega)).trans (by omega)]
      refine lnow 3 (.int .i64 ((k + tn : Nat) : Int)) (some 6) ?_
      refine lin_done 4 (by kernel_rfl) ?_
      generalize hact : Act.put _ (some 6) _ = act
      simp only [Act.put, List.setIfInBounds_toArray, List.set_cons_succ, List.set_cons_zero] at hact
      subst hact
      go_wp2
      go_roundg (N - (k + tn))
      case rel => exact ⟨k + tn, T2, v', rfl, by omega, rfl, TL2, OW2, BE2, SC2⟩
      case measure => omega
    go_upto_region 8 with (fail)
    refine lin_begin (opsOf Try.f9 8) (by kernel_rfl) ?_
    refine lnow 0 (sT l) (some 29) ?_
    refine lnow 1 (.int .i64 (k : Int)) (some 30) ?_
    refine lnowP 2 (.int .u8 (c.toNat : Int)) (some 31) (exec_sIdx (.tmp 29) (.tmp 30) (by kernel_rfl) l (by kernel_rfl) (k) (by kernel_rfl) c HC.out) ?_
    refine lnow 3 (.bool (decide ((c.toNat : Int) = 45))) (some 32) ?_
    rw [decide_eq_false (h45)]
    refine lnow 4 (.bool false) (some 33) ?_
    refine lpas 5 (some 34) ?_
    refine lpas 6 (some 35) ?_
    refine lpas 7 (some 36) ?_
    refine lpas 8 (some 37) ?_
    refine lpas 9 (some 38) ?_
    refine lnow 10 (.bool false) (some 39) ?_
    refine lnow 11 (.bool false) (some 40) ?_
    refine lpas 12 (some 41) ?_
    refine lpas 13 (some 42) ?_
    refine lpas 14 (some 43) ?_
    refine lpas 15 (some 44) ?_
    refine lpas 16 (some 45) ?_
    refine lnow 17 (.bool false) (some 46) ?_
    refine lin_done 18 (by kernel_rfl) ?_
    generalize hact : Act.put _ (some 46) _ = act
    simp only [Act.put, List.setIfInBounds_toArray, List.set_cons_succ, List.set_cons_zero] at hact
    subst hact
    have NP : Hid (¬ Lib.hasPrefix L [45, 45] = true) := by rw [Hid, PQ.out]; intro h; rw [Bool.and_eq_true] at h; have e : (45 : UInt8) = c := (by simpa using h.1); subst e; exact h45 rfl
    have G0 : Hid (gapL L = 0) := by rw [Hid, GQ.out, if_neg NP.out]
    clear NP PQ GQ
    obtain ⟨⟨tk, tn⟩, hT⟩ : ∃ T, Hid (tokR L = T) := ⟨_, rfl⟩
    go_upto_region 13 with (fail)
    refine lin_begin (opsOf Try.f9 13) (by kernel_rfl) ?_
    refine lnow 0 (sT l) (some 71) ?_
    refine lnow 1 (.int .i64 (k : Int)) (some 72) ?_
    refine lin_call 2 18 #[sT l, .int .i64 (k : Int)] (some 73) _ (by kernel_rfl) (by kernel_rfl) (by kernel_rfl) (xrtoken_walk l (by have := hN.out; omega) k c r (hL.out.trans EC.out) _) ?_
    rintro e w1 ⟨rfl, hw1⟩
    obtain rfl := hw1.symm
    rw [hL.out, hT.out]
    dsimp only
    refine ⟨_, rfl, ?_⟩
    refine lnow 3 (.tuple #[.int .i64 (tk : Int), .int .i64 (tn : Int)]) (some 70) ?_
    refine lnow 4 (.int .i64 (tk : Int)) (some 74) ?_
    refine lnow 5 (.int .i64 (tn : Int)) (some 75) ?_
    refine lnow 6 (.int .i64 (tk : Int)) (some 7) ?_
    refine lnow 7 (.int .i64 (tn : Int)) (some 8) ?_
    refine lin_done 8 (by kernel_rfl) ?_
    generalize hact : Act.put _ (some 8) _ = act
    simp only [Act.put, List.setIfInBounds_toArray, List.set_cons_succ, List.set_cons_zero] at hact
    subst hact
    by_cases hk0 : (tk : Int) = 0
    · skip
      go_upto_region 14 with (fail)
      refine lin_begin (opsOf Try.f9 14) (by kernel_rfl) ?_
      refine lnow 0 (.int .i64 (tk : Int)) (some 76) ?_
      refine lnow 1 (.bool (decide ((tk : Int) = 0))) (some 77) ?_
      rw [decide_eq_true (hk0)]
      refine lin_done 2 (by kernel_rfl) ?_
      generalize hact : Act.put _ (some 77) _ = act
      simp only [Act.put, List.setIfInBounds_toArray, List.set_cons_succ, List.set_cons_zero] at hact
      subst hact
      have TN : Hid (tokAt L = none) := tokR_none (n := tn) (by rw [hT.out, show tk = 0 by omega])
      have E := hR.out.symm.trans (scanR_bad (p := k) NM.out (by rw [SC.out, scanS_bad TN.out G0.out (by rw [EC.out]; simp)]; rfl))
      simp only [Prod.mk.injEq] at E
      obtain ⟨E1, E2, E3⟩ := E
      have E4 := E1.symm
      have E5 := E2.symm
      clear E1 E2 hR
      subst E4
      subst E5
      subst E3
      clear SC OW TN hT G0 hk0
      go_upto_region 15 with (fail)
      refine lin_begin (opsOf Try.f9 15) (by kernel_rfl) ?_
      refine lnow 0 (.int .i64 (k : Int)) (some 78) ?_
      refine lnow 1 (.slice none 0 0) (some 2) ?_
      refine lnow 2 (.int .i64 (k : Int)) (some 3) ?_
      refine lnow 3 (.int .i64 10) (some 4) ?_
      refine lin_done 4 (by kernel_rfl) ?_
      generalize hact : Act.put _ (some 4) _ = act
      simp only [Act.put, List.setIfInBounds_toArray, List.set_cons_succ, List.set_cons_zero] at hact
      subst hact
      go_wp2
      refine bodyPost_ret (v := .tuple #[.slice none 0 0, .int .i64 (k : Int), .int .i64 10]) (by kernel_rfl) rfl ⟨_, rfl, OwnX.nil _ _ _, BE.out⟩
    go_upto_region 14 with (fail)
    refine lin_begin (opsOf Try.f9 14) (by kernel_rfl) ?_
    refine lnow 0 (.int .i64 (tk : Int)) (some 76) ?_
    refine lnow 1 (.bool (decide ((tk : Int) = 0))) (some 77) ?_
    rw [decide_eq_false (hk0)]
    refine lin_done 2 (by kernel_rfl) ?_
    generalize hact : Act.put _ (some 77) _ = act
    simp only [Act.put, List.setIfInBounds_toArray, List.set_cons_succ, List.set_cons_zero] at hact
    subst hact
    have TA : Hid (tokAt L = some (tk, tn)) := tokR_some hT.out (by omega)
    have tp := (tokAt_pos TA.out).1
    have tl := (tokAt_pos TA.out).2.1
    have SC2 : Hid (scanS l 0 = preR (ts ++ [(⟨tk, L.take tn, k⟩ : Tk)]) (scanS (l.drop (k + tn)) (k + tn))) := by rw [Hid, SC.out, scanS_tok TA.out, preR_cons, ← hL.out, List.drop_drop]
    clear SC hT TA hk0 G0
    go_upto_region 16 with (fail)
    refine lin_begin (opsOf Try.f9 16) (by kernel_rfl) ?_
    refine lnow 0 (lv) (some 79) ?_
    refine lnow 1 (.int .i64 (tk : Int)) (some 80) ?_
    refine lnow 2 (sT l) (some 81) ?_
    refine lnow 3 (.int .i64 (k : Int)) (some 82) ?_
    refine lnow 4 (.int .i64 (k : Int)) (some 83) ?_
    refine lnow 5 (.int .i64 (tn : Int)) (some 84) ?_
    refine lnow 6 (.int .i64 (IntKind.i64.wrap ((k : Int) + (tn : Int)))) (some 85) ?_
    rw [show IntKind.i64.wrap ((k : Int) + (tn : Int)) = ((k + tn : Nat) : Int) from (IntWalk.i64_in _ (by omega)).trans (by omega)]
    refine lin_now 7 (sT (L.take tn)) (some 86) (by kernel_rfl) (by kernel_rfl) (by have h := run_sCut l k (k + tn) (by omega) (by have := hN.out; omega) wo; rw [hL.out, Nat.add_sub_cancel_left] at h; exact exec_of (Instr.sliceAt 9 (sT l) (some (.int .i64 (k : Int))) (some (.int .i64 ((k + tn : Nat) : Int))) none) _ (by kernel_rfl) h) ?_
    refine lnow 8 (.int .i64 (k : Int)) (some 87) ?_
    refine lnow 9 (.agg (tkC ⟨tk, L.take tn, k⟩).toArray) (some 88) ?_
    refine lin_tok 32 27 infoRTok Try.underlying27 mkRTok 10 (some 89) (some 90) ⟨tk, L.take tn, k⟩ lv ts q OW.out (by have := TL.out; omega) QW.out (by kernel_rfl) (by kernel_rfl) (by kernel_rfl) (fun _ => by kernel_rfl) (by kernel_rfl) (fun _ => by kernel_rfl) ?_
    intro g v' w2 ow2 be2
    have OW2 := Lib.hid ow2
    have BE2 : Hid (Below q w w2) := BE.out.trans be2
    clear ow2 be2 OW BE QW
    refine lnow 12 (v') (some 5) ?_
    refine lin_done 13 (by kernel_rfl) ?_
    generalize hact : Act.put _ (some 5) _ = act
    simp only [Act.put, List.setIfInBounds_toArray, List.set_cons_succ, List.set_cons_zero] at hact
    subst hact
    have TL2 : Hid ((ts ++ [(⟨tk, L.take tn, k⟩ : Tk)]).length ≤ k + tn) := by rw [Hid, List.length_append]; have := TL.out; simp; omega
    obtain ⟨T2, hT2⟩ : ∃ T2 : List Tk, Hid (ts ++ [(⟨tk, L.take tn, k⟩ : Tk)] = T2) := ⟨ts ++ [(⟨tk, L.take tn, k⟩ : Tk)], rfl⟩
    rw [hT2.out] at SC2 OW2 TL2
    go_upto_region 17 with (fail)
    refine lin_begin (opsOf Try.f9 17) (by kernel_rfl) ?_
    refine lnow 0 (.int .i64 (k : Int)) (some 91) ?_
    refine lnow 1 (.int .i64 (tn : Int)) (some 92) ?_
    refine lnow 2 (.int .i64 (IntKind.i64.wrap ((k : Int) + (tn : Int)))) (some 93) ?_
    rw [show IntKind.i64.wrap ((k : Int) + (tn : Int)) = ((k + tn : Nat) : Int) from (IntWalk.i64_in _ (by omega)).trans (by omega)]
    refine lnow 3 (.int .i64 ((k + tn : Nat) : Int)) (some 6) ?_
    refine lin_done 4 (by kernel_rfl) ?_
    generalize hact : Act.put _ (some 6) _ = act
    simp only [Act.put, List.setIfInBounds_toArray, List.set_cons_succ, List.set_cons_zero] at hact
    subst hact
    go_wp2
    go_roundg (N - (k + tn))
    case rel => exact ⟨k + tn, T2, v', rfl, by omega, rfl, TL2, OW2, BE2, SC2⟩
    case measure => omega
end Go.Proofs.Ytjclhlnkojbidaa
