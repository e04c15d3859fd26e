/- The reference's below and cube. -/
import Derived.Test.YtaeghgnhpgkcdaaDoorShaRefFi
import Derived.Deep.AppendLies
namespace Go.Proofs.YtaeghgnhpgkcdaaDoor
open Go.RowKit
set_option maxRecDepth 100000

theorem Own.of_blk {w : World} {base b : Nat} {e : TypeId} {k : IntKind} {xs : List Int} (h : Blk w b e (ints k xs)) (hb : base ≤ b) (hm : xs.length ≤ 1000) : w.ownsRow base e 1 (.slice (some ⟨b, 0, none⟩) xs.length xs.length) xs.length (ints k xs) :=
  ⟨by rw [ints_length]; omega, .inr ⟨b, xs.length, _, rfl, hb, h, Nat.le_refl _, by unfold maxLen; omega, by simp [ints_length], by rw [List.take_of_length_le (by simp [ints_length])]⟩⟩
theorem wpList_append_at {P : Program} {w : World} {ops : Array Oper} {rest : List Oper} {o : Oper} {a : Act} {Q : Exit → Act → World → Prop} (hgd : o.guard = none) (s x : Operand) (t e : TypeId)
    (ho : o.op = .call { callee := .builtin .append, args := #[s, x], argTypes := #[t, t] }) (k : IntKind) (bytes : Nat) (ht : P.underlying t = some (.slice e)) (hinfo : (P.info? e).map (fun i => (i.zero, i.size, i.bytes)) = some (some (.int k 0), 1, bytes)) (hb8 : bytes ≤ 8)
    (base : Nat) (g n cap : Nat) (xs : List Int) (hs : a.eval s = .slice (some ⟨g, 0, none⟩) n cap) (hown : w.ownsRow base e 1 (.slice (some ⟨g, 0, none⟩) n cap) n (ints k xs)) (ad : Addr) (c : Nat) (z : Int) (hx : a.eval x = .slice (some ad) 1 c) (hz : w.cell? (ad.add 0) = some (.int k z)) (hb : n ≤ 8000000000000) (hbase : base ≤ w.heap.size)
    (h : ∀ g' cap' w', w'.ownsRow base e 1 (.slice (some ⟨g', 0, none⟩) (n + 1) cap') (n + 1) (ints k (xs ++ [z])) → w.grownBy w' (some g) → (g' = g ∨ g' = w.heap.size) → g' < w'.heap.size → wpList P ops Q rest (a.put o.dst (.slice (some ⟨g', 0, none⟩) (n + 1) cap')) w') : wpList P ops Q (o :: rest) a w := by
  obtain ⟨i0, hi, hz0, hz1, hz2⟩ := info_parts hinfo
  have hbb : (n + 1) * bytes ≤ (n + 1) * 8 := Nat.mul_le_mul_left _ hb8
  refine wpList_append_lies w hgd s x t ho base e i0 (.int k 0) 1 bytes ht hi hz0 hz1 hz2 rfl (by decide) _ _ _ hs hown ad 1 c [.int k z] hx rfl ?_ ?_ (by decide) (by unfold maxLen; omega) (by omega) hbase _ rfl ?_
  · intro j u hj
    match j, hj with
    | 0, hj => simp at hj; subst hj; exact hz
  · intro u hu; simp at hu; subst hu; rfl
  · intro g' cap' w' h1 h2 h3 h4
    refine h g' cap' w' (by simpa [ints] using h1) h2 ?_ h4
    rcases h3 with h3 | h3
    · simp [Value.ownBlock] at h3; exact .inl h3.symm
    · exact .inr h3

def lenOf' : Value → Nat
  | .slice _ n _ => n
  | _ => 0
def beD (y : Int) : List Int := [bits BinOp.and IntKind.u64 y 65535, bits BinOp.and IntKind.u64 (y / 65536) 65535, y / 4294967296]
def beS (y : Int) : List Int := tmOuter (tmOuter (beD y) (beD y) 3) (beD y) 6
def beW (p : Int) : List Int := (List.replicate 16 0).set 6 p
def beCmp (ss ws : List Int) : Nat → Bool
  | 0 => true
  | m + 1 => if ss[m]?.getD 0 = ws[m]?.getD 0 then beCmp ss ws m else decide (ss[m]?.getD 0 < ws[m]?.getD 0)
def beF (y p : Int) : Bool := beCmp (beS y ++ List.replicate 7 0) (beW p) 16
theorem beS_eq (y : Int) : tmOuter (tmOuter (beD y) (beD y) 3) (beD y) 6 = beS y := by rw [beS]
theorem beD_length (y : Int) : (beD y).length = 3 := rfl
theorem be1_length (y : Int) : (tmOuter (beD y) (beD y) 3).length = 6 := by rw [tmOuter_length]; rfl
theorem beS_length (y : Int) : (beS y).length = 9 := by rw [beS, tmOuter_length, be1_length]; rfl
attribute [local irreducible] tmOuter beS
set_option maxHeartbeats 400000 in
theorem below_walk (y p : Int) (w : World) :
    Calls Tryd.prog 58 #[.int .u64 y, .int .u64 p] w fun e w' => e = .returned (.bool (beF y p)) ∧ Below w.heap.size w w' := by
  have hl1 := be1_length y
  have hl2 := beS_length y
  have HS : Hid (tmOuter (tmOuter (beD y) (beD y) 3) (beD y) 6 = beS y) := beS_eq y
  have H3 : Hid ((beD y).length = 3) := beD_length y
  have HL1 := Lib.hid hl1
  have HL2 := Lib.hid hl2
  clear hl1 hl2
  have HD : Hid (Blk (w.alloc (.cells (ints .u64 (beD y)).toArray 77)) w.heap.size 77 (ints .u64 (beD y))) := Blk.new _ _ _
  have HBE0 : Hid (Below w.heap.size w (w.alloc (.cells (ints .u64 (beD y)).toArray 77))) := (Below.refl _ _).alloc (Nat.le_refl _) _
  go_enter Tryd.func58, Tryd.ntmps58
  go_wp2_with fail
  refine (times_walk w.heap.size w.heap.size (beD y) (beD y) (by rw [H3.out]; omega) (by rw [H3.out]; omega) (w.alloc (.cells (ints .u64 (beD y)).toArray 77)) HD.out HD.out 3 3).mono ?_
  rintro e w1 ⟨b1, hb1, rfl, hB1, hBe1⟩
  have HD1 := Lib.hid (HD.out.below hBe1 (by simp))
  have HBE1 := Lib.hid (HBE0.out.trans (hBe1.mono (by simp)))
  clear HD HBE0 hb1 hBe1
  rw [H3.out] at hB1 ⊢
  generalize tmOuter (beD y) (beD y) 3 = s1 at hB1 HL1 HS ⊢
  generalize beD y = d at HD1 HS H3
  rw [HL1.out]
  have HB1 := Lib.hid hB1
  clear hB1
  go_wp2_with fail
  have ht := times_walk b1 w.heap.size s1 d (by rw [HL1.out]; omega) (by rw [H3.out]; omega) w1 HB1.out HD1.out 6 3
  rw [HL1.out, H3.out, HS.out] at ht
  refine ht.mono ?_
  rintro e w2 ⟨b2, hb2, rfl, hB2, hBe2⟩
  rw [HL2.out]
  have hw1 := HBE1.out.size
  have HOWN : Hid (w2.ownsRow w.heap.size 77 1 (.slice (some ⟨b2, 0, none⟩) 9 9) 9 (ints .u64 (beS y))) := by
    have := Own.of_blk (base := w.heap.size) hB2 (by omega) (by rw [HL2.out]; omega)
    rwa [HL2.out] at this
  have HBE2 := Lib.hid (HBE1.out.trans (hBe2.mono hw1))
  have HB2 := Lib.hid hB2.lt
  clear HD1 HBE1 hb2 hBe2 hB2 HB1 hw1 HL1 H3 HS ht
  go_wp2_with (refine wpList_make_blk _ rfl _ _ 74 rfl 77 (.int .u64 0) 8 Tryd.underlying74 infoU64 rfl _ _ _ _ 16 rfl rfl ?c1 ?c2 (by omega) (by omega) ?_)
  case c1 => rfl
  case c2 => rfl
  intro w3 hb3 hbel3 hsz3
  have HW : Hid (Blk w3 w2.heap.size 77 (ints .u64 (List.replicate 16 0))) := hb3
  have HBE3 : Hid (Below w.heap.size w w3) := HBE2.out.trans (hbel3.mono HBE2.out.size)
  have HO3 : Hid (w3.ownsRow w.heap.size 77 1 (.slice (some ⟨b2, 0, none⟩) 9 9) 9 (ints .u64 (beS y))) := HOWN.out.kept (row := none) ⟨hbel3.os, hbel3.tape, hbel3.output, hbel3.size, fun k hk _ => hbel3.block k hk⟩ (.inr (by simp [Value.ownBlock]))
  have cw : w3.cell? ⟨w2.heap.size, 6, none⟩ = some (.int .u64 0) := HW.out.cell rfl
  have fw := HW.out.free 6
  clear hb3 hbel3 hsz3 HOWN
  have HW4 : Hid (Blk (w3.setCell ⟨w2.heap.size, 6, none⟩ (.int .u64 p)) w2.heap.size 77 (ints .u64 (beW p))) := by
    have := HW.out.set 6 (.int .u64 p); rwa [ints_set] at this
  have HBE4 : Hid (Below w.heap.size w (w3.setCell ⟨w2.heap.size, 6, none⟩ (.int .u64 p))) := HBE3.out.setCell HBE2.out.size _
  have HO4 : Hid ((w3.setCell ⟨w2.heap.size, 6, none⟩ (.int .u64 p)).ownsRow w.heap.size 77 1 (.slice (some ⟨b2, 0, none⟩) 9 9) 9 (ints .u64 (beS y))) :=
    HO3.out.kept (row := some w2.heap.size) ⟨rfl, rfl, rfl, by simp, fun k _ hk => heap_setCell_other w3 ⟨w2.heap.size, 6, none⟩ k _ (fun e => hk (by simp [e]))⟩ (.inr (by have := HB2.out; simp [Value.ownBlock]; omega))
  go_wp2
  clear HW HBE3 HO3 cw fw
  go_loopw [6] (fun v wr => ∃ (k g cap : Nat), k ≤ 7 ∧ v = .slice (some ⟨g, 0, none⟩) (9 + k) cap ∧ g ≠ w2.heap.size ∧ wr.ownsRow w.heap.size 77 1 (.slice (some ⟨g, 0, none⟩) (9 + k) cap) (9 + k) (ints .u64 (beS y ++ List.replicate k 0)) ∧ Blk wr w2.heap.size 77 (ints .u64 (beW p)) ∧ Below w.heap.size w wr) (fun v _ => 16 - lenOf' v)
  case atStart => exact ⟨0, b2, 9, by omega, rfl, by have := HB2.out; omega, by simpa using HO4.out, HW4.out, HBE4.out⟩
  case round =>
    obtain ⟨k, g, cap, hk, rfl, hg, hown, hbl, hbel⟩ := hrel
    clear HW4 HBE4 HO4
    obtain ⟨len, el⟩ : ∃ len, Hid (len = 9 + k) := ⟨_, rfl⟩
    rw [← el.out] at hown ⊢
    have el' := el.out
    by_cases hlt : k < 7
    · have q1 : (len : Int) < 16 := by omega
      have HO : Hid ((wr.alloc (.cells #[.int .u64 0] 77)).ownsRow w.heap.size 77 1 (.slice (some ⟨g, 0, none⟩) len cap) len (ints .u64 (beS y ++ List.replicate k 0))) := hown.alloc _
      have HBL := Lib.hid (hbl.alloc (.cells #[.int .u64 0] 77))
      have HBE := Lib.hid (hbel.alloc hbel.size (.cells #[.int .u64 0] 77))
      have HG := Lib.hid hg
      have HSZ := Lib.hid hbel.size
      have HLT := Lib.hid hbl.lt
      have HGL := Lib.hid (hown.lt g rfl)
      clear hown hbl hbel hg el'
      go_wp2_with (with_reducible refine wpList_append_at (o := ⟨some 36, _, _, _, _, _⟩) ?a1 (.tmp 34) (.tmp 35) 74 77 ?a2 .u64 8 Tryd.underlying74 infoU64 (by decide) w.heap.size g len cap (beS y ++ List.replicate k 0) ?a3 HO.out ⟨wr.heap.size, 0, none⟩ 1 0 ?a4 ?a5 ?a6 ?a7 ?_)
      case a1 => rfl
      case a2 => rfl
      case a3 => rfl
      case a4 => rfl
      case a5 => simp [Addr.add]
      case a6 => have := el.out; omega
      case a7 => exact HBE.out.size
      intro g' cap' w5 ho5 hg5 hat5 hlt5
      have HO5 : Hid (w5.ownsRow w.heap.size 77 1 (.slice (some ⟨g', 0, none⟩) (9 + (k + 1)) cap') (9 + (k + 1)) (ints .u64 (beS y ++ List.replicate (k + 1) 0))) := by
        rw [← List.replicate_succ', el.out] at ho5
        exact ho5
      have HG5 : Hid (g' ≠ w2.heap.size) := by
        have h1 := HG.out
        have h2 := HLT.out
        rcases hat5 with h | h
        · show g' ≠ w2.heap.size; omega
        · show g' ≠ w2.heap.size; omega
      have HBL5 : Hid (Blk w5 w2.heap.size 77 (ints .u64 (beW p))) := by
        have h2 := HBL.out.lt
        show w5.heap[w2.heap.size]? = _
        rw [hg5.block _ h2 (by have := HG.out; simp; omega)]
        exact HBL.out
      have HBE5 : Hid (Below w.heap.size w w5) := HBE.out.grown hg5 HBE.out.size (fun j hj => by have := HGL.out; simp at hj; omega)
      have EL := el.out
      clear ho5 hg5 hat5 hlt5 HO HBL HBE HG HSZ HLT HGL
      go_wp2
      refine ⟨⟨k + 1, g', cap', by omega, by rw [EL]; rfl, HG5.out, HO5.out, HBL5.out, HBE5.out⟩, ?_⟩
      simp [lenOf']; omega
    · have q1 : ¬ (len : Int) < 16 := by omega
      have ek : k = 7 := by omega
      subst ek
      have e16 : len = 16 := by omega
      subst e16
      clear el el' q1 hlt hk
      have HO := Lib.hid hown
      have HBL := Lib.hid hbl
      have HBE := Lib.hid hbel
      clear hown hbl hbel
      obtain ⟨ss, es⟩ : ∃ ss, Hid (beS y ++ List.replicate 7 0 = ss) := ⟨_, Lib.hid rfl⟩
      obtain ⟨ws, ew⟩ : ∃ ws, Hid (beW p = ws) := ⟨_, Lib.hid rfl⟩
      have hsl : Hid (ss.length = 16) := by unfold Hid; rw [← es.out, List.length_append, HL2.out, List.length_replicate]
      have hwl : Hid (ws.length = 16) := by unfold Hid; rw [← ew.out]; simp [beW]
      have HF : Hid (beCmp ss ws 16 = beF y p) := by unfold Hid; rw [← es.out, ← ew.out]; rfl
      rw [es.out] at HO
      rw [ew.out] at HBL
      go_wp2
      go_loopw [8] (fun i wz => ∃ (m : Nat) (z : Int), m ≤ 16 ∧ i = .int .i64 z ∧ z = (m : Int) - 1 ∧ beCmp ss ws m = beF y p ∧ ∃ nd, wz = wr.drewN nd) (fun i _ => (intOf i + 1).toNat)
      case atStart => exact ⟨16, 15, by omega, rfl, rfl, HF.out, 0, rfl⟩
      case round =>
        obtain ⟨m, z, hm, rfl, hz, hc, nd, rfl⟩ := hrel
        cases m with
        | zero =>
          have : z = -1 := by omega
          subst this; clear hz
          have HC := Lib.hid hc
          clear hc
          go_wp2
          go_ret
          refine ⟨by rw [← HC.out]; rfl, HBE.out.trans ((below_drewN _ nd).mono HBE.out.size)⟩
        | succ m =>
          have : z = (m : Int) := by omega
          subst this; clear hz
          have q1 : 0 ≤ (m : Int) := by omega
          have q2 : (m : Int) < 16 := by omega
          have c1 : wr.cell? ⟨g, m, none⟩ = _ := Own.cell HO.out (j := m) (by rw [hsl.out]; omega)
          have c2 : wr.cell? ⟨w2.heap.size, m, none⟩ = _ := HBL.out.cell (ints_getD (k := .u64) (j := m) (by rw [hwl.out]; omega))
          have HC : Hid ((if ss.getD m 0 = ws.getD m 0 then beCmp ss ws m else decide (ss.getD m 0 < ws.getD m 0)) = beF y p) := by unfold Hid; rw [← hc]; simp [beCmp]
          clear hc
          generalize ss.getD m 0 = x at *
          generalize ws.getD m 0 = x2 at *
          by_cases hx : x = x2
          · subst hx
            have hxx : (x != x) = false := by simp
            rw [if_pos rfl] at HC
            go_wp2
            go_quiet (fail)
            go_wp2
            go_roundw
            case rel => exact ⟨m, _, by omega, rfl, rfl, HC.out, nd + nq, by simp [World.drewN]⟩
            case measure => simp [intOf]
          · have hxx : (x != x2) = true := by simpa using hx
            rw [if_neg hx] at HC
            go_wp2
            go_quiet (fail)
            go_wp2
            go_quiet (fail)
            go_wp2
            go_ret
            exact ⟨by rw [← HC.out]; rfl, ⟨HBE.out.os, HBE.out.tape, HBE.out.output, HBE.out.size, HBE.out.block⟩⟩
end Go.Proofs.YtaeghgnhpgkcdaaDoor
