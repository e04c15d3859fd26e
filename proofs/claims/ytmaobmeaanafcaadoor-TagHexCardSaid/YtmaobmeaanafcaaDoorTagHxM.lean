/- The order of two digests is that of their digits: plain lemmas; nothing about the program. -/
import Derived.Test.YtmaobmeaanafcaaDoorTagFhx
namespace Go.Proofs.YtmaobmeaanafcaaDoor
open Go Go.RowKit

theorem hexD_lt (x y : Int) (hx : 0 ≤ x ∧ x ≤ 15) (hy : 0 ≤ y ∧ y ≤ 15) : hexD x < hexD y ↔ x < y := by unfold hexD; split <;> split <;> omega
theorem hexD_inj (x y : Int) (hx : 0 ≤ x ∧ x ≤ 15) (hy : 0 ≤ y ∧ y ≤ 15) : hexD x = hexD y ↔ x = y := by unfold hexD; split <;> split <;> omega
theorem cmpD_cons (a b : Int) (al bl : List Int) : cmpD (a :: al) (b :: bl) = if a < b then -1 else if b < a then 1 else cmpD al bl := rfl
theorem cmpD_hex : ∀ (as' bs : List Int), isBytes as' → isBytes bs → as'.length = bs.length → cmpD (hexL as') (hexL bs) = cmpD as' bs
  | [], [], _, _, _ => rfl
  | [], _ :: _, _, _, h => by simp at h
  | _ :: _, [], _, _, h => by simp at h
  | a :: al, b :: bl, ha, hb, hl => by
    have ih := cmpD_hex al bl (fun x hx => ha x (by simp [hx])) (fun x hx => hb x (by simp [hx])) (by simpa using hl)
    have ba := ha a (by simp)
    have bb := hb b (by simp)
    have h1 := hexD_lt (a / 16) (b / 16) (by omega) (by omega)
    have h2 := hexD_lt (b / 16) (a / 16) (by omega) (by omega)
    have h3 := hexD_lt (a % 16) (b % 16) (by omega) (by omega)
    have h4 := hexD_lt (b % 16) (a % 16) (by omega) (by omega)
    rw [hexL, hexL, cmpD_cons, cmpD_cons, cmpD_cons, ih]
    simp only [h1, h2, h3, h4]
    split
    · rw [if_pos (by omega)]
    · split
      · rw [if_neg (by omega), if_pos (by omega)]
      · split
        · rw [if_pos (by omega)]
        · split
          · rw [if_neg (by omega), if_pos (by omega)]
          · rw [if_neg (by omega), if_neg (by omega)]
theorem cmpD_range : ∀ (a b : List Int), cmpD a b = -1 ∨ cmpD a b = 0 ∨ cmpD a b = 1
  | [], [] => .inr (.inl rfl)
  | [], _ :: _ => .inl rfl
  | _ :: _, [] => .inr (.inr rfl)
  | a :: al, b :: bl => by
    rw [cmpD_cons]
    split
    · exact .inl rfl
    · split
      · exact .inr (.inr rfl)
      · exact cmpD_range al bl
theorem cmpD_neg : ∀ (a b : List Int), cmpD b a = - cmpD a b
  | [], [] => rfl
  | [], _ :: _ => rfl
  | _ :: _, [] => rfl
  | a :: al, b :: bl => by
    rw [cmpD_cons, cmpD_cons, cmpD_neg al bl]
    by_cases h1 : a < b
    · rw [if_pos h1, if_neg (by omega), if_pos h1]; rfl
    · by_cases h2 : b < a
      · rw [if_pos h2, if_neg h1, if_pos h2]
      · rw [if_neg h2, if_neg h1, if_neg h1, if_neg h2]
theorem cmpD_zero : ∀ (a b : List Int), cmpD a b = 0 ↔ a = b
  | [], [] => by simp [cmpD]
  | [], _ :: _ => by simp [cmpD]
  | _ :: _, [] => by simp [cmpD]
  | a :: al, b :: bl => by
    rw [cmpD_cons]
    by_cases h1 : a < b
    · rw [if_pos h1]; constructor
      · intro h; cases h
      · intro h; injection h with h2 _; omega
    · by_cases h2 : b < a
      · rw [if_neg h1, if_pos h2]; constructor
        · intro h; cases h
        · intro h; injection h with h3 _; omega
      · rw [if_neg h1, if_neg h2, cmpD_zero al bl]
        have : a = b := by omega
        subst this
        simp
theorem hexL_bytes (ds : List Int) (hb : isBytes ds) : isBytes (hexL ds) := by
  induction ds with
  | nil => intro x hx; cases hx
  | cons d ds ih =>
    have bd := hb d (by simp)
    intro x hx
    rw [hexL] at hx
    rcases List.mem_cons.1 hx with rfl | hx
    · exact hexD_range _ (by omega) (by omega)
    · rcases List.mem_cons.1 hx with rfl | hx
      · exact hexD_range _ (by omega) (by omega)
      · exact ih (fun y hy => hb y (by simp [hy])) x hx
end Go.Proofs.YtmaobmeaanafcaaDoor
/- Two digests' digits as strings: the order and the equality that the program's operators tell. -/
namespace Go.Proofs.YtmaobmeaanafcaaDoor
open Go Go.RowKit
set_option maxRecDepth 100000

theorem byte_beq (a b : Int) (ha : 0 ≤ a ∧ a ≤ 255) (hb : 0 ≤ b ∧ b ≤ 255) : (UInt8.ofNat a.toNat == UInt8.ofNat b.toNat) = decide (a = b) := by
  have h1 := byte_lt a b ha hb
  have h2 := byte_lt b a hb ha
  by_cases h : a = b
  · subst h; simp
  · rw [decide_eq_false h, beq_eq_false_iff_ne]
    intro e
    have e' : a.toNat.toUInt8 = b.toNat.toUInt8 := e
    rw [e'] at h1 h2
    have h3 : ¬ b.toNat.toUInt8 < b.toNat.toUInt8 := UInt8.lt_irrefl _
    rcases Int.lt_or_gt_of_ne h with c | c
    · exact h3 (h1.2 c)
    · exact h3 (h2.2 c)
theorem less_cmpD : ∀ (xs ys : List Int), isBytes xs → isBytes ys → Op.bytesLess (xs.map fun n => UInt8.ofNat n.toNat) (ys.map fun n => UInt8.ofNat n.toNat) = decide (cmpD xs ys = -1)
  | [], [], _, _ => rfl
  | [], _ :: _, _, _ => rfl
  | _ :: _, [], _, _ => rfl
  | a :: al, b :: bl, ha, hb => by
    have ba := ha a (by simp)
    have bb := hb b (by simp)
    have h1 : (decide (UInt8.ofNat a.toNat < UInt8.ofNat b.toNat)) = decide (a < b) := decide_eq_decide.2 (byte_lt a b ba bb)
    have ih := less_cmpD al bl (fun x hx => ha x (by simp [hx])) (fun x hx => hb x (by simp [hx]))
    rw [List.map_cons, List.map_cons, Op.bytesLess, h1, byte_beq a b ba bb, ih, cmpD_cons]
    by_cases c1 : a < b
    · simp [c1]
    · by_cases c2 : b < a
      · simp [c1, c2]; omega
      · have : a = b := by omega
        subst this
        simp
theorem strToList (xs : List Int) : (strOfNums xs).toList = xs.map fun n => UInt8.ofNat n.toNat := ByteArray.toList_mk _
theorem map_inj : ∀ (xs ys : List Int), isBytes xs → isBytes ys → ((xs.map fun n => UInt8.ofNat n.toNat) == (ys.map fun n => UInt8.ofNat n.toNat)) = decide (xs = ys)
  | [], [], _, _ => rfl
  | [], _ :: _, _, _ => rfl
  | _ :: _, [], _, _ => rfl
  | a :: al, b :: bl, ha, hb => by
    have ih := map_inj al bl (fun x hx => ha x (by simp [hx])) (fun x hx => hb x (by simp [hx]))
    have h1 := byte_beq a b (ha a (by simp)) (hb b (by simp))
    rw [List.map_cons, List.map_cons, List.cons_beq_cons, h1, ih]
    simp
theorem hexL_eq (a b : List Int) (ha : isBytes a) (hb : isBytes b) (hl : a.length = b.length) : (hexL a = hexL b) ↔ a = b := by
  rw [← cmpD_zero, cmpD_hex a b ha hb hl, cmpD_zero]
theorem hex_less (a b : List Int) (ha : isBytes a) (hb : isBytes b) (hl : a.length = b.length) : Op.bytesLess (strOfNums (hexL a)).toList (strOfNums (hexL b)).toList = decide (cmpD a b = -1) := by
  rw [strToList, strToList, less_cmpD _ _ (hexL_bytes a ha) (hexL_bytes b hb), cmpD_hex a b ha hb hl]
theorem hex_same (a b : List Int) (ha : isBytes a) (hb : isBytes b) (hl : a.length = b.length) : ((strOfNums (hexL a)).toList == (strOfNums (hexL b)).toList) = decide (cmpD a b = 0) := by
  have e2 : decide (a = b) = decide (cmpD a b = 0) := decide_eq_decide.2 (cmpD_zero a b).symm
  have e3 : decide (hexL a = hexL b) = decide (a = b) := decide_eq_decide.2 (hexL_eq a b ha hb hl)
  rw [strToList, strToList, map_inj _ _ (hexL_bytes a ha) (hexL_bytes b hb), e3, e2]
theorem run_hex_lss (a b : List Int) (ha : isBytes a) (hb : isBytes b) (hl : a.length = b.length) (w : World) : (binOp BinOp.lss 9 (.string (strOfNums (hexL a))) (.string (strOfNums (hexL b)))).run Tryd.prog w = .ok (.bool (decide (cmpD a b = -1))) w := by
  rw [binOp_string_lss, strToList, strToList, less_cmpD _ _ (hexL_bytes a ha) (hexL_bytes b hb), cmpD_hex a b ha hb hl]
  rfl
theorem run_hex_gtr (a b : List Int) (ha : isBytes a) (hb : isBytes b) (hl : a.length = b.length) (w : World) : (binOp BinOp.gtr 9 (.string (strOfNums (hexL a))) (.string (strOfNums (hexL b)))).run Tryd.prog w = .ok (.bool (decide (cmpD a b = 1))) w := by
  have e : binOp BinOp.gtr 9 (.string (strOfNums (hexL a))) (.string (strOfNums (hexL b))) = pure (.bool (!Op.bytesLess (strOfNums (hexL a)).toList (strOfNums (hexL b)).toList && !(strOfNums (hexL a)).toList == (strOfNums (hexL b)).toList)) := by simp [binOp, Op.stringOp]
  have e2 : decide (a = b) = decide (cmpD a b = 0) := decide_eq_decide.2 (cmpD_zero a b).symm
  have e3 : decide (hexL a = hexL b) = decide (a = b) := decide_eq_decide.2 (hexL_eq a b ha hb hl)
  rw [e, strToList, strToList, less_cmpD _ _ (hexL_bytes a ha) (hexL_bytes b hb), cmpD_hex a b ha hb hl, map_inj _ _ (hexL_bytes a ha) (hexL_bytes b hb), e3, e2]
  rcases cmpD_range a b with h | h | h <;> simp only [h] <;> rfl
theorem run_hex_eql (a b : List Int) (ha : isBytes a) (hb : isBytes b) (hl : a.length = b.length) (w : World) : (binOp BinOp.eql 9 (.string (strOfNums (hexL a))) (.string (strOfNums (hexL b)))).run Tryd.prog w = .ok (.bool (decide (a = b))) w := by
  rw [binOp_string_eql, strToList, strToList, map_inj _ _ (hexL_bytes a ha) (hexL_bytes b hb), decide_eq_decide.2 (hexL_eq a b ha hb hl)]
  rfl
theorem exec_bin {P : Program} {a : Act} {w : World} {op : Oper} (o : BinOp) (t t2 : TypeId) (x y : Operand) (_ho : op.op = .binOp o t x y t2) (vx vy v : Value) (_hx : a.eval x = vx) (_hy : a.eval y = vy) (h : ∀ w, (execOp a.eval op).run P w = ((binOp o t vx vy).run P w).andThen fun v w => .ok (.value v) w) (hr : (binOp o t vx vy).run P w = .ok v w) : (execOp a.eval op).run P w = .ok (.value v) w := by
  rw [h, hr]; rfl

end Go.Proofs.YtmaobmeaanafcaaDoor
