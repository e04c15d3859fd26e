/- A call's cells, in a block of their own. -/
import Derived.Test.YtpbilngjjlabiaaDskCa
namespace Go.Proofs.Ytpbilngjjlabiaa
open Go Go.RowKit
set_option maxRecDepth 100000

def ccl (c : Cl) (pv : Value) : List Value := .int .i64 c.what :: .int .i64 c.n :: (ints .u8 c.block ++ [pv])
def zC : List Value := .int .i64 0 :: .int .i64 0 :: (ints .u8 zB ++ [.slice none 0 0])
theorem ccl_length {c : Cl} (h : c.block.length = 64) (pv : Value) : (ccl c pv).length = 67 := by simp [ccl, ints_length, h]
theorem zC_length : zC.length = 67 := by simp [zC, ints_length, zB_length]
theorem zeroCall : (Try.prog.info? 36).map (·.zero) = some (some (.agg zC.toArray)) := by kernel_rfl
theorem sizeCall : (Try.prog.info? 36).map (·.size) = some 67 := by kernel_rfl
theorem infoCall {c : Cl} (h : c.block.length = 64) (pv : Value) : (Try.prog.info? 36).map (·.size) = some (ccl c pv).length := by rw [ccl_length h]; exact sizeCall
theorem ccl_range {w : World} {qb o : Nat} {c : Cl} {pv : Value} (h0 : w.cell? ⟨qb, o, none⟩ = some (.int .i64 c.what)) (h1 : w.cell? ⟨qb, o + 1, none⟩ = some (.int .i64 c.n)) (h2 : w.rangeAt qb (o + 2) (ints .u8 c.block)) (hl : c.block.length = 64) (h3 : w.cell? ⟨qb, o + 66, none⟩ = some pv) : w.rangeAt qb o (ccl c pv) := fun j v hv => by
  match j, hv with
  | 0, hv => rw [Nat.add_zero, h0]; simpa [ccl] using hv
  | 1, hv => rw [h1]; simpa [ccl] using hv
  | j + 2, hv =>
    rw [ccl, List.getElem?_cons_succ, List.getElem?_cons_succ] at hv
    by_cases hj : j < 64
    · rw [List.getElem?_append_left (by rw [ints_length, hl]; exact hj)] at hv
      rw [show o + (j + 2) = o + 2 + j by omega]
      exact h2 j v hv
    · rw [List.getElem?_append_right (by rw [ints_length, hl]; omega), ints_length, hl] at hv
      have hj2 : j = 64 := by
        have := (List.getElem?_eq_some_iff.1 hv).1
        simp at this
        omega
      subst hj2
      rw [show o + (64 + 2) = o + 66 by omega, h3]
      simpa using hv
section
variable {w : World} {q : Nat} {t : TypeId} {c : Cl} {pv : Value}
theorem ccl_what (h : Blk w q t (ccl c pv)) : w.cell? ⟨q, 0, none⟩ = some (.int .i64 c.what) := h.cell rfl
theorem ccl_n (h : Blk w q t (ccl c pv)) : w.cell? ⟨q, 1, none⟩ = some (.int .i64 c.n) := h.cell rfl
theorem ccl_block (h : Blk w q t (ccl c pv)) : w.rangeAt q 2 (ints .u8 c.block) := fun j v hv => by
  refine h.cell ?_
  rw [ccl, Nat.add_comm, List.getElem?_cons_succ, List.getElem?_cons_succ, List.getElem?_append_left (List.getElem?_eq_some_iff.1 hv).1]
  exact hv
theorem ccl_picks (h : Blk w q t (ccl c pv)) (hl : c.block.length = 64) : w.cell? ⟨q, 66, none⟩ = some pv := by
  refine h.cell ?_
  rw [ccl, List.getElem?_cons_succ, List.getElem?_cons_succ, List.getElem?_append_right (by rw [ints_length, hl]; omega), ints_length, hl]
  rfl
end
end Go.Proofs.Ytpbilngjjlabiaa
