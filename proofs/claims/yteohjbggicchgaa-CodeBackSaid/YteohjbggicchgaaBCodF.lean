/- The document's numbers and texts as bytes. -/
import Derived.Test.YteohjbggicchgaaBCodE
import Derived.Laws.IdiomStrings
import Derived.Deep.CutRange
namespace Go.Proofs.Yteohjbggicchgaa
open Go Go.RowKit
set_option maxRecDepth 100000
theorem row_new {w : World} {xs : List Int} {n : Nat} (hn : xs.length = n) (hm : n ≤ 1000000) : RowB w.heap.size (w.alloc (.cells (ints .u8 xs).toArray 5)) (.slice (some ⟨w.heap.size, 0, none⟩) n n) xs := by
 subst hn
 exact ⟨by rw [ints_length, Nat.mul_one], .inr ⟨w.heap.size, xs.length, (ints .u8 xs).toArray, rfl, Nat.le_refl _, Blk.new w 5 (ints .u8 xs), Nat.le_refl _, by unfold maxLen; omega, by rw [List.size_toArray, ints_length, Nat.mul_one], by rw [Nat.mul_one]; exact List.take_of_length_le (by rw [ints_length]; exact Nat.le_refl _)⟩⟩
section
variable {ops : Array Oper} {Q : Exit → Act → World → Prop} {a : Act} {w : World}
/-- A row of bytes is made. -/
theorem lin_new (i : Nat) (d : Option Tmp) (xs : List Int) (n : Nat) (hn : xs.length = n) (hm : n ≤ 1000000) (hi : (ops[i]?.isSome && Region.wanted (opAt ops i) (yielded ops a.tmps)) = true) (hd : (opAt ops i).dst = d)
    (hrun : (execOp a.eval (opAt ops i)).run Try.prog w = .ok (.value (.slice (some ⟨w.heap.size, 0, none⟩) n n)) (w.alloc (.cells (ints .u8 xs).toArray 5)))
    (h : ∀ (v : Value) w', RowB w.heap.size w' v xs → Below w.heap.size w w' → v ≠ .slice none 0 0 → (∃ q, v = .slice (some ⟨q, 0, none⟩) n n) → wpFrom Try.prog ops Q (i + 1) (a.put d v) w') : wpFrom Try.prog ops Q i a w :=
  lin_value i _ d _ hi hd hrun (h _ _ (row_new hn hm) ((Below.refl _ _).alloc (Nat.le_refl _) _) (fun e => by cases e) ⟨_, rfl⟩)
end
end Go.Proofs.Yteohjbggicchgaa
