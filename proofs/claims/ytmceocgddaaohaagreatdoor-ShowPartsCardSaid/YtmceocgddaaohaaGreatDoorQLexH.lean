import Derived.Lib.Bytealg
import Derived.Lib.Strings
import Derived.Test.YtmceocgddaaohaaGreatDoorQGenT
import Derived.Lib.Hide
import Derived.Test.YtmceocgddaaohaaGreatDoorLexSh
import Derived.Deep.AppendLies
import Derived.OwnWalk
import Derived.WalkMore
import Derived.Deep.LoopGhost
import Derived.Shelf.Strings.BuilderK
namespace Go.Proofs.YtmceocgddaaohaaGreatDoor
open Go
set_option maxRecDepth 100000
def isLet (c : UInt8) : Bool := decide ((97 ≤ c.toNat ∧ c.toNat ≤ 122) ∨ (65 ≤ c.toNat ∧ c.toNat ≤ 90))
def isDig (c : UInt8) : Bool := decide (48 ≤ c.toNat ∧ c.toNat ≤ 57)
def inW (c : UInt8) : Bool := isLet c || isDig c || decide (c.toNat = 95) || decide (c.toNat = 46)
def badNum (l : List UInt8) : Prop := l = [] ∨ 6 < l.length ∨ (1 < l.length ∧ l.head? = some 48) ∨ l.all isDig = false
instance (l : List UInt8) : Decidable (badNum l) := by unfold badNum; infer_instance
def Stop (r : List UInt8) : Prop := ∀ z r', r = z :: r' → inW z = false ∧ z ≠ 61
end Go.Proofs.YtmceocgddaaohaaGreatDoor
namespace Go.Proofs.YtmceocgddaaohaaGreatDoor
open Go Go.RowKit
set_option maxRecDepth 100000
def sT (l : List UInt8) : Value := .string ⟨l.toArray⟩
theorem beq_sT (xs ys : List UInt8) : ((⟨xs.toArray⟩ : ByteArray).toList == (⟨ys.toArray⟩ : ByteArray).toList) = decide (xs = ys) := by
 rw [ByteArray.toList_eq, ByteArray.toList_eq]
 by_cases h : xs = ys
 ·subst h; simp
 ·rw [decide_eq_false h]
  simpa using h
theorem exec_sEq {P : Program} {a : Act} {w : World} {op : Oper} (t t2 : TypeId) (x y : Operand) (ho : op.op = .binOp .eql t x y t2) (xs ys : List UInt8) (ex : a.eval x = sT xs) (ey : a.eval y = sT ys) (hg : ∀ w, (eqGuard .eql t x y (sT xs) (sT ys)).run P w = .ok () w) : (execOp a.eval op).run P w = .ok (.value (.bool (decide (xs = ys)))) w := by
 have h : (binOp .eql t (sT xs) (sT ys)).run P w = .ok (.bool (decide (xs = ys))) w := by
  unfold sT
  rw [binOp_string_eql, beq_sT]
  rfl
 unfold execOp
 simp only [ho, ex, ey, Sem.run_bind, hg, Result.andThen_ok, h]
 rfl
end Go.Proofs.YtmceocgddaaohaaGreatDoor
namespace Go.Proofs.YtmceocgddaaohaaGreatDoor
open Go Go.RowKit
set_option maxRecDepth 100000
theorem take_snoc {α : Type} {l : List α} {k : Nat} {c : α} (h : l[k]? = some c) : l.take (k + 1) = l.take k ++ [c] := by
 rw [List.take_add_one, h]; rfl
end Go.Proofs.YtmceocgddaaohaaGreatDoor
namespace Go.Proofs.YtmceocgddaaohaaGreatDoor
open Go Go.RowKit
set_option maxRecDepth 100000
section
variable {ops : Array Oper} {Q : Exit → Act → World → Prop} {a : Act} {w : World}
end
end Go.Proofs.YtmceocgddaaohaaGreatDoor
namespace Go.Proofs.YtmceocgddaaohaaGreatDoor
open Go Go.RowKit
set_option maxRecDepth 100000
theorem ownF_keep {base : Nat} {e : TypeId} {v : Value} {n : Nat} {xs : List Value} {w w' : World} (h : w.ownsRowF base e 1 v n xs) (hk : ∀ k, k < w.heap.size → w'.heap[k]? = w.heap[k]?) : w'.ownsRowF base e 1 v n xs := by
 refine ⟨h.1, ?_⟩
 rcases h.2 with h2 | ⟨g, cap, cur, fz, h1, h2, h3, h4⟩
 ·exact .inl h2
 ·exact .inr ⟨g, cap, cur, fz, h1, h2, by rw [hk g (Array.getElem?_eq_some_iff.1 h3).1]; exact h3, h4⟩
theorem sizeBd : (Tryz.prog.info? 67).map (·.size) = some 2 := by kernel_rfl
theorem sizePBd : (Tryz.prog.info? 64).map (·.size) = some 1 := by kernel_rfl
theorem sizeBys : (Tryz.prog.info? 65).map (·.size) = some 1 := by kernel_rfl
theorem infoByX : (Tryz.prog.info? 5).map (fun i => (i.zero, i.size, i.bytes)) = some (some (.int .u8 0), 1, 1) := by kernel_rfl
theorem exec_pNe {a : Act} {w : World} {op : Oper} (t2 : TypeId) (x y : Operand) (p : Addr) (ho : op.op = .binOp .neq 64 x y t2) (ex : a.eval x = .pointer (some p)) (ey : a.eval y = .pointer (some p)) (hg : ∀ w, (eqGuard .neq 64 x y (.pointer (some p)) (.pointer (some p))).run Tryz.prog w = .ok () w) : (execOp a.eval op).run Tryz.prog w = .ok (.value (.bool false)) w := by
 obtain ⟨j, hj, -⟩ := Option.map_eq_some_iff.1 sizeBd
 have h := Lib.run_neq_ptr_same (P := Tryz.prog) w p Tryz.underlying64 hj
 unfold execOp
 simp only [ho, ex, ey, Sem.run_bind, hg, Result.andThen_ok, h]
 rfl
theorem ownF_cells {base : Nat} {e : TypeId} {v : Value} {n : Nat} {xs : List Value} {w : World} (h : w.ownsRowF base e 1 v n xs) : v.cells = #[v] := by
 rcases h.2 with ⟨rfl, _⟩ | ⟨g, cap, cur, fz, rfl, _⟩ <;> rfl
theorem ownF_one {base : Nat} {e : TypeId} {v : Value} {n : Nat} {xs : List Value} {w : World} (h : w.ownsRowF base e 1 v n xs) : v.oneCell' = true := by
 rcases h.2 with ⟨rfl, _⟩ | ⟨g, cap, cur, fz, rfl, _⟩ <;> rfl
end Go.Proofs.YtmceocgddaaohaaGreatDoor
