/- Terms as plain trees: what layer 8's chapter says of them, and what its statements ask. -/
import Derived.Test.YteohjbggicchgaaKTrmG
namespace Go.Proofs.Yteohjbggicchgaa
open Go Go.RowKit
set_option maxRecDepth 100000
def letterB (c : UInt8) : Bool := (decide (97 ≤ c.toNat) && decide (c.toNat ≤ 122)) || (decide (65 ≤ c.toNat) && decide (c.toNat ≤ 90))
def digitB (c : UInt8) : Bool := decide (48 ≤ c.toNat) && decide (c.toNat ≤ 57)
/-- Are these bytes parts of a name, where the last one began (b: one begins now)? -/
def partsB : Bool → List UInt8 → Bool
 | b, [] => !b
 | true, c :: cs => letterB c && partsB false cs
 | false, c :: cs => if c = 46 then partsB true cs else (letterB c || digitB c || decide (c = 95)) && partsB false cs
/-- How many Args a kind has. -/
def argsOf (k : Int) : Nat := if k = 5 ∨ k = 6 ∨ k = 7 then 2 else if k = 8 then 3 else if k = 9 then 1 else 0
/-- One more in the part of place i of a binder. -/
def moreT (k : Int) (i : Nat) : Int := if ((k = 6 ∨ k = 7) ∧ i = 1) ∨ (k = 8 ∧ i = 2) then 1 else 0
theorem more_01 (k : Int) (i : Nat) : 0 ≤ moreT k i ∧ moreT k i ≤ 1 := by unfold moreT; split <;> omega
mutual
def nodesT : Tm → Nat
 | .mk _ _ _ l a => 1 + l.length + nodesTs a
def nodesTs : List Tm → Nat
 | [] => 0
 | t :: ts => nodesT t + nodesTs ts
end
/-- What is asked of a node but for its number and its parts: it hangs on neither the variables nor the parameters but by its levels' width. -/
def headT (wordOk : List UInt8 → Bool) (p deep k n : Int) (s : List UInt8) (l : List Lv) (a : Nat) : Bool :=
 decide (1 ≤ k) && decide (k ≤ 9) && decide (deep ≤ 200) && decide (a = argsOf k) && (if k = 3 then decide (l.length = 1) else if k = 4 then decide (l.length ≤ 4) else decide (l.length = 0)) &&
  l.all (fun x => rightL x && decide ((widthL x : Int) ≤ p)) && (if k = 4 ∨ k = 9 then wordOk s else decide (s = [])) && decide (0 ≤ n) && (if k = 9 then decide (n ≤ 31) else if k = 1 then true else decide (n = 0))
mutual
def rightT (wordOk : List UInt8 → Bool) (p v deep : Int) : Tm → Bool
 | .mk k n s l a => headT wordOk p deep k n s l a.length && (decide (k ≠ 1) || decide (n < v)) && rightTs wordOk p v deep k 0 a
def rightTs (wordOk : List UInt8 → Bool) (p v deep k : Int) (i : Nat) : List Tm → Bool
 | [] => true
 | t :: ts => rightT wordOk p (v + moreT k i) (deep + moreT k i) t && rightTs wordOk p v deep k (i + 1) ts
end
end Go.Proofs.Yteohjbggicchgaa
