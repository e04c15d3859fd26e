/- Package parse as plain functions over the tokens' texts; a place is how many tokens are left there. -/
import Derived.Test.YtdacmogedchnaaaQTrmW
import Derived.Test.YtdacmogedchnaaaQLexA
namespace Go.Proofs.Ytdacmogedchnaaa
open Go Go.RowKit
set_option maxRecDepth 100000
inductive PR (β : Type) where
 | ok (x : β) (l : List (List UInt8))
 | err (p c : Nat)
def PR.bind {α β : Type} : PR α → (α → List (List UInt8) → PR β) → PR β
 | .ok x l, k => k x l
 | .err p c, _ => .err p c
theorem PR.bind_ok {α β : Type} (x : α) (l : List (List UInt8)) (k : α → List (List UInt8) → PR β) : PR.bind (.ok x l) k = k x l := rfl
theorem PR.bind_get {α β : Type} {o : PR α} {k : α → List (List UInt8) → PR β} {y : β} {r : List (List UInt8)} (h : PR.bind o k = .ok y r) : ∃ x l, o = .ok x l ∧ k x l = .ok y r := by
 cases o with
 | ok x l => exact ⟨x, l, rfl, h⟩
 | err p c => cases h
/-- The next token's text. -/
def nx (l : List (List UInt8)) : List UInt8 := l.headD []
theorem nx_cons (s : List UInt8) (l : List (List UInt8)) : nx (s :: l) = s := rfl
def FU : Nat := 140000
def exP (s : List UInt8) (l : List (List UInt8)) : PR Unit := if nx l = s then .ok () l.tail else .err l.length 10
def namP (l : List (List UInt8)) : PR (List UInt8) := if wordB (nx l) = true then .ok (nx l) l.tail else .err l.length 10
def numQ (l : List (List UInt8)) : PR Nat := match numO (nx l) with
 | some n => .ok n l.tail
 | none => .err l.length 10
def numTo (m : Nat) (l : List (List UInt8)) : PR Nat := match numO (nx l) with
 | some n => if n ≤ m then .ok n l.tail else .err l.length 10
 | none => .err l.length 10
inductive Rw where
 | mk (kind n : Nat) (at' : Option Nat) (name : List UInt8) (levels : Nat) (args : List Rw)
def Rw.kind : Rw → Nat | .mk k _ _ _ _ _ => k
def Rw.n : Rw → Nat | .mk _ n _ _ _ _ => n
def Rw.at' : Rw → Option Nat | .mk _ _ p _ _ _ => p
def Rw.name : Rw → List UInt8 | .mk _ _ _ s _ _ => s
def Rw.levels : Rw → Nat | .mk _ _ _ _ l _ => l
def Rw.args : Rw → List Rw | .mk _ _ _ _ _ a => a
theorem Rw.byParts {C : Rw → Prop} (h : ∀ k n p s l a, (∀ x ∈ a, C x) → C (.mk k n p s l a)) : ∀ t, C t
 | .mk k n p s l a => h k n p s l a fun x _ => Rw.byParts h x
termination_by t => SizeOf.sizeOf t
decreasing_by
 have := List.sizeOf_lt_of_mem ‹x ∈ a›
 simp
 omega
mutual
def nodesR : Rw → Nat
 | .mk _ _ _ _ l a => 1 + l + nodesRs a
def nodesRs : List Rw → Nat
 | [] => 0
 | t :: ts => nodesR t + nodesRs ts
end
mutual
/-- All places are so many tokens more. -/
def shR (k : Nat) : Rw → Rw
 | .mk d n p s l a => .mk d n (p.map (· + k)) s l (shRs k a)
def shRs (k : Nat) : List Rw → List Rw
 | [] => []
 | t :: ts => shR k t :: shRs k ts
end
mutual
theorem nodes_sh (k : Nat) : ∀ t, nodesR (shR k t) = nodesR t
 | .mk d n p s l a => by rw [shR, nodesR, nodesR, nodes_shs k a]
theorem nodes_shs (k : Nat) : ∀ a, nodesRs (shRs k a) = nodesRs a
 | [] => by rw [shRs]
 | t :: ts => by rw [shRs, nodesRs, nodesRs, nodes_sh k t, nodes_shs k ts]
end
def zRw : Rw := .mk 0 0 none [] 0 []
def us4 : List (List UInt8) := [[117, 48], [117, 49], [117, 50], [117, 51]]
def begs : List (List UInt8) := [[80, 114, 111, 112], [84, 121, 112, 101], [40], [91]]
def rightP1 (n : Nat) (p : Nat) (r : List (List UInt8)) : PR Unit := if n ≤ 100 then .ok () r else .err p 21
def partP (sums : Bool) (l : List (List UInt8)) : PR Unit :=
 if nx l ∈ us4 then
  (if sums = true ∧ nx l.tail = [43] then numQ l.tail.tail else .ok 0 l.tail).bind fun n r => rightP1 n l.length r
 else (numQ l).bind fun n r => rightP1 n l.length r
def lvLoop : Nat → List (List UInt8) → PR Unit
 | 0, _ => .err 0 0
 | f + 1, l => if nx l = [124] then (partP true l.tail).bind fun _ r => lvLoop f r else .ok () l
def levelQ (l : List (List UInt8)) : PR Unit := (partP true l).bind fun _ r => lvLoop FU r
def lvsLoop : Nat → Nat → List (List UInt8) → PR Nat
 | 0, c, l => .ok c l
 | k + 1, c, l => if nx l = [44] then (levelQ l.tail).bind fun _ r => lvsLoop k (c + 1) r else .ok c l
def levelsQ (l : List (List UInt8)) : PR Nat := (levelQ l).bind fun _ r => (lvsLoop 3 1 r).bind fun c r => (exP [125] r).bind fun _ r => .ok c r
def tlevelP (l : List (List UInt8)) : PR Unit := if nx l = [40] then (levelQ l.tail).bind fun _ r => (exP [41] r).bind fun _ r => .ok () r else partP false l
def atomG (T A : List (List UInt8) → PR Rw) (l : List (List UInt8)) : PR Rw :=
 if nx l = [80, 114, 111, 112] then .ok (.mk 2 0 (some l.length) [] 0 []) l.tail
 else if nx l = [84, 121, 112, 101] then (tlevelP l.tail).bind fun _ r => .ok (.mk 3 0 (some l.length) [] 1 []) r
 else if nx l = [91] then (numTo 31 l.tail).bind fun n r => (exP [111, 102] r).bind fun _ r => (namP r).bind fun s r => (A r).bind fun a r => (exP [93] r).bind fun _ r => .ok (.mk 9 n (some l.length) s 0 [a]) r
 else if nx l = [40] then (T l.tail).bind fun t r => (exP [41] r).bind fun _ r => .ok t r
 else (namP l).bind fun s r => if nx r = [123] then (levelsQ r.tail).bind fun c r => .ok (.mk 4 0 (some l.length) s c []) r else .ok (.mk 4 0 (some l.length) s 0 []) r
def begA (s : List UInt8) : Bool := decide (s ∈ begs) || wordB s
def appLoop (A : List (List UInt8) → PR Rw) (p : Nat) : Nat → Rw → List (List UInt8) → PR Rw
 | 0, _, _ => .err 0 0
 | f + 1, t, l => if begA (nx l) = true then (A l).bind fun a r => appLoop A p f (.mk 5 0 (some p) [] 0 [t, a]) r else .ok t l
def appG (A : List (List UInt8) → PR Rw) (l : List (List UInt8)) : PR Rw := (A l).bind fun a r => appLoop A l.length FU a r
def bindG (T : List (List UInt8) → PR Rw) (k p : Nat) (l : List (List UInt8)) : PR Rw :=
 (exP [40] l).bind fun _ r => (namP r).bind fun s r => (exP [58] r).bind fun _ r => (T r).bind fun a r => (exP [41] r).bind fun _ r => (exP [44] r).bind fun _ r => (T r).bind fun b r => .ok (.mk k 0 (some p) s 0 [a, b]) r
def letG (T : List (List UInt8) → PR Rw) (p : Nat) (l : List (List UInt8)) : PR Rw :=
 (namP l).bind fun s r => (exP [58] r).bind fun _ r => (T r).bind fun a r => (exP [58, 61] r).bind fun _ r => (T r).bind fun b r => (exP [105, 110] r).bind fun _ r => (T r).bind fun c r => .ok (.mk 8 0 (some p) s 0 [a, b, c]) r
def termG (T A : List (List UInt8) → PR Rw) (l : List (List UInt8)) : PR Rw :=
 if nx l = [102, 117, 110] then bindG T 6 l.length l.tail
 else if nx l = [97, 108, 108] then bindG T 7 l.length l.tail
 else if nx l = [108, 101, 116] then letG T l.length l.tail
 else appG A l
def tf : Nat → Bool → List (List UInt8) → PR Rw
 | 0, _, _ => .err 0 0
 | n + 1, true, l => termG (tf n true) (tf n false) l
 | n + 1, false, l => atomG (tf n true) (tf n false) l
def wholeP (l : List (List UInt8)) : PR Rw := (tf FU true l).bind fun t r => if nodesR t ≤ 3000 then .ok t r else .err l.length 14
def topP (l : List (List UInt8)) : PR Rw := (wholeP l).bind fun t r => if r = [] then .ok t r else .err r.length 10
structure Ct where
 name : List UInt8
 at' : Nat
 ty : Rw
structure Dl where
 kind : Nat
 params : Nat
 fixed : Nat
 at' : Nat
 name : List UInt8
 ty : Rw
 val : Rw
 ctors : List Ct
def kindOf (s : List UInt8) : Nat :=
 if s = [97, 120, 105, 111, 109] then 1 else if s = [100, 101, 102] then 2 else if s = [116, 104, 101, 111, 114, 101, 109] then 3 else if s = [102, 97, 109, 105, 108, 121] then 4 else 0
def ctorP (l : List (List UInt8)) : PR Ct := (namP l).bind fun s r => (exP [58] r).bind fun _ r => (wholeP r).bind fun t r => .ok ⟨s, l.length, t⟩ r
def ctLoop : Nat → List Ct → List (List UInt8) → PR (List Ct)
 | 0, _, _ => .err 0 0
 | f + 1, cs, l => if nx l = [124] then (if cs.length < 8 then (ctorP l.tail).bind fun c r => ctLoop f (cs ++ [c]) r else .err l.tail.length 10) else .ok cs l
def ctorsP (l : List (List UInt8)) : PR (List Ct) := (ctorP l).bind fun c r => ctLoop FU [c] r
def parsP (l : List (List UInt8)) : PR Nat := if nx l = [64] then numTo 4 l.tail else .ok 0 l
def fixP (k : Nat) (l : List (List UInt8)) : PR Nat := if k = 4 then (exP [111, 102] l).bind fun _ r => numTo 16 r else .ok 0 l
def valP (k : Nat) (l : List (List UInt8)) : PR (Rw × List Ct) :=
 if k = 2 ∨ k = 3 then (exP [58, 61] l).bind fun _ r => (wholeP r).bind fun v r => .ok (v, []) r
 else if k = 4 then (if nx l = [119, 105, 116, 104] then (ctorsP l.tail).bind fun cs r => .ok (zRw, cs) r else .ok (zRw, []) l)
 else .ok (zRw, []) l
def declQ (l : List (List UInt8)) : PR Dl :=
 if kindOf (nx l) = 0 then .err l.length 10
 else (namP l.tail).bind fun s r => (parsP r).bind fun ps r => (fixP (kindOf (nx l)) r).bind fun fx r => (exP [58] r).bind fun _ r => (wholeP r).bind fun ty r =>
  (valP (kindOf (nx l)) r).bind fun vc r => (exP [59] r).bind fun _ r => .ok ⟨kindOf (nx l), ps, fx, l.length, s, ty, vc.1, vc.2⟩ r
def srcLoop : Nat → List Dl → List (List UInt8) → PR (List Dl)
 | 0, _, _ => .err 0 0
 | f + 1, ds, l => if l = [] then .ok ds l else if ds.length = 64 then .err l.length 14 else (declQ l).bind fun d r => srcLoop f (ds ++ [d]) r
def sourceP (l : List (List UInt8)) : PR (List Dl) := srcLoop FU [] l
end Go.Proofs.Ytdacmogedchnaaa
