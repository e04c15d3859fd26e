import Derived.Test.YtmceocgddaaohaaGreatDoorQTrmW
import Derived.Test.YtmceocgddaaohaaGreatDoorQLexH
namespace Go.Proofs.YtmceocgddaaohaaGreatDoor
open Go Go.RowKit
set_option maxRecDepth 100000
inductive PR (β:Type) where
 |ok (x:β) (l:List (List UInt8))
 |err (p c:Nat)
def PR.bind {α β:Type}:PR α→(α→List (List UInt8)→PR β)→PR β
 |.ok x l,k=>k x l
 |.err p c,_=>.err p c
theorem PR.bind_ok {α β:Type} (x:α) (l:List (List UInt8)) (k:α→List (List UInt8)→PR β):PR.bind (.ok x l) k=k x l:=rfl
theorem PR.bind_get {α β:Type} {o:PR α} {k:α→List (List UInt8)→PR β} {y:β} {r:List (List UInt8)} (h:PR.bind o k=.ok y r):∃ x l,o=.ok x l∧k x l=.ok y r:=by
 cases o with
 |ok x l=>exact ⟨x,l,rfl,h⟩
 |err p c=>cases h
def nx (l:List (List UInt8)):List UInt8:=l.headD []
theorem nx_nil:nx []=[]:=rfl
theorem nx_cons (s:List UInt8) (l:List (List UInt8)):nx (s::l)=s:=rfl
def FU:Nat:=140000
def exP (s:List UInt8) (l:List (List UInt8)):PR Unit:=if nx l=s then .ok () l.tail else .err l.length 10
def namP (l:List (List UInt8)):PR (List UInt8):=if wordB (nx l)=true then .ok (nx l) l.tail else .err l.length 10
def numQ (l:List (List UInt8)):PR Nat:=match numO (nx l) with
 |some n=>.ok n l.tail
 |none=>.err l.length 10
def numTo (m:Nat) (l:List (List UInt8)):PR Nat:=match numO (nx l) with
 |some n=>if n≤m then .ok n l.tail else .err l.length 10
 |none=>.err l.length 10
inductive Rw where
 |mk (kind n:Nat) (at':Option Nat) (name:List UInt8) (levels:List Lv) (args:List Rw)
def Rw.kind:Rw→Nat|.mk k _ _ _ _ _=>k
def Rw.n:Rw→Nat|.mk _ n _ _ _ _=>n
def Rw.at':Rw→Option Nat|.mk _ _ p _ _ _=>p
def Rw.name:Rw→List UInt8|.mk _ _ _ s _ _=>s
def Rw.levels:Rw→List Lv|.mk _ _ _ _ l _=>l
def Rw.args:Rw→List Rw|.mk _ _ _ _ _ a=>a
theorem Rw.byParts {C:Rw→Prop} (h:∀ k n p s l a,(∀ x∈a,C x)→C (.mk k n p s l a)):∀ t,C t
 |.mk k n p s l a=>h k n p s l a fun x _=>Rw.byParts h x
termination_by t=>SizeOf.sizeOf t
decreasing_by
 have:=List.sizeOf_lt_of_mem ‹x∈a›
 simp
 omega
mutual
def nodesR:Rw→Nat
 |.mk _ _ _ _ l a=>1+l.length+nodesRs a
def nodesRs:List Rw→Nat
 |[]=>0
 |t::ts=>nodesR t+nodesRs ts
end
def zRw:Rw:=.mk 0 0 none [] [] []
def us4:List (List UInt8):=[[117,48],[117,49],[117,50],[117,51]]
def begs:List (List UInt8):=[[80,114,111,112],[84,121,112,101],[40],[91]]
def uidx (s:List UInt8):Nat:=if s=[117,48] then 0 else if s=[117,49] then 1 else if s=[117,50] then 2 else 3
def parL (k:Nat) (n:Int):Lv:=if 0≤n∧n≤100 then ⟨n,[-1,-1,-1,-1].set k n⟩ else numL (-1)
def rightP1 (lv:Lv) (n:Nat) (p:Nat) (r:List (List UInt8)):PR Lv:=if n≤100 then .ok lv r else .err p 21
def partP (sums:Bool) (l:List (List UInt8)):PR Lv:=
 if nx l∈us4 then
  (if sums=true∧nx l.tail=[43] then numQ l.tail.tail else .ok 0 l.tail).bind fun n r=>rightP1 (parL (uidx (nx l)) (n:Int)) n l.length r
 else (numQ l).bind fun n r=>rightP1 (numL (n:Int)) n l.length r
def lvLoop:Nat→List Lv→List (List UInt8)→PR Lv
 |0,_,_=>.err 0 0
 |f+1,c,l=>if nx l=[124] then (partP true l.tail).bind fun a r=>lvLoop f (c++[a]) r else .ok (maxL c) l
def levelQ (l:List (List UInt8)):PR Lv:=(partP true l).bind fun a r=>lvLoop FU [a] r
def lvsLoop:Nat→List Lv→List (List UInt8)→PR (List Lv)
 |0,c,l=>.ok c l
 |k+1,c,l=>if nx l=[44] then (levelQ l.tail).bind fun a r=>lvsLoop k (c++[a]) r else .ok c l
def levelsQ (l:List (List UInt8)):PR (List Lv):=(levelQ l).bind fun a r=>(lvsLoop 3 [a] r).bind fun c r=>(exP [125] r).bind fun _ r=>.ok c r
def tlevelP (l:List (List UInt8)):PR Lv:=if nx l=[40] then (levelQ l.tail).bind fun a r=>(exP [41] r).bind fun _ r=>.ok a r else partP false l
def atomG (T A:List (List UInt8)→PR Rw) (l:List (List UInt8)):PR Rw:=
 if nx l=[80,114,111,112] then .ok (.mk 2 0 (some l.length) [] [] []) l.tail
 else if nx l=[84,121,112,101] then (tlevelP l.tail).bind fun c r=>.ok (.mk 3 0 (some l.length) [] [c] []) r
 else if nx l=[91] then (numTo 31 l.tail).bind fun n r=>(exP [111,102] r).bind fun _ r=>(namP r).bind fun s r=>(A r).bind fun a r=>(exP [93] r).bind fun _ r=>.ok (.mk 9 n (some l.length) s [] [a]) r
 else if nx l=[40] then (T l.tail).bind fun t r=>(exP [41] r).bind fun _ r=>.ok t r
 else (namP l).bind fun s r=>if nx r=[123] then (levelsQ r.tail).bind fun c r=>.ok (.mk 4 0 (some l.length) s c []) r else .ok (.mk 4 0 (some l.length) s [] []) r
def begA (s:List UInt8):Bool:=decide (s∈begs)||wordB s
def appLoop (A:List (List UInt8)→PR Rw) (p:Nat):Nat→Rw→List (List UInt8)→PR Rw
 |0,_,_=>.err 0 0
 |f+1,t,l=>if begA (nx l)=true then (A l).bind fun a r=>appLoop A p f (.mk 5 0 (some p) [] [] [t,a]) r else .ok t l
def appG (A:List (List UInt8)→PR Rw) (l:List (List UInt8)):PR Rw:=(A l).bind fun a r=>appLoop A l.length FU a r
def bindG (T:List (List UInt8)→PR Rw) (k p:Nat) (l:List (List UInt8)):PR Rw:=
 (exP [40] l).bind fun _ r=>(namP r).bind fun s r=>(exP [58] r).bind fun _ r=>(T r).bind fun a r=>(exP [41] r).bind fun _ r=>(exP [44] r).bind fun _ r=>(T r).bind fun b r=>.ok (.mk k 0 (some p) s [] [a,b]) r
def letG (T:List (List UInt8)→PR Rw) (p:Nat) (l:List (List UInt8)):PR Rw:=
 (namP l).bind fun s r=>(exP [58] r).bind fun _ r=>(T r).bind fun a r=>(exP [58,61] r).bind fun _ r=>(T r).bind fun b r=>(exP [105,110] r).bind fun _ r=>(T r).bind fun c r=>.ok (.mk 8 0 (some p) s [] [a,b,c]) r
def termG (T A:List (List UInt8)→PR Rw) (l:List (List UInt8)):PR Rw:=
 if nx l=[102,117,110] then bindG T 6 l.length l.tail
 else if nx l=[97,108,108] then bindG T 7 l.length l.tail
 else if nx l=[108,101,116] then letG T l.length l.tail
 else appG A l
def tf:Nat→Bool→List (List UInt8)→PR Rw
 |0,_,_=>.err 0 0
 |n+1,true,l=>termG (tf n true) (tf n false) l
 |n+1,false,l=>atomG (tf n true) (tf n false) l
def wholeP (l:List (List UInt8)):PR Rw:=(tf FU true l).bind fun t r=>if nodesR t≤3000 then .ok t r else .err l.length 14
def topP (l:List (List UInt8)):PR Rw:=(wholeP l).bind fun t r=>if r=[] then .ok t r else .err r.length 10
structure Ct where
 name:List UInt8
 at':Nat
 ty:Rw
structure Dl where
 kind:Nat
 params:Nat
 fixed:Nat
 at':Nat
 name:List UInt8
 ty:Rw
 val:Rw
 ctors:List Ct
end Go.Proofs.YtmceocgddaaohaaGreatDoor
namespace Go.Proofs.YtmceocgddaaohaaGreatDoor
open Go Go.RowKit
set_option maxRecDepth 100000
def SlX (w:World) (v:Value) (ts:List Tk):Prop:=∃ a c,v=.slice a ts.length c∧ts.length≤c∧(0<ts.length→∃ g u,a=some ⟨g,u,none⟩∧g<w.heap.size∧w.rangeAt g u (tksC ts))
theorem OwnX.read {ty:TypeId} {q:Nat} {w:World} {v:Value} {ts:List Tk} (h:OwnX ty q w v ts):SlX w v ts:=by
 rcases h.2 with ⟨rfl,h2⟩|⟨g,cap,cur,rfl,h1,h2,h3,_⟩
 ·exact ⟨none,0,by rw [h2],by omega,fun hp=>by omega⟩
 ·refine ⟨_,_,rfl,h3,fun _=>⟨g,0,rfl,(Array.getElem?_eq_some_iff.1 h2).1,fun j u hu=>?_⟩⟩
  have:=World.ownsRow.cells (v:=.slice (some ⟨g,0,none⟩) ts.length cap) (g:=g) h rfl j u hu
  rwa [Addr.add_mid] at this
def textsOf (ts:List Tk):List (List UInt8):=ts.map (·.t)
theorem byteCells_app (a b:List UInt8):Lib.byteCells (a++b)=Lib.byteCells a++Lib.byteCells b:=by unfold Lib.byteCells;rw [List.map_append]
theorem elemToks:Tryz.prog.underlying 109=some (.slice (Tryz.prog.elem 109)):=by kernel_rfl
theorem run_at_tok (g u n c k:Nat) (hk:k<n) (w:World):(Instr.indexAt 109 (.slice (some ⟨g,u,none⟩) n c) (.int .i64 (k:Int))).run Tryz.prog w=.ok (.pointer (some ⟨g,u+k*3,none⟩)) w:=by
 rw [run_indexAt_slice w 109 _ _ _ _ _ elemToks];have hz:(sizeOf (Tryz.prog.elem 109)).run Tryz.prog w=.ok 3 w:=(by kernel_rfl);rw [if_pos (by omega),hz,Result.andThen_ok,Addr.add_mid,Int.toNat_natCast]
end Go.Proofs.YtmceocgddaaohaaGreatDoor
