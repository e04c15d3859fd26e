import Derived.Test.YtmceocgddaaohaaGreatDoorQLevC
import Derived.Lib.Join
import Derived.Lib.ItoaNum
import Derived.Lib.ItoaMem
namespace Go.Proofs.YtmceocgddaaohaaGreatDoor
open Go Go.RowKit
set_option maxRecDepth 100000
def undec (l:List UInt8):Nat:=l.foldl (fun n c=>n*10+(c.toNat-48)) 0
theorem dig_back:∀ k:Fin 10,(UInt8.ofNat (48+k.val)).toNat-48=k.val:=by decide
theorem dig_in:∀ k:Fin 10,48≤(UInt8.ofNat (48+k.val)).toNat∧(UInt8.ofNat (48+k.val)).toNat≤57:=by decide
theorem undec_dec (u:Nat):undec (Lib.decDigits u)=u:=by
 induction u using Nat.strongRecOn with
 |ind u ih=>
  rw [Lib.decDigits]
  split
  ·next h=>
   have:=dig_back ⟨u,h⟩
   simpa [undec] using this
  ·next h=>
   have h1:=ih (u / 10) (by omega);have h2:=dig_back ⟨u % 10,by omega⟩;unfold undec at h1 ⊢;rw [List.foldl_append,h1];simp only [List.foldl_cons,List.foldl_nil];simp only at h2;rw [h2];omega
theorem dec_digits (u:Nat):∀ c∈Lib.decDigits u,48≤c.toNat∧c.toNat≤57:=by
 induction u using Nat.strongRecOn with
 |ind u ih=>
  intro c hc;rw [Lib.decDigits] at hc
  split at hc
  ·next h=>
   obtain rfl:c=UInt8.ofNat (48+u):=(by simpa using hc);exact dig_in ⟨u,h⟩
  ·next h=>
   rcases List.mem_append.1 hc with h1|h1
   ·exact ih (u / 10) (by omega) c h1
   ·obtain rfl:c=UInt8.ofNat (48+u % 10):=by simpa using h1
    exact dig_in ⟨u % 10,by omega⟩
theorem dec_ne (u:Nat):Lib.decDigits u≠[]:=by
 intro h;have:=Lib.decDigits_length u;rw [h] at this;have h2:0<Lib.nDigits u:=by
  rw [Lib.nDigits]
  split<;>omega
 simp at this
 omega
theorem itoa_dec {n:Int} (h:0≤n):Lib.itoa n=Lib.decDigits n.toNat:=by
 unfold Lib.itoa;rw [if_neg (by omega)]
theorem itoa_inj {m n:Int} (hm:0≤m) (hn:0≤n) (h:Lib.itoa m=Lib.itoa n):m=n:=by
 rw [itoa_dec hm,itoa_dec hn] at h;have:=congrArg undec h;rw [undec_dec,undec_dec] at this;omega
theorem itoa_digits {n:Int} (h:0≤n):∀ c∈Lib.itoa n,48≤c.toNat∧c.toNat≤57:=by
 rw [itoa_dec h];exact dec_digits _
theorem itoa_ne {n:Int} (h:0≤n):Lib.itoa n≠[]:=by
 rw [itoa_dec h];exact dec_ne _
def partT (i:Nat) (p:Int):List UInt8:=if p=0 then 117::Lib.itoa i else (117::Lib.itoa i)++(43::Lib.itoa p)
def topL (l:Lv):Int:=l.p.foldl max (l.p.getD 0 0)
def partsUp (l:Lv) (top:Int):Nat→List (List UInt8)
 |0=>if top<l.b then [Lib.itoa l.b] else []
 |k+1=>if l.p.getD k 0=-1 then partsUp l top k else partsUp l top k++[partT k (l.p.getD k 0)]
def partsL (l:Lv):List (List UInt8):=partsUp l (topL l) 4
def textL (l:Lv):List UInt8:=if rightL l then Lib.join (partsL l) [32,124,32] else []
theorem fold_ge:∀ (xs:List Int) (m:Int),m≤xs.foldl max m
 |[],_=>Int.le_refl _
 |x::xs,m=>by
  have:=fold_ge xs (max m x);rw [List.foldl_cons];omega
theorem fold_is:∀ (xs:List Int) (m:Int),xs.foldl max m=m∨xs.foldl max m∈xs
 |[],_=>.inl rfl
 |y::xs,m=>by
  rw [List.foldl_cons];rcases fold_is xs (max m y) with h|h
  ·by_cases e:m≤y
   ·right
    rw [h,Int.max_eq_right e]
    simp
   ·left
    rw [h];omega
  ·exact .inr (List.mem_cons_of_mem _ h)
theorem top_mem {l:Lv} (hl:l.p.length=4):∃ i,i<4∧l.p.getD i 0=topL l:=by
 rcases fold_is l.p (l.p.getD 0 0) with h|h
 ·exact ⟨0,by omega,h.symm⟩
 ·obtain ⟨i,hi,e⟩:=mem_at h
  exact ⟨i,by omega,e⟩
theorem part_mem (l:Lv) (top:Int) (hr:∀ i,i<4→-1≤l.p.getD i 0) (hb:0≤l.b):∀ k,k≤4→∀ x,x∈partsUp l top k↔(top<l.b∧x=Lib.itoa l.b)∨∃ i,i<k∧l.p.getD i 0≠-1∧x=partT i (l.p.getD i 0)
 |0,_,x=>by
  rw [partsUp]
  constructor
  ·intro h
   split at h
   ·exact .inl ⟨by assumption,by simpa using h⟩
   ·simp at h
  ·rintro (⟨h1,rfl⟩|⟨i,hi,_⟩)
   ·rw [if_pos h1];simp
   ·omega
 |k+1,h4,x=>by
  have ih:=part_mem l top hr hb k (by omega) x;rw [partsUp]
  split
  ·next hp=>
   rw [ih]
   constructor
   ·rintro (h|⟨i,hi,h⟩)
    ·exact .inl h
    ·exact .inr ⟨i,by omega,h⟩
   ·rintro (h|⟨i,hi,h1,h2⟩)
    ·exact .inl h
    ·exact .inr ⟨i,Nat.lt_of_le_of_ne (by omega) (fun e=>h1 (by rw [e];exact hp)),h1,h2⟩
  ·next hp=>
   rw [List.mem_append,ih]
   constructor
   ·rintro ((h|⟨i,hi,h⟩)|h)
    ·exact .inl h
    ·exact .inr ⟨i,by omega,h⟩
    ·exact .inr ⟨k,by omega,hp,by simpa using h⟩
   ·rintro (h|⟨i,hi,h1,h2⟩)
    ·exact .inl (.inl h)
    ·by_cases e:i=k
     ·subst e
      exact .inr (by simp [h2])
     ·exact .inl (.inr ⟨i,by omega,h1,h2⟩)
theorem parts_some {l:Lv} (hl:l.p.length=4) (h:rightL l=true):partsL l≠[]:=by
 have hb:=right_b h;have hm:=part_mem l (topL l) (fun i hi=>(right_at h (by omega)).1) hb.1 4 (Nat.le_refl _)
 intro hc;by_cases ht:topL l<l.b
 ·have:=(hm (Lib.itoa l.b)).2 (.inl ⟨ht,rfl⟩)
  rw [show partsUp l (topL l) 4=[] from hc] at this
  simp at this
 ·obtain ⟨i,hi,e⟩:=top_mem hl
  have:=(hm (partT i (l.p.getD i 0))).2 (.inr ⟨i,hi,by omega,rfl⟩);rw [show partsUp l (topL l) 4=[] from hc] at this
  simp at this
end Go.Proofs.YtmceocgddaaohaaGreatDoor
