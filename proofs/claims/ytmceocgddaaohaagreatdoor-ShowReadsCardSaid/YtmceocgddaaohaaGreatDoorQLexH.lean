import Derived.Lib.Bytealg
import Derived.Lib.Strings
import Derived.Test.YtmceocgddaaohaaGreatDoorQGenT
import Derived.Lib.Hide
import Derived.Test.YtmceocgddaaohaaGreatDoorLexSh
import Derived.Deep.AppendLies
import Derived.OwnWalk
import Derived.WalkMore
import Derived.Deep.LoopGhost
import Derived.Shelf.Strings.BuilderK
namespace Go.Proofs.YtmceocgddaaohaaGreatDoor
open Go
set_option maxRecDepth 100000
def isLet (c:UInt8):Bool:=decide ((97≤c.toNat∧c.toNat≤122)∨(65≤c.toNat∧c.toNat≤90))
def isDig (c:UInt8):Bool:=decide (48≤c.toNat∧c.toNat≤57)
def inW (c:UInt8):Bool:=isLet c||isDig c||decide (c.toNat=95)||decide (c.toNat=46)
def inC (c:UInt8):Bool:=decide (32≤c.toNat∧c.toNat≤126)
def runL (p:UInt8→Bool) (l:List UInt8):Nat:=(l.takeWhile p).length
theorem runL_cons (p:UInt8→Bool) (c:UInt8) (l:List UInt8):runL p (c::l)=if p c=true then runL p l+1 else 0:=by
 unfold runL;rw [List.takeWhile_cons]
 split<;>rfl
theorem runL_le (p:UInt8→Bool) (l:List UInt8):runL p l≤l.length:=by
 induction l with
 |nil=>exact Nat.le_refl _
 |cons c l ih=>
  rw [runL_cons,List.length_cons]
  split<;>omega
theorem runL_stop (p:UInt8→Bool) (r:List UInt8) (hr:∀ z r',r=z::r'→p z=false):∀ l:List UInt8,runL p (l++r)=runL p l
 |[]=>by
  cases r with
  |nil=>rfl
  |cons z r'=>rw [List.nil_append,runL_cons,if_neg (by rw [hr z r' rfl];simp)];rfl
 |c::l=>by
  rw [List.cons_append,runL_cons,runL_cons,runL_stop p r hr l]
theorem runL_take (p:UInt8→Bool):∀ l:List UInt8,runL p (l.take (runL p l))=runL p l
 |[]=>rfl
 |c::l=>by
  rw [runL_cons];by_cases h:p c=true
  ·rw [if_pos h,List.take_succ_cons,runL_cons,if_pos h,runL_take p l]
  ·rw [if_neg h];rfl
theorem runL_next (p:UInt8→Bool):∀ (l:List UInt8) (z:UInt8) (r:List UInt8),l.drop (runL p l)=z::r→p z=false
 |[],z,r,h=>by cases h
 |c::l,z,r,h=>by
  rw [runL_cons] at h;by_cases hc:p c=true
  ·rw [if_pos hc,List.drop_succ_cons] at h
   exact runL_next p l z r h
  ·rw [if_neg hc] at h
   obtain ⟨rfl,-⟩:=List.cons.inj h
   simpa using hc
theorem runL_eq_of_all (p:UInt8→Bool):∀ l:List UInt8,l.all p=true→runL p l=l.length
 |[],_=>rfl
 |c::l,h=>by
  rw [List.all_cons,Bool.and_eq_true] at h;rw [runL_cons,if_pos h.1,runL_eq_of_all p l h.2];rfl
def numV (l:List UInt8):Nat:=l.foldl (fun n c=>n*10+(c.toNat-48)) 0
def badNum (l:List UInt8):Prop:=l=[]∨6<l.length∨(1<l.length∧l.head?=some 48)∨l.all isDig=false
instance (l:List UInt8):Decidable (badNum l):=by unfold badNum;infer_instance
def numO (l:List UInt8):Option Nat:=if badNum l then none else some (numV l)
def signs12:List UInt8:=[40,41,91,93,123,125,44,59,124,43,64,58]
def wordL:List UInt8→Nat
 |[]=>0
 |c::l=>if isLet c=true then runL inW (c::l) else 0
def numLx (l:List UInt8):Nat:=if (numO (l.take (runL isDig l))).isSome=true then runL isDig l else 0
def signL:List UInt8→Nat
 |[]=>0
 |c::l=>if Lib.hasPrefix (c::l) [58,61]=true then 2 else if 0≤Lib.indexByte signs12 c then 1 else 0
def gapL:List UInt8→Nat
 |[]=>0
 |c::l=>if Lib.hasPrefix (c::l) [45,45]=true then runL inC (c::l) else if c=32∨c=10 then 1 else 0
def tokAt (l:List UInt8):Option (Nat × Nat):=
 if 0<wordL l then some (1,wordL l) else if 0<numLx l then some (2,numLx l) else if 0<signL l then some (3,signL l) else none
structure Tk where
 k:Nat
 t:List UInt8
 p:Nat
def consR (x:Tk):Except Nat (List Tk)→Except Nat (List Tk)
 |.ok ts=>.ok (x::ts)
 |.error e=>.error e
def preR (xs:List Tk):Except Nat (List Tk)→Except Nat (List Tk)
 |.ok ts=>.ok (xs++ts)
 |.error e=>.error e
def scanF:Nat→List UInt8→Nat→Except Nat (List Tk)
 |_,[],_=>.ok []
 |0,_::_,_=>.ok []
 |f+1,c::l,a=>match tokAt (c::l) with
  |some (k,n)=>consR ⟨k,(c::l).take n,a⟩ (scanF f ((c::l).drop n) (a+n))
  |none=>if gapL (c::l)=0 then .error a else scanF f ((c::l).drop (gapL (c::l))) (a+gapL (c::l))
def scanS (l:List UInt8) (a:Nat):Except Nat (List Tk):=scanF l.length l a
theorem pre2 (x y a:UInt8) (l:List UInt8):Lib.hasPrefix (a::l) [x,y]=(x==a&&(match l with|[]=>false|b::_=>y==b)):=by
 unfold Lib.hasPrefix;cases l with
 |nil=>simp [List.isPrefixOf]
 |cons b l=>simp [List.isPrefixOf]
theorem signL_le (l:List UInt8):signL l≤l.length:=by
 cases l with
 |nil=>exact Nat.le_refl _
 |cons c l=>
  rw [signL]
  split
  ·next h=>
   rw [pre2] at h;cases l with
   |nil=>simp at h
   |cons _ _=>simp
  ·split<;>simp
theorem wordL_le (l:List UInt8):wordL l≤l.length:=by
 cases l with
 |nil=>exact Nat.le_refl _
 |cons c l=>
  rw [wordL]
  split
  ·exact runL_le _ _
  ·exact Nat.zero_le _
theorem numLx_le (l:List UInt8):numLx l≤l.length:=by
 unfold numLx
 split
 ·exact runL_le _ _
 ·exact Nat.zero_le _
theorem gapL_le (l:List UInt8):gapL l≤l.length:=by
 cases l with
 |nil=>exact Nat.le_refl _
 |cons c l=>
  rw [gapL]
  split
  ·exact runL_le _ _
  ·split<;>simp
theorem tokAt_pos {l:List UInt8} {k n:Nat} (h:tokAt l=some (k,n)):0<n∧n≤l.length∧1≤k∧k≤3:=by
 unfold tokAt at h
 split at h
 ·next hp=>
  obtain ⟨rfl,rfl⟩:=Prod.mk.inj (Option.some.inj h);exact ⟨hp,wordL_le l,by omega,by omega⟩
 ·split at h
  ·next hp=>
   obtain ⟨rfl,rfl⟩:=Prod.mk.inj (Option.some.inj h);exact ⟨hp,numLx_le l,by omega,by omega⟩
  ·split at h
   ·next hp=>
    obtain ⟨rfl,rfl⟩:=Prod.mk.inj (Option.some.inj h);exact ⟨hp,signL_le l,by omega,by omega⟩
   ·cases h
theorem scanF_eq:∀ (f g:Nat) (l:List UInt8) (a:Nat),l.length≤f→l.length≤g→scanF f l a=scanF g l a
 |0,0,[],_,_,_=>rfl
 |0,_+1,[],_,_,_=>rfl
 |_+1,0,[],_,_,_=>rfl
 |_+1,_+1,[],_,_,_=>rfl
 |0,_,_::_,_,h,_=>by simp at h
 |_,0,_::_,_,_,h=>by simp at h
 |f+1,g+1,c::l,a,hf,hg=>by
  rw [List.length_cons] at hf hg;rw [scanF,scanF];cases ht:tokAt (c::l) with
  |some x=>
   obtain ⟨k,n⟩:=x;have hn:=tokAt_pos ht;dsimp only;rw [scanF_eq f g _ _ (by rw [List.length_drop,List.length_cons];omega) (by rw [List.length_drop,List.length_cons];omega)]
  |none=>
   dsimp only
   split
   ·rfl
   ·exact scanF_eq f g _ _ (by rw [List.length_drop,List.length_cons];omega) (by rw [List.length_drop,List.length_cons];omega)
theorem scanS_nil (a:Nat):scanS [] a=.ok []:=rfl
theorem scanS_tok {l:List UInt8} {k n:Nat} (h:tokAt l=some (k,n)) (a:Nat):scanS l a=consR ⟨k,l.take n,a⟩ (scanS (l.drop n) (a+n)):=by
 have hn:=tokAt_pos h;cases l with
 |nil=>simp at hn;omega
 |cons c l=>
  unfold scanS;rw [List.length_cons,scanF,h];dsimp only;rw [scanF_eq l.length ((c::l).drop n).length _ _ (by rw [List.length_drop,List.length_cons];omega) (Nat.le_refl _)]
theorem scanS_gap {l:List UInt8} (h:tokAt l=none) (hg:gapL l≠0) (a:Nat):scanS l a=scanS (l.drop (gapL l)) (a+gapL l):=by
 cases l with
 |nil=>exact absurd rfl hg
 |cons c l=>
  unfold scanS;rw [List.length_cons,scanF,h];dsimp only;rw [if_neg hg,scanF_eq l.length ((c::l).drop (gapL (c::l))).length _ _ (by rw [List.length_drop,List.length_cons];omega) (Nat.le_refl _)]
theorem scanS_bad {l:List UInt8} (h:tokAt l=none) (hg:gapL l=0) (hl:l≠[]) (a:Nat):scanS l a=.error a:=by
 cases l with
 |nil=>exact absurd rfl hl
 |cons c l=>
  unfold scanS;rw [List.length_cons,scanF,h];dsimp only;rw [if_pos hg]
theorem preR_nil (r:Except Nat (List Tk)):preR [] r=r:=by cases r<;>rfl
theorem preR_cons (x:Tk) (xs:List Tk) (r:Except Nat (List Tk)):preR xs (consR x r)=preR (xs++[x]) r:=by cases r<;>simp [preR,consR]
def Stop (r:List UInt8):Prop:=∀ z r',r=z::r'→inW z=false∧z≠61
theorem Stop.dig {r:List UInt8} (h:Stop r):∀ z r',r=z::r'→isDig z=false:=fun z r' e=>by
 have:=(h z r' e).1;unfold inW at this
 simp at this
 exact this.1.1.2
theorem wordL_stop {r:List UInt8} (hr:Stop r) {l:List UInt8} (hl:l≠[]):wordL (l++r)=wordL l:=by
 cases l with
 |nil=>exact absurd rfl hl
 |cons c l=>
  rw [List.cons_append,wordL,wordL,← List.cons_append,runL_stop inW r (fun z r' e=>(hr z r' e).1)]
theorem numLx_stop {r:List UInt8} (hr:Stop r) (l:List UInt8):numLx (l++r)=numLx l:=by
 unfold numLx;rw [runL_stop isDig r hr.dig,List.take_append_of_le_length (runL_le _ _)]
theorem signL_stop {r:List UInt8} (hr:Stop r) {l:List UInt8} (hl:l≠[]):signL (l++r)=signL l:=by
 cases l with
 |nil=>exact absurd rfl hl
 |cons c l=>
  rw [List.cons_append,signL,signL,pre2,pre2];cases l with
  |nil=>
   cases r with
   |nil=>rfl
   |cons z r'=>
    have e:((61:UInt8)==z)=false:=by
     have:=(hr z r' rfl).2
     simp
     exact fun h=>this h.symm
    simp [e]
  |cons d l=>rfl
theorem tokAt_stop {r:List UInt8} (hr:Stop r) {l:List UInt8} (hl:l≠[]):tokAt (l++r)=tokAt l:=by
 unfold tokAt;rw [wordL_stop hr hl,numLx_stop hr,signL_stop hr hl]
theorem take_ne {l:List UInt8} {n:Nat} (hn:0<n) (hl:n≤l.length):∃ c r,l=c::r∧l.take n=c::r.take (n-1):=by
 cases l with
 |nil=>simp at hl;omega
 |cons c r=>
  obtain ⟨m,rfl⟩:∃ m,n=m+1:=⟨n-1,by omega⟩;exact ⟨c,r,rfl,by rw [List.take_succ_cons];rfl⟩
theorem wordL_zero {c:UInt8} (r:List UInt8) (h:isLet c=false):wordL (c::r)=0:=by rw [wordL,if_neg (by rw [h];simp)]
theorem numLx_zero {c:UInt8} (r:List UInt8) (h:isDig c=false):numLx (c::r)=0:=by
 have e:runL isDig (c::r)=0:=(by rw [runL_cons,if_neg (by rw [h];simp)]);unfold numLx;rw [e,ite_self]
theorem let_of_word {c:UInt8} {r:List UInt8} (h:wordL (c::r)=0):isLet c=false:=by
 rw [wordL] at h;by_cases hc:isLet c=true
 ·rw [if_pos hc,runL_cons,if_pos (by unfold inW;simp [hc])] at h;omega
 ·simpa using hc
theorem dig_not_let {c:UInt8} (h:isDig c=true):isLet c=false:=by
 unfold isDig at h;unfold isLet
 simp at h ⊢
 omega
theorem tokAt_take {l:List UInt8} {k n:Nat} (h:tokAt l=some (k,n)):tokAt (l.take n)=some (k,n):=by
 have hp:=tokAt_pos h;obtain ⟨c,r,rfl,et⟩:=take_ne hp.1 hp.2.1;rw [et];unfold tokAt at h
 split at h
 ·next hw=>
  obtain ⟨rfl,rfl⟩:=Prod.mk.inj (Option.some.inj h);have hc:isLet c=true:=by
   rw [wordL] at hw;by_cases hc:isLet c=true
   ·exact hc
   ·rw [if_neg hc] at hw;omega
  have e:wordL (c::r)=runL inW (c::r):=(by rw [wordL,if_pos hc]);have e2:wordL (c::r.take (wordL (c::r)-1))=wordL (c::r):=by
   rw [wordL,if_pos hc,← et,e,runL_take]
  unfold tokAt;rw [e2,if_pos hw]
 ·next hw=>
  have hc:isLet c=false:=let_of_word (r:=r) (by omega)
  split at h
  ·next hn=>
   obtain ⟨rfl,rfl⟩:=Prod.mk.inj (Option.some.inj h);have e:numLx (c::r)=runL isDig (c::r):=by
    unfold numLx at hn ⊢
    split at hn
    ·next h1=>rw [if_pos h1]
    ·omega
   have h1:(numO ((c::r).take (runL isDig (c::r)))).isSome=true:=by
    unfold numLx at hn
    split at hn
    ·next h1=>exact h1
    ·omega
   have e2:numLx (c::r.take (numLx (c::r)-1))=numLx (c::r):=by
    rw [← et,e];unfold numLx;rw [runL_take,List.take_take,Nat.min_self,if_pos h1]
   unfold tokAt;rw [wordL_zero _ hc,if_neg (by omega),e2,if_pos hn]
  ·next hn=>
   have hd:isDig c=false∨isDig c=true:=by cases isDig c<;>simp
   split at h
   ·next hs=>
    obtain ⟨rfl,rfl⟩:=Prod.mk.inj (Option.some.inj h);have hsg:signL (c::r.take (signL (c::r)-1))=signL (c::r):=by
     rw [signL] at hs ⊢;rw [signL];by_cases hp2:Lib.hasPrefix (c::r) [58,61]=true
     ·rw [if_pos hp2]
      rw [pre2] at hp2;cases r with
      |nil=>simp at hp2
      |cons d r=>
       rw [List.take_succ_cons,pre2,if_pos];exact hp2
     ·rw [if_neg hp2] at hs ⊢
      by_cases hx:0≤Lib.indexByte signs12 c
      ·rw [if_pos hx,pre2,if_neg (by simp)]
      ·rw [if_neg hx] at hs;omega
    have hnum:numLx (c::r.take (signL (c::r)-1))=0:=by
     rcases hd with hd|hd
     ·exact numLx_zero _ hd
     ·-- a digit is no sign
      exfalso
      rw [signL,pre2] at hs;have h58:((58:UInt8)==c)=false:=by
       have:c≠58:=by rintro rfl;revert hd;decide
       simp;exact fun e=>this e.symm
      rw [h58,Bool.false_and,if_neg (by simp)] at hs;have key:∀ d:UInt8,isDig d=true→¬ 0≤Lib.indexByte signs12 d:=by
       intro d hd;have hb:48≤d.toNat∧d.toNat≤57:=(by unfold isDig at hd;simpa using hd);have e:d=UInt8.ofNat d.toNat:=(by simp);rw [e];generalize d.toNat=m at hb;obtain ⟨h1,h2⟩:=hb;have:m=48∨m=49∨m=50∨m=51∨m=52∨m=53∨m=54∨m=55∨m=56∨m=57:=(by omega);rcases this with rfl|rfl|rfl|rfl|rfl|rfl|rfl|rfl|rfl|rfl<;>decide
      rw [if_neg (key c hd)] at hs;omega
    unfold tokAt;rw [wordL_zero _ hc,if_neg (by omega),hnum,if_neg (by omega),hsg,if_pos hs]
   ·cases h
theorem tokAt_none {c:UInt8} (r:List UInt8) (h1:isLet c=false) (h2:isDig c=false) (h3:Lib.indexByte signs12 c=-1) (h4:c≠58):tokAt (c::r)=none:=by
 unfold tokAt;have e:((58:UInt8)==c)=false:=by simp;exact fun e=>h4 e.symm
 rw [wordL_zero _ h1,if_neg (by omega),numLx_zero _ h2,if_neg (by omega),signL,pre2,e,Bool.false_and,if_neg (show ¬ false=true by simp),if_neg (show ¬ 0≤Lib.indexByte signs12 c by rw [h3];decide)]
 rfl
theorem tok32 (r:List UInt8):tokAt (32::r)=none:=tokAt_none r (by decide) (by decide) (by decide) (by decide)
theorem tok10 (r:List UInt8):tokAt (10::r)=none:=tokAt_none r (by decide) (by decide) (by decide) (by decide)
theorem tok45 (r:List UInt8):tokAt (45::r)=none:=tokAt_none r (by decide) (by decide) (by decide) (by decide)
theorem gap32 (r:List UInt8):gapL (32::r)=1:=by rw [gapL,pre2,if_neg (by simp),if_pos (by decide)]
theorem gap10 (r:List UInt8):gapL (10::r)=1:=by rw [gapL,pre2,if_neg (by simp),if_pos (by decide)]
theorem gap_tok {l:List UInt8} (h:gapL l≠0):tokAt l=none:=by
 cases l with
 |nil=>rfl
 |cons c l=>
  rw [gapL,pre2] at h;by_cases h45:((45:UInt8)==c)=true
  ·obtain rfl:(45:UInt8)=c:=by simpa using h45
   exact tok45 _
  ·have:((45:UInt8)==c)=false:=by simpa using h45
   rw [this,Bool.false_and,if_neg (by simp)] at h;by_cases h1:c=32∨c=10
   ·rcases h1 with rfl|rfl
    ·exact tok32 _
    ·exact tok10 _
   ·rw [if_neg h1] at h;exact absurd rfl h
theorem scan_first : ∀ (n : Nat) (l : List UInt8) (a : Nat) (x : Tk) (ts : List Tk), l.length ≤ n → scanS l a = .ok (x :: ts) →
    ∃ g r,l=g++(x.t++r)∧x.p=a+g.length∧(∀ b,scanS g b=.ok [])∧scanS r (x.p+x.t.length)=.ok ts∧tokAt x.t=some (x.k,x.t.length)
 |_,[],_,x,ts,_,h=>by cases h
 |0,_::_,_,_,_,h,_=>by simp at h
 |n+1,c::l,a,x,ts,h,hs=>by
  have h2:l.length≤n:=(by simpa using h);cases ht:tokAt (c::l) with
  |some y=>
   obtain ⟨k,m⟩:=y;have hp:=tokAt_pos ht;rw [scanS_tok ht] at hs;cases hr:scanS ((c::l).drop m) (a+m) with
   |error e=>rw [hr] at hs;cases hs
   |ok us=>
    rw [hr] at hs;obtain ⟨rfl,rfl⟩:=List.cons.inj (Except.ok.inj hs);have hlen:((c::l).take m).length=m:=List.length_take_of_le hp.2.1;refine ⟨[],(c::l).drop m,by rw [List.nil_append,List.take_append_drop],rfl,fun b=>rfl,?_,?_⟩
    ·dsimp only;rw [hlen];exact hr
    ·dsimp only;rw [hlen];exact tokAt_take ht
  |none=>
   by_cases hg:gapL (c::l)=0
   ·rw [scanS_bad ht hg (by simp)] at hs;cases hs
   ·rw [scanS_gap ht hg] at hs
    have hle:=gapL_le (c::l);obtain ⟨g,r,e1,e2,e3,e4,e5⟩:=scan_first n _ _ x ts (by rw [List.length_drop,List.length_cons];omega) hs;have hlen:((c::l).take (gapL (c::l))).length=gapL (c::l):=List.length_take_of_le hle;refine ⟨(c::l).take (gapL (c::l))++g,r,by rw [List.append_assoc,← e1,List.take_append_drop],by rw [List.length_append,hlen];omega,?_,e4,e5⟩
    -- the gap stays a gap when it is cut at the token
    have gg:gapL ((c::l).take (gapL (c::l))++g)=gapL (c::l):=by
     obtain ⟨c',r',e6,e7⟩:=take_ne (l:=c::l) (Nat.pos_of_ne_zero hg) hle;obtain ⟨rfl,rfl⟩:=List.cons.inj e6;by_cases hpx:Lib.hasPrefix (c::l) [45,45]=true
     ·have eg:gapL (c::l)=runL inC (c::l):=by rw [gapL,if_pos hpx]
      have hpx2:Lib.hasPrefix (c::(l.take (gapL (c::l)-1)++g)) [45,45]=true:=by
       rw [pre2] at hpx ⊢;cases l with
       |nil=>simp at hpx
       |cons d l=>
        have hd:((45:UInt8)==c&&(45:UInt8)==d)=true:=hpx;have hd2:c=45∧d=45:=(by simp at hd;exact ⟨hd.1.symm,hd.2.symm⟩);have h3:2≤gapL (c::d::l):=by
         rw [eg,hd2.1,hd2.2,runL_cons,if_pos (by decide),runL_cons,if_pos (by decide)];omega
        obtain ⟨m,hm⟩:∃ m,gapL (c::d::l)-1=m+1:=⟨gapL (c::d::l)-2,by omega⟩;rw [hm,List.take_succ_cons,List.cons_append];exact hd
      rw [e7,List.cons_append,gapL,if_pos hpx2,← List.cons_append,← e7];have hstop:∀ z r',g=z::r'→inC z=false:=by
       intro z r' eg2;refine runL_next inC (c::l) z (r'++(x.t++r)) ?_;rw [← eg,e1,eg2,List.cons_append]
      rw [runL_stop inC g hstop];rw [eg,runL_take]
     ·have eg:gapL (c::l)=1:=by
       rw [gapL,if_neg hpx] at hg ⊢;by_cases h1:c=32∨c=10
       ·rw [if_pos h1]
       ·rw [if_neg h1] at hg;exact absurd rfl hg
      have h1:c=32∨c=10:=by
       rw [gapL,if_neg hpx] at hg;by_cases h1:c=32∨c=10
       ·exact h1
       ·rw [if_neg h1] at hg;exact absurd rfl hg
      rw [eg,List.take_succ_cons,List.take_zero,List.cons_append];rcases h1 with rfl|rfl
      ·exact gap32 _
      ·exact gap10 _
    intro b;rw [scanS_gap (gap_tok (by rw [gg];exact hg)) (by rw [gg];exact hg),gg,List.drop_left' hlen];exact e3 _
theorem scan_toks:∀ (n:Nat) (l:List UInt8) (a:Nat) (ts:List Tk),ts.length≤n→scanS l a=.ok ts→(∀ x∈ts,tokAt x.t=some (x.k,x.t.length))∧(ts.map (·.t.length)).sum≤l.length∧ts.length≤l.length∧∀ x∈ts,x.p≤a+l.length
 |_,l,_,[],_,_=>⟨fun _ h=>(by cases h),Nat.zero_le _,Nat.zero_le _,fun _ h=>(by cases h)⟩
 |0,_,_,_::_,h,_=>by simp at h
 |n+1,l,a,x::ts,h,hs=>by
  obtain ⟨g,r,e1,e2,_,e4,e5⟩:=scan_first l.length l a x ts (Nat.le_refl _) hs;obtain ⟨i1,i2,i3,i4⟩:=scan_toks n r _ ts (by simpa using h) e4;have hp:=tokAt_pos e5;have hl:l.length=g.length+(x.t.length+r.length):=(by rw [e1];simp);refine ⟨fun y hy=>?_,?_,?_,fun y hy=>?_⟩
  ·rcases List.mem_cons.1 hy with rfl|hy
   ·exact e5
   ·exact i1 y hy
  ·simp only [List.map_cons,List.sum_cons];omega
  ·rw [List.length_cons];omega
  ·rcases List.mem_cons.1 hy with rfl|hy
   ·omega
   ·have:=i4 y hy;omega
def scanR (l:List UInt8):List Tk × Nat × Nat:=
 if 65536<l.length then ([],0,14) else match scanS l 0 with
  |.ok ts=>(ts,0,0)
  |.error e=>([],e,10)
end Go.Proofs.YtmceocgddaaohaaGreatDoor
namespace Go.Proofs.YtmceocgddaaohaaGreatDoor
open Go Go.RowKit
set_option maxRecDepth 100000
def sT (l:List UInt8):Value:=.string ⟨l.toArray⟩
theorem beq_sT (xs ys:List UInt8):((⟨xs.toArray⟩:ByteArray).toList==(⟨ys.toArray⟩:ByteArray).toList)=decide (xs=ys):=by
 rw [ByteArray.toList_eq,ByteArray.toList_eq];by_cases h:xs=ys
 ·subst h;simp
 ·rw [decide_eq_false h]
  simpa using h
theorem exec_sEq {P:Program} {a:Act} {w:World} {op:Oper} (t t2:TypeId) (x y:Operand) (ho:op.op=.binOp .eql t x y t2) (xs ys:List UInt8) (ex:a.eval x=sT xs) (ey:a.eval y=sT ys) (hg:∀ w,(eqGuard .eql t x y (sT xs) (sT ys)).run P w=.ok () w):(execOp a.eval op).run P w=.ok (.value (.bool (decide (xs=ys)))) w:=by
 have h:(binOp .eql t (sT xs) (sT ys)).run P w=.ok (.bool (decide (xs=ys))) w:=by
  unfold sT;rw [binOp_string_eql,beq_sT]
  rfl
 unfold execOp;simp only [ho,ex,ey,Sem.run_bind,hg,Result.andThen_ok,h]
 rfl
theorem exec_sNe {P:Program} {a:Act} {w:World} {op:Oper} (t t2:TypeId) (x y:Operand) (ho:op.op=.binOp .neq t x y t2) (xs ys:List UInt8) (ex:a.eval x=sT xs) (ey:a.eval y=sT ys) (hg:∀ w,(eqGuard .neq t x y (sT xs) (sT ys)).run P w=.ok () w):(execOp a.eval op).run P w=.ok (.value (.bool (!decide (xs=ys)))) w:=by
 have h:(binOp .neq t (sT xs) (sT ys)).run P w=.ok (.bool (!decide (xs=ys))) w:=by
  unfold sT;rw [binOp_string_neq,beq_sT]
  rfl
 unfold execOp;simp only [ho,ex,ey,Sem.run_bind,hg,Result.andThen_ok,h]
 rfl
theorem exec_sIdx {a:Act} {w:World} {op:Oper} (x ix:Operand) (ho:op.op=.index 9 x ix) (l:List UInt8) (ex:a.eval x=sT l) (i:Nat) (ei:a.eval ix=.int .i64 (i:Int)) (c:UInt8) (hc:l[i]?=some c):(execOp a.eval op).run Tryz.prog w=.ok (.value (.int .u8 (c.toNat:Int))) w:=by
 have hl:i<l.length:=(List.getElem?_eq_some_iff.1 hc).1;have hr:(Instr.index 9 (sT l) (.int .i64 (i:Int))).run Tryz.prog w=.ok (.int .u8 (c.toNat:Int)) w:=by
  unfold sT;rw [run_index_string w 9 _ _ _ Tryz.underlying9,dif_pos (by show (0:Int)≤(i:Int)∧(i:Int)<(l.length:Int);omega)];have e:(⟨l.toArray⟩:ByteArray)[((i:Int)).toNat]'(by show i<l.length;exact hl)=c:=(List.getElem?_eq_some_iff.1 hc).2;rw [e]
 unfold execOp;simp only [ho,ex,ei,Sem.run_bind,hr,Result.andThen_ok]
 rfl
theorem run_sCut (l:List UInt8) (i j:Nat) (hi:i≤j) (hj:j≤l.length) (w:World):(Instr.sliceAt 9 (sT l) (some (.int .i64 (i:Int))) (some (.int .i64 (j:Int))) none).run Tryz.prog w=.ok (sT ((l.drop i).take (j-i))) w:=by
 unfold sT;rw [show (Instr.sliceAt 9 _ _ _ none).run Tryz.prog w=(Instr.slice 9 _ _ _ none).run Tryz.prog w from run_sliceAt_string w 9 _ _ _ none Tryz.underlying9];rw [run_slice_string w 9 _ .i64 .i64 _ _ Tryz.underlying9 (by omega) (by omega) (by show (j:Int)≤(l.length:Int);omega)];rw [Int.toNat_natCast,Int.toNat_natCast,ByteArray.extract_mk]
theorem run_sFrom (l:List UInt8) (i:Nat) (hi:i≤l.length) (w:World):(Instr.sliceAt 9 (sT l) (some (.int .i64 (i:Int))) none none).run Tryz.prog w=.ok (sT (l.drop i)) w:=by
 unfold sT;rw [show (Instr.sliceAt 9 _ _ _ none).run Tryz.prog w=(Instr.slice 9 _ _ _ none).run Tryz.prog w from run_sliceAt_string w 9 _ _ _ none Tryz.underlying9];rw [run_slice_string_l w 9 _ Tryz.underlying9 .i64 _ (by omega) (by show (i:Int)≤(l.length:Int);omega)];rw [Int.toNat_natCast,ByteArray.extract_mk,show (ByteArray.mk l.toArray).size=l.length from rfl,List.take_of_length_le (by rw [List.length_drop];omega)]
theorem run_sTo (l:List UInt8) (j:Nat) (hj:j≤l.length) (w:World):(Instr.sliceAt 9 (sT l) none (some (.int .i64 (j:Int))) none).run Tryz.prog w=.ok (sT (l.take j)) w:=by
 unfold sT;rw [show (Instr.sliceAt 9 _ _ _ none).run Tryz.prog w=(Instr.slice 9 _ _ _ none).run Tryz.prog w from run_sliceAt_string w 9 _ _ _ none Tryz.underlying9];rw [run_slice_string_h w 9 _ Tryz.underlying9 .i64 _ (by omega) (by show (j:Int)≤(l.length:Int);omega)];rw [Int.toNat_natCast,ByteArray.extract_mk,List.drop_zero,Nat.sub_zero]
def PredF (g:FuncId) (p:UInt8→Bool):Prop:=∀ (c:UInt8) (w:World),Calls Tryz.prog g #[.int .u8 (c.toNat:Int)] w fun e w'=>e=.returned (.bool (p c))∧w'=w
def digZ (x:Int):Bool:=decide (48≤x∧x≤57)
def letZ (x:Int):Bool:=decide ((97≤x∧x≤122)∨(65≤x∧x≤90))
def comZ (x:Int):Bool:=decide (32≤x∧x≤126)
theorem isDig_z (c:UInt8):isDig c=digZ (c.toNat:Int):=by
 unfold isDig digZ
 congr 1
 simp only [eq_iff_iff];omega
theorem isLet_z (c:UInt8):isLet c=letZ (c.toNat:Int):=by
 unfold isLet letZ
 congr 1
 simp only [eq_iff_iff];omega
theorem inC_z (c:UInt8):inC c=comZ (c.toNat:Int):=by
 unfold inC comZ
 congr 1
 simp only [eq_iff_iff];omega
theorem xisdig_walk:PredF 137 isDig:=fun c w=>by
 rw [isDig_z];obtain ⟨x,hx⟩:∃ x:Int,x=(c.toNat:Int):=⟨_,rfl⟩;rw [← hx];clear hx;unfold digZ;by_cases h1:48≤x<;>by_cases h2:x≤57<;>
  (go_enter Tryz.func137,Tryz.ntmps137
   go_wp2;go_ret;exact ⟨by simp [h1,h2],rfl⟩)
theorem xincom_walk:PredF 112 inC:=fun c w=>by
 rw [inC_z];obtain ⟨x,hx⟩:∃ x:Int,x=(c.toNat:Int):=⟨_,rfl⟩;rw [← hx];clear hx;unfold comZ;by_cases h1:32≤x<;>by_cases h2:x≤126<;>
  (go_enter Tryz.func112,Tryz.ntmps112
   go_wp2;go_ret;exact ⟨by simp [h1,h2],rfl⟩)
theorem xislet_walk:PredF 135 isLet:=fun c w=>by
 rw [isLet_z];obtain ⟨x,hx⟩:∃ x:Int,x=(c.toNat:Int):=⟨_,rfl⟩;rw [← hx];clear hx;unfold letZ;by_cases h1:97≤x<;>by_cases h2:x≤122<;>by_cases h3:65≤x<;>by_cases h4:x≤90<;>
  (go_enter Tryz.func135,Tryz.ntmps135
   go_wp2;go_ret;exact ⟨by simp [h1,h2,h3,h4],rfl⟩)
set_option maxHeartbeats 4000000 in
theorem xinw_walk:PredF 136 inW:=fun c w=>by
 have L:=xislet_walk c;have D:=xisdig_walk c;have e:inW c=(isLet c||isDig c||decide ((c.toNat:Int)=95)||decide ((c.toNat:Int)=46)):=by
  unfold inW
  congr 1
  ·congr 1
   congr 1
   simp only [eq_iff_iff];omega
  ·congr 1
   simp only [eq_iff_iff];omega
 rw [e];clear e;generalize isLet c=b1 at *;generalize isDig c=b2 at *;generalize (c.toNat:Int)=x at *
 go_enter Tryz.func136,Tryz.ntmps136
 go_upto_region 0 with (fail);refine lbeg (opsOf Tryz.f136 0) ?_;refine lnow 0 (.bool false) (some 2) ?_;refine ldq 1 ?_;go_upto_region 1 with (fail);refine lbeg (opsOf Tryz.f136 1) ?_;refine lnow 0 (.int .u8 x) (some 3) ?_;refine lcal 1 135 #[.int .u8 x] (some 4) _ (L _) ?_;rintro e w1 ⟨rfl,hw1⟩;obtain rfl:=hw1.symm;refine ⟨_,rfl,?_⟩;cases b1 with
 |true=>
  refine lnow 2 (.bool true) (some 5) ?_;refine lpas 3 (some 6) ?_;refine lpas 4 (some 7) ?_;refine lnow 5 (.bool true) (some 8) ?_;refine lnow 6 (.bool true) (some 9) ?_;refine lpas 7 (some 10) ?_;refine lpas 8 (some 11) ?_;refine lnow 9 (.bool true) (some 12) ?_;refine lnow 10 (.bool true) (some 13) ?_;refine lpas 11 (some 14) ?_;refine lpas 12 (some 15) ?_;refine lnow 13 (.bool true) (some 16) ?_;refine lnow 14 (.bool true) (some 2) ?_;refine ldq 15 ?_;go_wp2;go_ret;exact ⟨by simp,rfl⟩
 |false=>
  refine lnow 2 (.bool false) (some 5) ?_;refine lnow 3 (.int .u8 x) (some 6) ?_;refine lcal 4 137 #[.int .u8 x] (some 7) _ (D _) ?_;rintro e w1 ⟨rfl,hw1⟩;obtain rfl:=hw1.symm;refine ⟨_,rfl,?_⟩;cases b2 with
  |true=>
   refine lnow 5 (.bool true) (some 8) ?_;refine lnow 6 (.bool true) (some 9) ?_;refine lpas 7 (some 10) ?_;refine lpas 8 (some 11) ?_;refine lnow 9 (.bool true) (some 12) ?_;refine lnow 10 (.bool true) (some 13) ?_;refine lpas 11 (some 14) ?_;refine lpas 12 (some 15) ?_;refine lnow 13 (.bool true) (some 16) ?_;refine lnow 14 (.bool true) (some 2) ?_;refine ldq 15 ?_;go_wp2;go_ret;exact ⟨by simp,rfl⟩
  |false=>
   refine lnow 5 (.bool false) (some 8) ?_;refine lnow 6 (.bool false) (some 9) ?_;refine lnow 7 (.int .u8 x) (some 10) ?_;refine lnow 8 (.bool (decide (x=95))) (some 11) ?_;by_cases h3:x=95
   ·rw [decide_eq_true h3]
    refine lnow 9 (.bool true) (some 12) ?_;refine lnow 10 (.bool true) (some 13) ?_;refine lpas 11 (some 14) ?_;refine lpas 12 (some 15) ?_;refine lnow 13 (.bool true) (some 16) ?_;refine lnow 14 (.bool true) (some 2) ?_;refine ldq 15 ?_;go_wp2;go_ret;exact ⟨by simp,rfl⟩
   ·rw [decide_eq_false h3]
    refine lnow 9 (.bool false) (some 12) ?_;refine lnow 10 (.bool false) (some 13) ?_;refine lnow 11 (.int .u8 x) (some 14) ?_;refine lnow 12 (.bool (decide (x=46))) (some 15) ?_;refine lnow 13 (.bool (decide (x=46))) (some 16) ?_;refine lnow 14 (.bool (decide (x=46))) (some 2) ?_;refine ldq 15 ?_;go_wp2;go_ret;exact ⟨by simp,rfl⟩
end Go.Proofs.YtmceocgddaaohaaGreatDoor
namespace Go.Proofs.YtmceocgddaaohaaGreatDoor
open Go Go.RowKit
set_option maxRecDepth 100000
theorem sprefix_walk (l p:List UInt8) (w:World):Calls Tryz.prog 110 #[sT l,sT p] w fun e w'=>e=.returned (.bool (Lib.hasPrefix l p))∧w'=w:=Tryz.strings_HasPrefix ⟨l.toArray⟩ ⟨p.toArray⟩ w
theorem sidxb_walk (p:List UInt8) (c:UInt8) (w:World):Calls Tryz.prog 138 #[sT p,.int .u8 (c.toNat:Int)] w fun e w'=>e=.returned (.int .i64 (Lib.indexByte p c))∧w'=w:=by
 have h:=Tryz.strings_IndexByte ⟨p.toArray⟩ (c.toNat:Int) w;rw [Int.toNat_natCast,show c.toNat.toUInt8=c by simp] at h;exact h
theorem u8w (x:Int) (h:0≤x∧x<256):IntKind.u8.wrap x=x:=IntWalk.u8_in x (by omega)
theorem numV_snoc (l:List UInt8) (c:UInt8):numV (l++[c])=numV l*10+(c.toNat-48):=by unfold numV;rw [List.foldl_append];rfl
theorem numV_lt:∀ (n:Nat) (l:List UInt8),l.length=n→l.all isDig=true→numV l<10 ^ n
 |0,l,hl,_=>by
  obtain rfl:=List.eq_nil_of_length_eq_zero hl
  decide
 |n+1,l,hl,ha=>by
  have hne:l≠[]:=fun e=>by rw [e] at hl;simp at hl
  obtain ⟨l',c,rfl⟩:∃ l' c,l=l'++[c]:=⟨l.dropLast,l.getLast hne,(List.dropLast_concat_getLast hne).symm⟩;rw [List.all_append,Bool.and_eq_true] at ha;have hl':l'.length=n:=(by simpa using hl);have ih:=numV_lt n l' hl' ha.1;have hc:isDig c=true:=(by simpa using ha.2);have hc2:c.toNat≤57:=(by unfold isDig at hc;simp at hc;exact hc.2);rw [numV_snoc,Nat.pow_succ];omega
theorem numV_le {l:List UInt8} (hl:l.length≤6) (ha:l.all isDig=true):numV l≤999999:=by
 have h1:=numV_lt _ l rfl ha;have h2:10 ^ l.length≤10 ^ 6:=Nat.pow_le_pow_right (by decide) hl;have h3:(10:Nat) ^ 6=1000000:=(by decide);omega
theorem take_snoc {α:Type} {l:List α} {k:Nat} {c:α} (h:l[k]?=some c):l.take (k+1)=l.take k++[c]:=by
 rw [List.take_add_one,h];rfl
theorem all_false {l:List UInt8} {k:Nat} {c:UInt8} (h:l[k]?=some c) (hc:isDig c=false):l.all isDig=false:=by
 cases hb:l.all isDig with
 |false=>rfl
 |true=>
  have:=List.all_eq_true.1 hb c (List.mem_of_getElem? h);rw [hc] at this;cases this
set_option maxHeartbeats 2000000 in
theorem xrun_walk (g:FuncId) (p:UInt8→Bool) (eg:∀ args w,(callFunc g args).run Tryz.prog w=.ok (.enter g args) w) (hp:PredF g p) (l:List UInt8) (hl:l.length≤1000000) (w:World):Calls Tryz.prog 111 #[sT l,.func (.func g) #[] #[]] w fun e w'=>e=.returned (.int .i64 (runL p l:Int))∧w'=w:=by
 obtain ⟨N,hN⟩:∃ N,Hid (l.length=N):=⟨_,rfl⟩;have HP:=hZ hp;have EG:=hZ eg;have NB:Hid (N≤1000000):=(by rw [← hN.out];exact hl);clear hp eg hl
 go_enter Tryz.func111,Tryz.ntmps111
 go_upto_region 0 with (fail);refine lbeg (opsOf Tryz.f111 0) ?_;refine lnow 0 (.int .i64 0) (some 4) ?_;refine ldq 1 ?_;go_upto_region 1 with (fail);refine lbeg (opsOf Tryz.f111 1) ?_;refine lnow 0 (.int .i64 0) (some 5) ?_;refine ldq 1 ?_;go_wp2
 go_loop [5] (fun kv=>∃ k:Nat,k≤N∧kv=.int .i64 (k:Int)∧Hid (runL p l=k+runL p (l.drop k))) (fun kv=>N-(intOf kv).toNat)
 case atStart=>exact ⟨0,Nat.zero_le _,rfl,by rw [Hid,List.drop_zero,Nat.zero_add]⟩
 case round=>
  obtain ⟨k,hk,rfl,HR⟩:=hrel;have nb:=NB.out;by_cases hlt:k<N
  rotate_left
  ·skip
   obtain rfl:k=N:=(by omega);have ER:Hid (runL p l=k):=(by rw [Hid,HR.out,List.drop_eq_nil_of_le (by have:=hN.out;omega)];rfl);have c1:¬ ((k:Int)<(k:Int)):=(by omega);go_upto_region 2 with (fail);refine lbeg (opsOf Tryz.f111 2) ?_;refine lnow 0 (.int .i64 (k:Int)) (some 6) ?_;refine lnow 1 (sT l) (some 7) ?_;refine lnow 2 (.int .i64 (l.length:Int)) (some 8) ?_;rw [hN.out];refine lnow 3 (.bool (decide ((k:Int)<(k:Int)))) (some 9) ?_;rw [decide_eq_false c1];refine lnow 4 (.bool false) (some 10) ?_;refine lpas 5 (some 11) ?_;refine lpas 6 (some 12) ?_;refine lpas 7 (some 13) ?_;refine lpas 8 (some 14) ?_;refine lpas 9 (some 15) ?_;refine lnow 10 (.bool false) (some 16) ?_;refine ldq 11 ?_;go_wp2;go_ret;exact ⟨by rw [ER.out];rfl,rfl⟩
  have c1:(k:Int)<(N:Int):=(by omega);obtain ⟨c,hc⟩:∃ c,Hid (l[k]?=some c):=⟨_,List.getElem?_eq_getElem (by rw [hN.out];exact hlt)⟩;have DR:Hid (l.drop k=c::l.drop (k+1)):=(by have h:=hc.out;rw [Hid,List.drop_eq_getElem_cons (by rw [hN.out];exact hlt)];rw [List.getElem?_eq_getElem (by rw [hN.out];exact hlt)] at h;rw [Option.some.inj h]);go_upto_region 2 with (fail);refine lbeg (opsOf Tryz.f111 2) ?_;refine lnow 0 (.int .i64 (k:Int)) (some 6) ?_;refine lnow 1 (sT l) (some 7) ?_;refine lnow 2 (.int .i64 (l.length:Int)) (some 8) ?_;rw [hN.out];refine lnow 3 (.bool (decide ((k:Int)<(N:Int)))) (some 9) ?_;rw [decide_eq_true c1];refine lnow 4 (.bool true) (some 10) ?_;refine lnow 5 (.func (.func g) #[] #[]) (some 11) ?_;refine lnow 6 (sT l) (some 12) ?_;refine lnow 7 (.int .i64 (k:Int)) (some 13) ?_;refine lnowP 8 (.int .u8 (c.toNat:Int)) (some 14) (exec_sIdx (.tmp 12) (.tmp 13) (by kernel_rfl) (l) (by kernel_rfl) (k) (by kernel_rfl) c hc.out) ?_;refine lin_call 9 g #[.int .u8 (c.toNat:Int)] (some 15) _ (by kernel_rfl) (by kernel_rfl) ((congrArg (fun z:Sem Next=>z.run Tryz.prog w) (show execOp _ _=callFunc g #[.int .u8 (c.toNat:Int)] by kernel_rfl)).trans (EG.out _ _)) (HP.out c w) ?_;rintro e w1 ⟨rfl,hw1⟩;obtain rfl:=hw1.symm;refine ⟨_,rfl,?_⟩;cases hb:p c with
  |false=>
   have ER:Hid (runL p l=k):=(by rw [Hid,HR.out,DR.out,runL_cons,if_neg (by rw [hb];simp)];rfl);refine lnow 10 (.bool false) (some 16) ?_;refine ldq 11 ?_;clear hb DR HR;go_wp2;go_ret;exact ⟨by rw [ER.out];rfl,rfl⟩
  |true=>
   have ER:Hid (runL p l=(k+1)+runL p (l.drop (k+1))):=(by rw [Hid,HR.out,DR.out,runL_cons,if_pos hb];omega);refine lnow 10 (.bool true) (some 16) ?_;refine ldq 11 ?_;clear hb DR HR;go_wp2
   go_round
   case rel=>exact ⟨k+1,by omega,by go_num,ER⟩
   case measure=>simp [intOf];omega
set_option maxHeartbeats 2000000 in
theorem xword_walk (c:UInt8) (r:List UInt8) (l:List UInt8) (el:l=c::r) (hl:l.length≤1000000) (w:World):Calls Tryz.prog 106 #[sT l] w fun e w'=>e=.returned (.int .i64 (wordL l:Int))∧w'=w:=by
 have HL:=hZ hl;have HC:Hid (l[0]?=some c):=(by rw [Hid,el];rfl);have EL:=hZ el;clear el hl;obtain ⟨R,hR⟩:∃ R,Hid (wordL l=R):=⟨_,rfl⟩;rw [hR.out];have EW:Hid (R=if isLet c=true then runL inW l else 0):=by rw [Hid,← hR.out,EL.out,wordL]
 go_enter Tryz.func106,Tryz.ntmps106
 go_upto_region 0 with (fail);refine lbeg (opsOf Tryz.f106 0) ?_;refine lnow 0 (.int .i64 0) (some 2) ?_;refine ldq 1 ?_;go_upto_region 1 with (fail);refine lbeg (opsOf Tryz.f106 1) ?_;refine lnow 0 (sT l) (some 3) ?_;refine lnowP 1 (.int .u8 (c.toNat:Int)) (some 4) (exec_sIdx (.tmp 3) (.const (.int .i64 0)) (by kernel_rfl) (l) (by kernel_rfl) (0) (by kernel_rfl) c HC.out) ?_;refine lcal 2 135 #[.int .u8 (c.toNat:Int)] (some 5) _ (xislet_walk c _) ?_;rintro e w1 ⟨rfl,hw1⟩;obtain rfl:=hw1.symm;refine ⟨_,rfl,?_⟩;cases hb:isLet c with
 |false=>
  have E0:Hid (R=0):=(by rw [Hid,EW.out,hb];rfl);refine lnow 3 (.bool true) (some 6) ?_;refine ldq 4 ?_;clear hb EW;go_wp2;go_ret;exact ⟨by rw [E0.out];rfl,rfl⟩
 |true=>
  have E0:Hid (runL inW l=R):=(by rw [Hid,EW.out,hb];rfl);refine lnow 3 (.bool false) (some 6) ?_;refine ldq 4 ?_;clear hb EW;go_upto_region 3 with (fail);refine lbeg (opsOf Tryz.f106 3) ?_;refine lnow 0 (sT l) (some 7) ?_;refine lcal 1 111 #[sT l,.func (.func 136) #[] #[]] (some 8) _ (xrun_walk 136 inW (enters_of Tryz.func136 (by kernel_rfl) rfl) xinw_walk l HL.out _) ?_;rintro e w1 ⟨rfl,hw1⟩;obtain rfl:=hw1.symm;refine ⟨_,rfl,?_⟩;rw [E0.out];refine lnow 2 (.int .i64 (R:Int)) (some 2) ?_;refine ldq 3 ?_;go_wp2;go_ret;exact ⟨rfl,rfl⟩
set_option maxHeartbeats 4000000 in
theorem xnumber_walk (l:List UInt8) (w:World):Calls Tryz.prog 119 #[sT l] w fun e w'=>e=.returned (.tuple #[.int .i64 (((numO l).getD 0:Nat):Int),.bool (numO l).isSome])∧w'=w:=by
 obtain ⟨N,hN⟩:∃ N,Hid (l.length=N):=⟨_,rfl⟩;obtain ⟨R,hR⟩:∃ R,Hid (numO l=R):=⟨_,rfl⟩;rw [hR.out]
 go_enter Tryz.func119,Tryz.ntmps119
 go_upto_region 0 with (fail);refine lbeg (opsOf Tryz.f119 0) ?_;refine lnow 0 (.int .i64 0) (some 2) ?_;refine lnow 1 (.bool false) (some 3) ?_;refine ldq 2 ?_;by_cases he:l=[]
 ·have E0:Hid (R=none):=by rw [Hid,← hR.out];exact if_pos (.inl he)
  go_upto_region 1 with (fail);refine lbeg (opsOf Tryz.f119 1) ?_;refine lnow 0 (sT l) (some 6) ?_;refine lnowP 1 (.bool (decide (l=[]))) (some 7) (exec_sEq 9 9 (.tmp 6) (.const (.string ⟨#[]⟩)) (by kernel_rfl) l [] (by kernel_rfl) (by kernel_rfl) (fun _=>rfl)) ?_;rw [decide_eq_true he];refine lnow 2 (.bool true) (some 8) ?_;refine lpas 3 (some 9) ?_;refine lpas 4 (some 10) ?_;refine lpas 5 (some 11) ?_;refine lnow 6 (.bool true) (some 12) ?_;refine lnow 7 (.bool true) (some 13) ?_;refine lpas 8 (some 14) ?_;refine lpas 9 (some 15) ?_;refine lpas 10 (some 16) ?_;refine lpas 11 (some 17) ?_;refine lpas 12 (some 18) ?_;refine lpas 13 (some 19) ?_;refine lpas 14 (some 20) ?_;refine lpas 15 (some 21) ?_;refine lnow 16 (.bool true) (some 22) ?_;refine ldq 17 ?_;clear he hR;go_wp2
  go_ret2
  exact ⟨by rw [E0.out];rfl,rfl⟩
 by_cases h6:(N:Int)>6
 ·have E0:Hid (R=none):=by rw [Hid,← hR.out];exact if_pos (.inr (.inl (by have:=hN.out;omega)))
  go_upto_region 1 with (fail);refine lbeg (opsOf Tryz.f119 1) ?_;refine lnow 0 (sT l) (some 6) ?_;refine lnowP 1 (.bool (decide (l=[]))) (some 7) (exec_sEq 9 9 (.tmp 6) (.const (.string ⟨#[]⟩)) (by kernel_rfl) l [] (by kernel_rfl) (by kernel_rfl) (fun _=>rfl)) ?_;rw [decide_eq_false he];refine lnow 2 (.bool false) (some 8) ?_;refine lnow 3 (sT l) (some 9) ?_;refine lnow 4 (.int .i64 (l.length:Int)) (some 10) ?_;rw [hN.out];refine lnow 5 (.bool (decide ((N:Int)>6))) (some 11) ?_;rw [decide_eq_true h6];refine lnow 6 (.bool true) (some 12) ?_;refine lnow 7 (.bool true) (some 13) ?_;refine lpas 8 (some 14) ?_;refine lpas 9 (some 15) ?_;refine lpas 10 (some 16) ?_;refine lpas 11 (some 17) ?_;refine lpas 12 (some 18) ?_;refine lpas 13 (some 19) ?_;refine lpas 14 (some 20) ?_;refine lpas 15 (some 21) ?_;refine lnow 16 (.bool true) (some 22) ?_;refine ldq 17 ?_;clear he hR;go_wp2
  go_ret2
  exact ⟨by rw [E0.out];rfl,rfl⟩
 obtain ⟨c,r,ec⟩:∃ c r,l=c::r:=(by cases l with|nil=>exact absurd rfl he|cons c r=>exact ⟨c,r,rfl⟩);have HC:Hid (l[0]?=some c):=(by rw [Hid,ec];rfl);have HH:Hid (l.head?=some c):=(by rw [Hid,ec];rfl);clear ec;have LOOP:∀ a:Act,True:=fun _=>trivial
 clear LOOP;have N6:Hid (N≤6):=(by rw [Hid];omega);by_cases h1:(N:Int)>1
 rotate_left
 ·skip
  have NBAD:Hid (¬ (l=[]∨6<l.length∨(1<l.length∧l.head?=some 48))):=(by rw [Hid];rintro (h|h|h);exact he h;(have:=hN.out;omega);(have:=hN.out;have:=h.1;omega));go_upto_region 1 with (fail);refine lbeg (opsOf Tryz.f119 1) ?_;refine lnow 0 (sT l) (some 6) ?_;refine lnowP 1 (.bool (decide (l=[]))) (some 7) (exec_sEq 9 9 (.tmp 6) (.const (.string ⟨#[]⟩)) (by kernel_rfl) l [] (by kernel_rfl) (by kernel_rfl) (fun _=>rfl)) ?_;rw [decide_eq_false he];refine lnow 2 (.bool false) (some 8) ?_;refine lnow 3 (sT l) (some 9) ?_;refine lnow 4 (.int .i64 (l.length:Int)) (some 10) ?_;rw [hN.out];refine lnow 5 (.bool (decide ((N:Int)>6))) (some 11) ?_;rw [decide_eq_false h6];refine lnow 6 (.bool false) (some 12) ?_;refine lnow 7 (.bool false) (some 13) ?_;refine lnow 8 (sT l) (some 14) ?_;refine lnow 9 (.int .i64 (l.length:Int)) (some 15) ?_;rw [hN.out];refine lnow 10 (.bool (decide ((N:Int)>1))) (some 16) ?_;rw [decide_eq_false h1];refine lnow 11 (.bool false) (some 17) ?_;refine lpas 12 (some 18) ?_;refine lpas 13 (some 19) ?_;refine lpas 14 (some 20) ?_;refine lnow 15 (.bool false) (some 21) ?_;refine lnow 16 (.bool false) (some 22) ?_;refine ldq 17 ?_;clear h1 h6;go_upto_region 3 with (fail);refine lbeg (opsOf Tryz.f119 3) ?_;refine lnow 0 (.int .i64 0) (some 4) ?_;refine ldq 1 ?_;go_upto_region 4 with (fail);refine lbeg (opsOf Tryz.f119 4) ?_;refine lnow 0 (sT l) (some 23) ?_;refine lnow 1 (.int .i64 (l.length:Int)) (some 24) ?_
  rw [hN.out];refine lnow 2 (.int .i64 0) (some 25) ?_;refine ldq 3 ?_;clear HC HH he;go_wp2
  go_loop [4,25] (fun nv kv=>∃ k:Nat,k≤N∧kv=.int .i64 (k:Int)∧nv=.int .i64 (numV (l.take k):Int)∧Hid ((l.take k).all isDig=true)) (fun _ kv=>N-(intOf kv).toNat)
  case atStart=>exact ⟨0,Nat.zero_le _,rfl,rfl,rfl⟩
  case round=>
   obtain ⟨k,hk,rfl,rfl,HA⟩:=hrel;have n6:=N6.out;by_cases hlt:k<N
   rotate_left
   ·skip
    obtain rfl:k=N:=(by omega);have ET:Hid (l.take k=l):=List.take_of_length_le (by have:=hN.out;omega);have c1:¬ ((k:Int)<(k:Int)):=(by omega);have E0:Hid (R=some (numV l)):=by rw [Hid,← hR.out];have ha:=HA.out;rw [ET.out] at ha;exact if_neg (fun hb=>NBAD.out (by rcases hb with h|h|h|h;exact .inl h;exact .inr (.inl h);exact .inr (.inr h);rw [ha] at h;cases h))
    rw [ET.out];go_upto_region 5 with (fail);refine lbeg (opsOf Tryz.f119 5) ?_;refine lnow 0 (.bool (decide ((k:Int)<(k:Int)))) (some 26) ?_;rw [decide_eq_false c1];refine ldq 1 ?_;obtain ⟨V,hV⟩:∃ V,Hid (numV l=V):=⟨_,rfl⟩;rw [hV.out] at E0 ⊢;clear hR HA;go_wp2
    go_ret2
    exact ⟨by rw [E0.out];rfl,rfl⟩
   have c1:(k:Int)<(N:Int):=(by omega);obtain ⟨c,hc⟩:∃ c,Hid (l[k]?=some c):=⟨_,List.getElem?_eq_getElem (by rw [hN.out];exact hlt)⟩;obtain ⟨V,hV⟩:∃ V,Hid (numV (l.take k)=V):=⟨_,rfl⟩;rw [hV.out];go_upto_region 5 with (fail);refine lbeg (opsOf Tryz.f119 5) ?_;refine lnow 0 (.bool (decide ((k:Int)<(N:Int)))) (some 26) ?_;rw [decide_eq_true c1];refine ldq 1 ?_;go_upto_region 6 with (fail);refine lbeg (opsOf Tryz.f119 6) ?_;refine lnow 0 (.int .i64 (k:Int)) (some 27) ?_;refine lnow 1 (.int .i64 (k:Int)) (some 5) ?_;refine ldq 2 ?_;go_upto_region 7 with (fail);refine lbeg (opsOf Tryz.f119 7) ?_;refine lnow 0 (sT l) (some 28) ?_;refine lnow 1 (.int .i64 (k:Int)) (some 29) ?_;refine lnowP 2 (.int .u8 (c.toNat:Int)) (some 30) (exec_sIdx (.tmp 28) (.tmp 29) (by kernel_rfl) (l) (by kernel_rfl) (k) (by kernel_rfl) c hc.out) ?_;refine lcal 3 137 #[.int .u8 (c.toNat:Int)] (some 31) _ (xisdig_walk c _) ?_;rintro e w1 ⟨rfl,hw1⟩;obtain rfl:=hw1.symm;refine ⟨_,rfl,?_⟩;cases hb:isDig c with
   |false=>
    have E0:Hid (R=none):=(by rw [Hid,← hR.out];exact if_pos (.inr (.inr (.inr (all_false hc.out hb)))));refine lnow 4 (.bool true) (some 32) ?_;refine ldq 5 ?_;clear hb hR HA;go_wp2
    go_ret2
    exact ⟨by rw [E0.out];rfl,rfl⟩
   |true=>
    have EA:Hid ((l.take (k+1)).all isDig=true):=(by rw [Hid,take_snoc hc.out,List.all_append,HA.out];simp [hb]);have cb:48≤c.toNat∧c.toNat≤57:=(by unfold isDig at hb;simpa using hb);have EV:Hid (numV (l.take (k+1))=V*10+(c.toNat-48)):=(by rw [Hid,take_snoc hc.out,numV_snoc,hV.out]);have VB:V*10+(c.toNat-48)≤999999:=(by rw [← EV.out];exact numV_le (by rw [List.length_take];omega) EA.out);refine lnow 4 (.bool false) (some 32) ?_;refine ldq 5 ?_;clear hb HA;go_upto_region 9 with (fail);refine lbeg (opsOf Tryz.f119 9) ?_;refine lnow 0 (.int .i64 (V:Int)) (some 33) ?_;refine lnow 1 (.int .i64 (IntKind.i64.wrap ((V:Int)*10))) (some 34) ?_;rw [show IntKind.i64.wrap ((V:Int)*10)=(V:Int)*10 from IntWalk.i64_in _ (by omega)];refine lnow 2 (sT l) (some 35) ?_;refine lnow 3 (.int .i64 (k:Int)) (some 36) ?_;refine lnowP 4 (.int .u8 (c.toNat:Int)) (some 37) (exec_sIdx (.tmp 35) (.tmp 36) (by kernel_rfl) (l) (by kernel_rfl) (k) (by kernel_rfl) c hc.out) ?_;refine lnow 5 (.int .u8 (IntKind.u8.wrap ((c.toNat:Int)-48))) (some 38) ?_;rw [show IntKind.u8.wrap ((c.toNat:Int)-48)=(c.toNat:Int)-48 from u8w _ (by omega)];refine lnow 6 (.int .i64 (IntKind.i64.wrap ((c.toNat:Int)-48))) (some 39) ?_;rw [show IntKind.i64.wrap ((c.toNat:Int)-48)=(c.toNat:Int)-48 from IntWalk.i64_in _ (by omega)];refine lnow 7 (.int .i64 (IntKind.i64.wrap ((V:Int)*10+((c.toNat:Int)-48)))) (some 40) ?_
    rw [show IntKind.i64.wrap ((V:Int)*10+((c.toNat:Int)-48))=(V:Int)*10+((c.toNat:Int)-48) from IntWalk.i64_in _ (by omega)];refine lnow 8 (.int .i64 ((V:Int)*10+((c.toNat:Int)-48))) (some 4) ?_;refine ldq 9 ?_;clear hc hV;go_wp2
    go_round
    case rel=>exact ⟨k+1,by omega,by go_num,by rw [EV.out];congr 1;omega,EA⟩
    case measure=>simp [intOf];omega
 by_cases hz:(c.toNat:Int)=48
 ·have E0:Hid (R=none):=by rw [Hid,← hR.out];exact if_pos (.inr (.inr (.inl ⟨by have:=hN.out;omega,by rw [HH.out,show c=48 from by rw [← UInt8.toNat_inj];exact Int.ofNat.inj hz]⟩)))
  go_upto_region 1 with (fail);refine lbeg (opsOf Tryz.f119 1) ?_;refine lnow 0 (sT l) (some 6) ?_;refine lnowP 1 (.bool (decide (l=[]))) (some 7) (exec_sEq 9 9 (.tmp 6) (.const (.string ⟨#[]⟩)) (by kernel_rfl) l [] (by kernel_rfl) (by kernel_rfl) (fun _=>rfl)) ?_;rw [decide_eq_false he];refine lnow 2 (.bool false) (some 8) ?_;refine lnow 3 (sT l) (some 9) ?_;refine lnow 4 (.int .i64 (l.length:Int)) (some 10) ?_;rw [hN.out];refine lnow 5 (.bool (decide ((N:Int)>6))) (some 11) ?_;rw [decide_eq_false h6];refine lnow 6 (.bool false) (some 12) ?_;refine lnow 7 (.bool false) (some 13) ?_;refine lnow 8 (sT l) (some 14) ?_;refine lnow 9 (.int .i64 (l.length:Int)) (some 15) ?_;rw [hN.out];refine lnow 10 (.bool (decide ((N:Int)>1))) (some 16) ?_;rw [decide_eq_true h1];refine lnow 11 (.bool true) (some 17) ?_;refine lnow 12 (sT l) (some 18) ?_;refine lnowP 13 (.int .u8 (c.toNat:Int)) (some 19) (exec_sIdx (.tmp 18) (.const (.int .i64 0)) (by kernel_rfl) (l) (by kernel_rfl) (0) (by kernel_rfl) c HC.out) ?_;refine lnow 14 (.bool (decide ((c.toNat:Int)=48))) (some 20) ?_;rw [decide_eq_true hz];refine lnow 15 (.bool true) (some 21) ?_;refine lnow 16 (.bool true) (some 22) ?_;refine ldq 17 ?_;clear he hR;go_wp2
  go_ret2
  exact ⟨by rw [E0.out];rfl,rfl⟩
 have NBAD:Hid (¬ (l=[]∨6<l.length∨(1<l.length∧l.head?=some 48))):=(by rw [Hid];rintro (h|h|h);exact he h;(have:=hN.out;omega);(have h2:=h.2;rw [HH.out] at h2;have h3:=Option.some.inj h2;subst h3;exact hz rfl));go_upto_region 1 with (fail);refine lbeg (opsOf Tryz.f119 1) ?_;refine lnow 0 (sT l) (some 6) ?_;refine lnowP 1 (.bool (decide (l=[]))) (some 7) (exec_sEq 9 9 (.tmp 6) (.const (.string ⟨#[]⟩)) (by kernel_rfl) l [] (by kernel_rfl) (by kernel_rfl) (fun _=>rfl)) ?_;rw [decide_eq_false he];refine lnow 2 (.bool false) (some 8) ?_;refine lnow 3 (sT l) (some 9) ?_;refine lnow 4 (.int .i64 (l.length:Int)) (some 10) ?_;rw [hN.out];refine lnow 5 (.bool (decide ((N:Int)>6))) (some 11) ?_;rw [decide_eq_false h6];refine lnow 6 (.bool false) (some 12) ?_;refine lnow 7 (.bool false) (some 13) ?_;refine lnow 8 (sT l) (some 14) ?_;refine lnow 9 (.int .i64 (l.length:Int)) (some 15) ?_;rw [hN.out];refine lnow 10 (.bool (decide ((N:Int)>1))) (some 16) ?_;rw [decide_eq_true h1];refine lnow 11 (.bool true) (some 17) ?_;refine lnow 12 (sT l) (some 18) ?_;refine lnowP 13 (.int .u8 (c.toNat:Int)) (some 19) (exec_sIdx (.tmp 18) (.const (.int .i64 0)) (by kernel_rfl) (l) (by kernel_rfl) (0) (by kernel_rfl) c HC.out) ?_;refine lnow 14 (.bool (decide ((c.toNat:Int)=48))) (some 20) ?_;rw [decide_eq_false hz];refine lnow 15 (.bool false) (some 21) ?_;refine lnow 16 (.bool false) (some 22) ?_;refine ldq 17 ?_;clear h1 h6 hz
 go_upto_region 3 with (fail);refine lbeg (opsOf Tryz.f119 3) ?_;refine lnow 0 (.int .i64 0) (some 4) ?_;refine ldq 1 ?_;go_upto_region 4 with (fail);refine lbeg (opsOf Tryz.f119 4) ?_;refine lnow 0 (sT l) (some 23) ?_;refine lnow 1 (.int .i64 (l.length:Int)) (some 24) ?_;rw [hN.out];refine lnow 2 (.int .i64 0) (some 25) ?_;refine ldq 3 ?_;clear HC HH he;go_wp2
 go_loop [4,25] (fun nv kv=>∃ k:Nat,k≤N∧kv=.int .i64 (k:Int)∧nv=.int .i64 (numV (l.take k):Int)∧Hid ((l.take k).all isDig=true)) (fun _ kv=>N-(intOf kv).toNat)
 case atStart=>exact ⟨0,Nat.zero_le _,rfl,rfl,rfl⟩
 case round=>
  obtain ⟨k,hk,rfl,rfl,HA⟩:=hrel;have n6:=N6.out;by_cases hlt:k<N
  rotate_left
  ·skip
   obtain rfl:k=N:=(by omega);have ET:Hid (l.take k=l):=List.take_of_length_le (by have:=hN.out;omega);have c1:¬ ((k:Int)<(k:Int)):=(by omega);have E0:Hid (R=some (numV l)):=by rw [Hid,← hR.out];have ha:=HA.out;rw [ET.out] at ha;exact if_neg (fun hb=>NBAD.out (by rcases hb with h|h|h|h;exact .inl h;exact .inr (.inl h);exact .inr (.inr h);rw [ha] at h;cases h))
   rw [ET.out];go_upto_region 5 with (fail);refine lbeg (opsOf Tryz.f119 5) ?_;refine lnow 0 (.bool (decide ((k:Int)<(k:Int)))) (some 26) ?_;rw [decide_eq_false c1];refine ldq 1 ?_;obtain ⟨V,hV⟩:∃ V,Hid (numV l=V):=⟨_,rfl⟩;rw [hV.out] at E0 ⊢;clear hR HA;go_wp2
   go_ret2
   exact ⟨by rw [E0.out];rfl,rfl⟩
  have c1:(k:Int)<(N:Int):=(by omega);obtain ⟨c,hc⟩:∃ c,Hid (l[k]?=some c):=⟨_,List.getElem?_eq_getElem (by rw [hN.out];exact hlt)⟩;obtain ⟨V,hV⟩:∃ V,Hid (numV (l.take k)=V):=⟨_,rfl⟩;rw [hV.out];go_upto_region 5 with (fail);refine lbeg (opsOf Tryz.f119 5) ?_;refine lnow 0 (.bool (decide ((k:Int)<(N:Int)))) (some 26) ?_;rw [decide_eq_true c1];refine ldq 1 ?_;go_upto_region 6 with (fail);refine lbeg (opsOf Tryz.f119 6) ?_;refine lnow 0 (.int .i64 (k:Int)) (some 27) ?_;refine lnow 1 (.int .i64 (k:Int)) (some 5) ?_;refine ldq 2 ?_;go_upto_region 7 with (fail);refine lbeg (opsOf Tryz.f119 7) ?_;refine lnow 0 (sT l) (some 28) ?_;refine lnow 1 (.int .i64 (k:Int)) (some 29) ?_;refine lnowP 2 (.int .u8 (c.toNat:Int)) (some 30) (exec_sIdx (.tmp 28) (.tmp 29) (by kernel_rfl) (l) (by kernel_rfl) (k) (by kernel_rfl) c hc.out) ?_;refine lcal 3 137 #[.int .u8 (c.toNat:Int)] (some 31) _ (xisdig_walk c _) ?_;rintro e w1 ⟨rfl,hw1⟩;obtain rfl:=hw1.symm;refine ⟨_,rfl,?_⟩;cases hb:isDig c with
  |false=>
   have E0:Hid (R=none):=(by rw [Hid,← hR.out];exact if_pos (.inr (.inr (.inr (all_false hc.out hb)))));refine lnow 4 (.bool true) (some 32) ?_;refine ldq 5 ?_;clear hb hR HA;go_wp2
   go_ret2
   exact ⟨by rw [E0.out];rfl,rfl⟩
  |true=>
   have EA:Hid ((l.take (k+1)).all isDig=true):=(by rw [Hid,take_snoc hc.out,List.all_append,HA.out];simp [hb]);have cb:48≤c.toNat∧c.toNat≤57:=(by unfold isDig at hb;simpa using hb);have EV:Hid (numV (l.take (k+1))=V*10+(c.toNat-48)):=(by rw [Hid,take_snoc hc.out,numV_snoc,hV.out]);have VB:V*10+(c.toNat-48)≤999999:=(by rw [← EV.out];exact numV_le (by rw [List.length_take];omega) EA.out);refine lnow 4 (.bool false) (some 32) ?_;refine ldq 5 ?_;clear hb HA;go_upto_region 9 with (fail);refine lbeg (opsOf Tryz.f119 9) ?_;refine lnow 0 (.int .i64 (V:Int)) (some 33) ?_;refine lnow 1 (.int .i64 (IntKind.i64.wrap ((V:Int)*10))) (some 34) ?_;rw [show IntKind.i64.wrap ((V:Int)*10)=(V:Int)*10 from IntWalk.i64_in _ (by omega)];refine lnow 2 (sT l) (some 35) ?_;refine lnow 3 (.int .i64 (k:Int)) (some 36) ?_;refine lnowP 4 (.int .u8 (c.toNat:Int)) (some 37) (exec_sIdx (.tmp 35) (.tmp 36) (by kernel_rfl) (l) (by kernel_rfl) (k) (by kernel_rfl) c hc.out) ?_;refine lnow 5 (.int .u8 (IntKind.u8.wrap ((c.toNat:Int)-48))) (some 38) ?_;rw [show IntKind.u8.wrap ((c.toNat:Int)-48)=(c.toNat:Int)-48 from u8w _ (by omega)];refine lnow 6 (.int .i64 (IntKind.i64.wrap ((c.toNat:Int)-48))) (some 39) ?_;rw [show IntKind.i64.wrap ((c.toNat:Int)-48)=(c.toNat:Int)-48 from IntWalk.i64_in _ (by omega)];refine lnow 7 (.int .i64 (IntKind.i64.wrap ((V:Int)*10+((c.toNat:Int)-48)))) (some 40) ?_
   rw [show IntKind.i64.wrap ((V:Int)*10+((c.toNat:Int)-48))=(V:Int)*10+((c.toNat:Int)-48) from IntWalk.i64_in _ (by omega)];refine lnow 8 (.int .i64 ((V:Int)*10+((c.toNat:Int)-48))) (some 4) ?_;refine ldq 9 ?_;clear hc hV;go_wp2
   go_round
   case rel=>exact ⟨k+1,by omega,by go_num,by rw [EV.out];congr 1;omega,EA⟩
   case measure=>simp [intOf];omega
set_option maxHeartbeats 2000000 in
theorem xnum_walk (c:UInt8) (r:List UInt8) (l:List UInt8) (el:l=c::r) (hl:l.length≤1000000) (w:World):Calls Tryz.prog 107 #[sT l] w fun e w'=>e=.returned (.int .i64 (numLx l:Int))∧w'=w:=by
 have HL:=hZ hl;have HC:Hid (l[0]?=some c):=(by rw [Hid,el];rfl);have EL:=hZ el;clear el hl;obtain ⟨n,hn⟩:∃ n,Hid (runL isDig l=n):=⟨_,rfl⟩;have NL:Hid (n≤l.length):=(by rw [Hid,← hn.out];exact runL_le _ _);obtain ⟨R,hR⟩:∃ R,Hid (numLx l=R):=⟨_,rfl⟩;rw [hR.out];have ER:Hid (R=if (numO (l.take n)).isSome=true then n else 0):=(by rw [Hid,← hR.out,numLx,hn.out]);clear EL HC
 go_enter Tryz.func107,Tryz.ntmps107
 go_upto_region 0 with (fail);refine lbeg (opsOf Tryz.f107 0) ?_;refine lnow 0 (.int .i64 0) (some 2) ?_;refine ldq 1 ?_;go_upto_region 1 with (fail);refine lbeg (opsOf Tryz.f107 1) ?_;refine lnow 0 (sT l) (some 6) ?_;refine lcal 1 111 #[sT l,.func (.func 137) #[] #[]] (some 7) _ (xrun_walk 137 isDig (enters_of Tryz.func137 (by kernel_rfl) rfl) xisdig_walk l HL.out _) ?_;rintro e w1 ⟨rfl,hw1⟩;obtain rfl:=hw1.symm;refine ⟨_,rfl,?_⟩;rw [hn.out];refine lnow 2 (.int .i64 (n:Int)) (some 3) ?_;refine ldq 3 ?_;go_upto_region 2 with (fail);refine lbeg (opsOf Tryz.f107 2) ?_;refine lnow 0 (sT l) (some 9) ?_;refine lnow 1 (.int .i64 (n:Int)) (some 10) ?_;refine lnowP 2 (sT (l.take n)) (some 11) (exec_of (Instr.sliceAt 9 (sT l) none (some (.int .i64 (n:Int))) none) _ (by kernel_rfl) (run_sTo l n NL.out _)) ?_;refine lcal 3 119 #[sT (l.take n)] (some 12) _ (xnumber_walk (l.take n) _) ?_;rintro e w1 ⟨rfl,hw1⟩;obtain rfl:=hw1.symm;refine ⟨_,rfl,?_⟩;generalize numO (l.take n)=oo at ER ⊢;refine lnow 4 (.tuple #[.int .i64 ((oo.getD 0:Nat):Int),.bool oo.isSome]) (some 8) ?_;refine lnow 5 (.int .i64 ((oo.getD 0:Nat):Int)) (some 13) ?_;refine lnow 6 (.bool oo.isSome) (some 14) ?_;refine lnow 7 (.int .i64 ((oo.getD 0:Nat):Int)) (some 4) ?_;refine lnow 8 (.bool oo.isSome) (some 5) ?_;refine ldq 9 ?_;cases oo with
 |none=>
  have E0:Hid (R=0):=ER.out;clear ER hR;go_wp2;go_ret;exact ⟨by rw [E0.out];rfl,rfl⟩
 |some v=>
  have E0:Hid (R=n):=ER.out;clear ER hR;go_wp2;go_ret;exact ⟨by rw [E0.out];rfl,rfl⟩
set_option maxHeartbeats 2000000 in
theorem xsign_walk (c:UInt8) (r:List UInt8) (l:List UInt8) (el:l=c::r) (hl:l.length≤1000000) (w:World):Calls Tryz.prog 108 #[sT l] w fun e w'=>e=.returned (.int .i64 (signL l:Int))∧w'=w:=by
 have HL:=hZ hl;have HC:Hid (l[0]?=some c):=(by rw [Hid,el];rfl);have EL:=hZ el;clear el hl;obtain ⟨R,hR⟩:∃ R,Hid (signL l=R):=⟨_,rfl⟩;rw [hR.out];have EW:Hid (R=if Lib.hasPrefix l [58,61]=true then 2 else if 0≤Lib.indexByte signs12 c then 1 else 0):=by rw [Hid,← hR.out,EL.out,signL]
 go_enter Tryz.func108,Tryz.ntmps108
 go_upto_region 0 with (fail);refine lbeg (opsOf Tryz.f108 0) ?_;refine lnow 0 (.int .i64 0) (some 2) ?_;refine ldq 1 ?_;go_upto_region 1 with (fail);refine lbeg (opsOf Tryz.f108 1) ?_;refine lnow 0 (sT l) (some 4) ?_;refine lcal 1 110 #[sT l,sT [58,61]] (some 5) _ (sprefix_walk l [58,61] _) ?_;rintro e w1 ⟨rfl,hw1⟩;obtain rfl:=hw1.symm;refine ⟨_,rfl,?_⟩;cases hb:Lib.hasPrefix l [58,61] with
 |true=>
  have E0:Hid (R=2):=(by rw [Hid,EW.out,hb];rfl);refine lnow 2 (.bool true) (some 3) ?_;refine ldq 3 ?_;clear hb EW hR;go_wp2;go_ret;exact ⟨by rw [E0.out];rfl,rfl⟩
 |false=>
  refine lnow 2 (.bool false) (some 3) ?_;refine ldq 3 ?_;go_upto_region 3 with (fail);refine lbeg (opsOf Tryz.f108 3) ?_;refine lnow 0 (sT l) (some 7) ?_;refine lnowP 1 (.int .u8 (c.toNat:Int)) (some 8) (exec_sIdx (.tmp 7) (.const (.int .i64 0)) (by kernel_rfl) (l) (by kernel_rfl) (0) (by kernel_rfl) c HC.out) ?_;refine lcal 2 138 #[sT signs12,.int .u8 (c.toNat:Int)] (some 9) _ (sidxb_walk signs12 c _) ?_;rintro e w1 ⟨rfl,hw1⟩;obtain rfl:=hw1.symm;refine ⟨_,rfl,?_⟩;obtain ⟨x,hx⟩:∃ x,Hid (Lib.indexByte signs12 c=x):=⟨_,rfl⟩;rw [hx.out];refine lnow 3 (.bool (decide (x≥0))) (some 10) ?_;by_cases h0:x≥0
  ·have E0:Hid (R=1):=by rw [Hid,EW.out,hb,if_neg (by simp),hx.out,if_pos h0]
   rw [decide_eq_true h0];refine lnow 4 (.bool true) (some 6) ?_;refine ldq 5 ?_;clear hb EW hR;go_wp2;go_ret;exact ⟨by rw [E0.out];rfl,rfl⟩
  ·have E0:Hid (R=0):=by rw [Hid,EW.out,hb,if_neg (by simp),hx.out,if_neg h0]
   rw [decide_eq_false h0];refine lnow 4 (.bool false) (some 6) ?_;refine ldq 5 ?_;clear hb EW hR;go_wp2;go_ret;exact ⟨by rw [E0.out];rfl,rfl⟩
set_option maxHeartbeats 2000000 in
theorem xgap_walk (c:UInt8) (r:List UInt8) (l:List UInt8) (el:l=c::r) (hl:l.length≤1000000) (w:World):Calls Tryz.prog 85 #[sT l] w fun e w'=>e=.returned (.int .i64 (gapL l:Int))∧w'=w:=by
 have HL:=hZ hl;have HC:Hid (l[0]?=some c):=(by rw [Hid,el];rfl);have EL:=hZ el;clear el hl;obtain ⟨R,hR⟩:∃ R,Hid (gapL l=R):=⟨_,rfl⟩;rw [hR.out];have EW:Hid (R=if Lib.hasPrefix l [45,45]=true then runL inC l else if c=32∨c=10 then 1 else 0):=by rw [Hid,← hR.out,EL.out,gapL]
 go_enter Tryz.func85,Tryz.ntmps85
 go_upto_region 0 with (fail);refine lbeg (opsOf Tryz.f85 0) ?_;refine lnow 0 (.int .i64 0) (some 2) ?_;refine ldq 1 ?_;go_upto_region 1 with (fail);refine lbeg (opsOf Tryz.f85 1) ?_;refine lnow 0 (sT l) (some 4) ?_;refine lcal 1 110 #[sT l,sT [45,45]] (some 5) _ (sprefix_walk l [45,45] _) ?_;rintro e w1 ⟨rfl,hw1⟩;obtain rfl:=hw1.symm;refine ⟨_,rfl,?_⟩;cases hb:Lib.hasPrefix l [45,45] with
 |true=>
  have E0:Hid (runL inC l=R):=(by rw [Hid,EW.out,hb];rfl);refine lnow 2 (.bool true) (some 3) ?_;refine ldq 3 ?_;clear hb EW hR;go_upto_region 2 with (fail);refine lbeg (opsOf Tryz.f85 2) ?_;refine lnow 0 (sT l) (some 6) ?_;refine lcal 1 111 #[sT l,.func (.func 112) #[] #[]] (some 7) _ (xrun_walk 112 inC (enters_of Tryz.func112 (by kernel_rfl) rfl) xincom_walk l HL.out _) ?_;rintro e w1 ⟨rfl,hw1⟩;obtain rfl:=hw1.symm;refine ⟨_,rfl,?_⟩;rw [E0.out];refine lnow 2 (.int .i64 (R:Int)) (some 2) ?_;refine ldq 3 ?_;go_wp2;go_ret;exact ⟨rfl,rfl⟩
 |false=>
  refine lnow 2 (.bool false) (some 3) ?_;refine ldq 3 ?_;go_upto_region 3 with (fail);refine lbeg (opsOf Tryz.f85 3) ?_;refine lnow 0 (sT l) (some 9) ?_;refine lnowP 1 (.int .u8 (c.toNat:Int)) (some 10) (exec_sIdx (.tmp 9) (.const (.int .i64 0)) (by kernel_rfl) (l) (by kernel_rfl) (0) (by kernel_rfl) c HC.out) ?_;refine lnow 2 (.bool (decide ((c.toNat:Int)=32))) (some 11) ?_;by_cases h1:(c.toNat:Int)=32
  ·have E0:Hid (R=1):=by rw [Hid,EW.out,hb,if_neg (by simp),if_pos (.inl (by rw [← UInt8.toNat_inj];exact Int.ofNat.inj h1))]
   rw [decide_eq_true h1];refine lnow 3 (.bool true) (some 12) ?_;refine lpas 4 (some 13) ?_;refine lpas 5 (some 14) ?_;refine lpas 6 (some 15) ?_;refine lnow 7 (.bool true) (some 16) ?_;refine lnow 8 (.bool true) (some 8) ?_;refine ldq 9 ?_;clear hb EW hR h1;go_wp2;go_ret;exact ⟨by rw [E0.out];rfl,rfl⟩
  rw [decide_eq_false h1];refine lnow 3 (.bool false) (some 12) ?_;refine lnow 4 (sT l) (some 13) ?_;refine lnowP 5 (.int .u8 (c.toNat:Int)) (some 14) (exec_sIdx (.tmp 13) (.const (.int .i64 0)) (by kernel_rfl) (l) (by kernel_rfl) (0) (by kernel_rfl) c HC.out) ?_;refine lnow 6 (.bool (decide ((c.toNat:Int)=10))) (some 15) ?_;by_cases h2:(c.toNat:Int)=10
  ·have E0:Hid (R=1):=by rw [Hid,EW.out,hb,if_neg (by simp),if_pos (.inr (by rw [← UInt8.toNat_inj];exact Int.ofNat.inj h2))]
   rw [decide_eq_true h2];refine lnow 7 (.bool true) (some 16) ?_;refine lnow 8 (.bool true) (some 8) ?_;refine ldq 9 ?_;clear hb EW hR h1 h2;go_wp2;go_ret;exact ⟨by rw [E0.out];rfl,rfl⟩
  ·have E0:Hid (R=0):=by rw [Hid,EW.out,hb,if_neg (by simp),if_neg (by rintro (rfl|rfl);exact h1 rfl;exact h2 rfl)]
   rw [decide_eq_false h2];refine lnow 7 (.bool false) (some 16) ?_;refine lnow 8 (.bool false) (some 8) ?_;refine ldq 9 ?_;clear hb EW hR h1 h2;go_wp2;go_ret;exact ⟨by rw [E0.out];rfl,rfl⟩
set_option maxHeartbeats 2000000 in
theorem xlength1 (c:UInt8) (r:List UInt8) (l:List UInt8) (el:l=c::r) (hl:l.length≤1000000) (w:World):Calls Tryz.prog 83 #[.int .i64 1,sT l] w fun e w'=>e=.returned (.int .i64 (wordL l:Int))∧w'=w:=by
 have CW:=xword_walk c r l el hl;generalize wordL l=R at CW ⊢;clear el hl
 go_enter Tryz.func83,Tryz.ntmps83
 go_upto_region 0 with (fail);refine lbeg (opsOf Tryz.f83 0) ?_;refine lnow 0 (.int .i64 0) (some 4) ?_;refine ldq 1 ?_;go_upto_region 1 with (fail);refine lbeg (opsOf Tryz.f83 1) ?_;refine lnow 0 (.int .i64 1) (some 5) ?_;refine ldq 1 ?_;go_upto_region 4 with (fail);refine lbeg (opsOf Tryz.f83 4) ?_;refine lnow 0 (sT l) (some 10) ?_;refine lcal 1 106 #[sT l] (some 11) _ (CW _) ?_;rintro e w1 ⟨rfl,hw1⟩;obtain rfl:=hw1.symm;refine ⟨_,rfl,?_⟩;refine lnow 2 (.int .i64 (R:Int)) (some 4) ?_;refine ldq 3 ?_;go_wp2;go_ret;exact ⟨rfl,rfl⟩
set_option maxHeartbeats 2000000 in
theorem xlength2 (c:UInt8) (r:List UInt8) (l:List UInt8) (el:l=c::r) (hl:l.length≤1000000) (w:World):Calls Tryz.prog 83 #[.int .i64 2,sT l] w fun e w'=>e=.returned (.int .i64 (numLx l:Int))∧w'=w:=by
 have CW:=xnum_walk c r l el hl;generalize numLx l=R at CW ⊢;clear el hl
 go_enter Tryz.func83,Tryz.ntmps83
 go_upto_region 0 with (fail);refine lbeg (opsOf Tryz.f83 0) ?_;refine lnow 0 (.int .i64 0) (some 4) ?_;refine ldq 1 ?_;go_upto_region 1 with (fail);refine lbeg (opsOf Tryz.f83 1) ?_;refine lnow 0 (.int .i64 2) (some 5) ?_;refine ldq 1 ?_;go_upto_region 6 with (fail);refine lbeg (opsOf Tryz.f83 6) ?_;refine lnow 0 (sT l) (some 14) ?_;refine lcal 1 107 #[sT l] (some 15) _ (CW _) ?_;rintro e w1 ⟨rfl,hw1⟩;obtain rfl:=hw1.symm;refine ⟨_,rfl,?_⟩;refine lnow 2 (.int .i64 (R:Int)) (some 4) ?_;refine ldq 3 ?_;go_wp2;go_ret;exact ⟨rfl,rfl⟩
set_option maxHeartbeats 2000000 in
theorem xlength3 (c:UInt8) (r:List UInt8) (l:List UInt8) (el:l=c::r) (hl:l.length≤1000000) (w:World):Calls Tryz.prog 83 #[.int .i64 3,sT l] w fun e w'=>e=.returned (.int .i64 (signL l:Int))∧w'=w:=by
 have CW:=xsign_walk c r l el hl;generalize signL l=R at CW ⊢;clear el hl
 go_enter Tryz.func83,Tryz.ntmps83
 go_upto_region 0 with (fail);refine lbeg (opsOf Tryz.f83 0) ?_;refine lnow 0 (.int .i64 0) (some 4) ?_;refine ldq 1 ?_;go_upto_region 1 with (fail);refine lbeg (opsOf Tryz.f83 1) ?_;refine lnow 0 (.int .i64 3) (some 5) ?_;refine ldq 1 ?_;go_upto_region 2 with (fail);refine lbeg (opsOf Tryz.f83 2) ?_;refine lnow 0 (sT l) (some 6) ?_;refine lcal 1 108 #[sT l] (some 7) _ (CW _) ?_;rintro e w1 ⟨rfl,hw1⟩;obtain rfl:=hw1.symm;refine ⟨_,rfl,?_⟩;refine lnow 2 (.int .i64 (R:Int)) (some 4) ?_;refine ldq 3 ?_;go_wp2;go_ret;exact ⟨rfl,rfl⟩
end Go.Proofs.YtmceocgddaaohaaGreatDoor
namespace Go.Proofs.YtmceocgddaaohaaGreatDoor
open Go Go.RowKit
set_option maxRecDepth 100000
def tkC (x:Tk):List Value:=[.int .i64 (x.k:Int),sT x.t,.int .i64 (x.p:Int)]
def tksC (ts:List Tk):List Value:=ts.flatMap tkC
theorem tksC_snoc (ts:List Tk) (x:Tk):tksC (ts++[x])=tksC ts++tkC x:=by unfold tksC;rw [List.flatMap_append];simp
def OwnX (ty:TypeId) (q:Nat) (w:World) (v:Value) (ts:List Tk):Prop:=w.ownsRow q ty 3 v ts.length (tksC ts)
theorem OwnX.nil (ty:TypeId) (q:Nat) (w:World):OwnX ty q w (.slice none 0 0) []:=⟨rfl,.inl ⟨rfl,rfl⟩⟩
theorem OwnX.below {ty:TypeId} {q:Nat} {w w':World} {v:Value} {ts:List Tk} (h:OwnX ty q w v ts) (hb:Below w.heap.size w w'):OwnX ty q w' v ts:=own_step (F:=[]) (F':=[]) h (Step.of_below hb (Nat.le_refl _)) (fun g _=>by simp)
theorem OwnX.slice {ty:TypeId} {q:Nat} {w:World} {v:Value} {ts:List Tk} (h:OwnX ty q w v ts):∃ a c,v=.slice a ts.length c:=by
 rcases h.2 with ⟨h1,h2⟩|⟨g,cap,cur,h1,_⟩
 ·exact ⟨none,0,by rw [h1,h2]⟩
 ·exact ⟨_,_,h1⟩
section
variable {ops:Array Oper} {Q:Exit→Act→World→Prop} {a:Act} {w:World}
theorem lin_tok (ty sty : TypeId) (hinfo : (Tryz.prog.info? ty).map (fun i => (i.zero, i.size, i.bytes)) = some (some (.agg #[.int .i64 0, .string ⟨#[]⟩, .int .i64 0]), 3, 32)) (hund : Tryz.prog.underlying sty = some (.slice ty))
    (hmk:∀ (x:Tk) (w:World),(Instr.buildSlice sty 1 #[(0,.agg (tkC x).toArray)]).run Tryz.prog w=.ok (.slice (some ⟨w.heap.size,0,none⟩) 1 1) (w.alloc (.cells (tkC x).toArray ty)))
    (i:Nat) (d1 d2:Option Tmp) (x:Tk) (v:Value) (ts:List Tk) (m:Nat) (h:OwnX ty m w v ts) (hn:ts.length≤1000000) (hm:m≤w.heap.size)
    (hi:(ops[i]?.isSome&&Region.wanted (opAt ops i) (yielded ops a.tmps))=true) (hd:(opAt ops i).dst=d1) (hr1:execOp a.eval (opAt ops i)=(Instr.buildSlice sty 1 #[(0,.agg (tkC x).toArray)] >>= fun x=>pure (.value x)))
    (hk:∀ q:Nat,(ops[i+1]?.isSome&&Region.wanted (opAt ops (i+1)) (yielded ops (a.put d1 (.slice (some ⟨q,0,none⟩) 1 1)).tmps))=true) (hd2:(opAt ops (i+1)).dst=d2)
    (hr2:∀ q:Nat,execOp (a.put d1 (.slice (some ⟨q,0,none⟩) 1 1)).eval (opAt ops (i+1))=(Builtin.append_ #[sty,sty] sty #[v,.slice (some ⟨q,0,none⟩) 1 1] >>= fun x=>pure (.value x)))
    (hq:∀ (q:Nat) v' w',OwnX ty m w' v' (ts++[x])→Below m w w'→wpFrom Tryz.prog ops Q (i+1+1) ((a.put d1 (.slice (some ⟨q,0,none⟩) 1 1)).put d2 v') w'):wpFrom Tryz.prog ops Q i a w:=by
 obtain ⟨i0,hi0,hz0,hz1,hz2⟩:=info_parts hinfo;have hb:Below w.heap.size w (w.alloc (.cells (tkC x).toArray ty)):=(Below.refl _ _).alloc (Nat.le_refl _) _;refine lin_value i (.slice (some ⟨w.heap.size,0,none⟩) 1 1) d1 (w.alloc (.cells (tkC x).toArray ty)) hi hd (exec_of _ _ hr1 (hmk x w)) ?_;have hblk:Blk (w.alloc (.cells (tkC x).toArray ty)) w.heap.size ty (tkC x):=Blk.new w ty (tkC x);obtain ⟨v',w',e1,e2,e3,-,-⟩:=run_append_own_at (w.alloc (.cells (tkC x).toArray ty)) m sty sty ty i0 _ 3 32 hund hi0 hz0 hz1 hz2 (by rfl) (by decide) v ts.length (tksC ts) (h.below hb) ⟨w.heap.size,0,none⟩ 1 1 (tkC x) rfl (fun j u hj=>by rw [Addr.add_mid,Nat.zero_add];have:=hblk.whole j u hj;rw [Nat.zero_add] at this;exact this)
  (fun u hu=>by simp only [tkC,List.mem_cons,List.not_mem_nil,or_false] at hu;rcases hu with rfl|rfl|rfl<;>rfl) (by unfold maxLen;omega) (by omega) (Nat.le_trans hm hb.size)
 refine lin_value (i+1) v' d2 w' (hk _) hd2 (exec_of _ _ (hr2 _) e1) (hq _ v' w' ?_ ?_)
 ·unfold OwnX
  rw [List.length_append,tksC_snoc];exact e2
 ·exact (hb.mono hm).grown e3 (Nat.le_trans hm hb.size) (fun k hk=>(h.lt k hk).1)
end
theorem infoTok:(Tryz.prog.info? 116).map (fun i=>(i.zero,i.size,i.bytes))=some (some (.agg #[.int .i64 0,.string ⟨#[]⟩,.int .i64 0]),3,32):=by kernel_rfl
theorem mkTok (x:Tk) (w:World):(Instr.buildSlice 109 1 #[(0,.agg (tkC x).toArray)]).run Tryz.prog w=.ok (.slice (some ⟨w.heap.size,0,none⟩) 1 1) (w.alloc (.cells (tkC x).toArray 116)):=by kernel_rfl
def lenL (k:Nat) (l:List UInt8):Nat:=if k=1 then wordL l else if k=2 then numLx l else signL l
theorem tok_of_len {l:List UInt8} {j:Nat} (h:∀ i,1≤i→i<j→lenL i l=0) (h1:1≤j) (h3:j≤3) (hp:0<lenL j l):tokAt l=some (j,lenL j l):=by
 unfold tokAt;obtain rfl|rfl|rfl:j=1∨j=2∨j=3:=by omega
 ·exact if_pos hp
 ·have e1:wordL l=0:=h 1 (by omega) (by omega)
  rw [if_neg (by omega)];exact if_pos hp
 ·have e1:wordL l=0:=h 1 (by omega) (by omega)
  have e2:numLx l=0:=h 2 (by omega) (by omega);rw [if_neg (by omega),if_neg (by omega)];exact if_pos hp
theorem tok_of_none {l:List UInt8} (h:∀ i,1≤i→i<4→lenL i l=0):tokAt l=none:=by
 have e1:wordL l=0:=h 1 (by omega) (by omega);have e2:numLx l=0:=h 2 (by omega) (by omega);have e3:signL l=0:=h 3 (by omega) (by omega);unfold tokAt;rw [if_neg (by omega),if_neg (by omega),if_neg (by omega)]
theorem xlength_walk (c:UInt8) (r:List UInt8) (l:List UInt8) (el:l=c::r) (hl:l.length≤1000000) (j:Nat) (h1:1≤j) (h3:j≤3) (w:World):Calls Tryz.prog 83 #[.int .i64 (j:Int),sT l] w fun e w'=>e=.returned (.int .i64 (lenL j l:Int))∧w'=w:=by
 obtain rfl|rfl|rfl:j=1∨j=2∨j=3:=by omega
 ·exact xlength1 c r l el hl w
 ·exact xlength2 c r l el hl w
 ·exact xlength3 c r l el hl w
theorem lenL_le (j:Nat) (l:List UInt8):lenL j l≤l.length:=by
 unfold lenL
 split
 ·exact wordL_le l
 ·split
  ·exact numLx_le l
  ·exact signL_le l
set_option maxHeartbeats 2000000 in
theorem xsclone_walk (l:List UInt8) (hl:l.length≤1000000) (w:World):Calls Tryz.prog 84 #[sT l] w fun e w'=>e=.returned (sT l)∧Below w.heap.size w w':=by
 have C:=Tryz.stringslite_Clone ⟨l.toArray⟩ w (by show l.length≤_;omega);clear hl
 go_enter Tryz.func84,Tryz.ntmps84
 go_wp2_with (go_at_call 109;refine C.mono ?_;rintro e w' ⟨rfl,hb⟩)
 go_ret;exact ⟨rfl,hb⟩
def ScanPost (ty:TypeId) (l:List UInt8) (w:World) (e:Ending) (w':World):Prop:=∃ v,e=.returned (.tuple #[v,.int .i64 ((scanR l).2.1:Int),.int .i64 ((scanR l).2.2:Int)])∧OwnX ty w.heap.size w' v (scanR l).1∧Below w.heap.size w w'
theorem scanR_many {l:List UInt8} (h:65536<l.length):scanR l=([],0,14):=by unfold scanR;rw [if_pos h]
theorem scanR_ok {l:List UInt8} {ts:List Tk} (h:¬ 65536<l.length) (hs:scanS l 0=.ok ts):scanR l=(ts,0,0):=by unfold scanR;rw [if_neg h,hs]
theorem scanR_bad {l:List UInt8} {p:Nat} (h:¬ 65536<l.length) (hs:scanS l 0=.error p):scanR l=([],p,10):=by unfold scanR;rw [if_neg h,hs]
set_option maxHeartbeats 4000000 in
theorem xscan_walk (l:List UInt8) (w:World):Calls Tryz.prog 53 #[sT l] w (ScanPost 116 l w):=by
 obtain ⟨q,hq⟩:∃ q,Hid (w.heap.size=q):=⟨_,rfl⟩;obtain ⟨N,hN⟩:∃ N,Hid (l.length=N):=⟨_,rfl⟩;obtain ⟨⟨rt,rp,re⟩,hR⟩:∃ R,Hid (scanR l=R):=⟨_,rfl⟩;unfold ScanPost;rw [hq.out,hR.out];dsimp only
 go_enter Tryz.func53,Tryz.ntmps53
 go_upto_region 0 with (fail);refine lbeg (opsOf Tryz.f53 0) ?_;refine lnow 0 (.slice none 0 0) (some 2) ?_;refine lnow 1 (.int .i64 0) (some 3) ?_;refine lnow 2 (.int .i64 0) (some 4) ?_;refine ldq 3 ?_;go_wp2
 go_step3
 by_cases hm:(N:Int)>65536
 ·have E:=hR.out.symm.trans (scanR_many (l:=l) (by have:=hN.out;omega))
  simp only [Prod.mk.injEq] at E;obtain ⟨rfl,rfl,rfl⟩:=E;clear hR;go_upto_region 1 with (fail);refine lbeg (opsOf Tryz.f53 1) ?_;refine lnow 0 (sT l) (some 10) ?_;refine lnow 1 (.int .i64 (l.length:Int)) (some 11) ?_;rw [hN.out];refine lnow 2 (.bool (decide ((N:Int)>65536))) (some 12) ?_;rw [decide_eq_true (hm)];refine ldq 3 ?_;go_wp2
  try rw [Exit.noGoto_ret]
  refine bodyPost_ret (v:=.tuple #[.slice none 0 0,.int .i64 0,.int .i64 14]) (by kernel_rfl) rfl ⟨_,rfl,OwnX.nil _ _ _,Below.refl _ _⟩
 go_upto_region 1 with (fail);refine lbeg (opsOf Tryz.f53 1) ?_;refine lnow 0 (sT l) (some 10) ?_;refine lnow 1 (.int .i64 (l.length:Int)) (some 11) ?_;rw [hN.out];refine lnow 2 (.bool (decide ((N:Int)>65536))) (some 12) ?_;rw [decide_eq_false (hm)];refine ldq 3 ?_;have NM:Hid (¬ 65536<l.length):=(by have:=hN.out;rw [Hid];omega);have NB:Hid (N≤65536):=(by have:=hN.out;rw [Hid];omega);clear hm;go_upto_region 3 with (fail);refine lbeg (opsOf Tryz.f53 3) ?_;refine lnow 0 (.slice none 0 0) (some 5) ?_;refine ldq 1 ?_;go_upto_region 4 with (fail);refine lbeg (opsOf Tryz.f53 4) ?_;refine lnow 0 (.int .i64 0) (some 6) ?_;refine ldq 1 ?_;go_wp2
 go_step3
 go_wp2
 go_loopg [5,6] N (fun gn lv kv wr=>∃ (k:Nat) (ts:List Tk) (lz:Value),lz=lv∧k+gn=N∧kv=.int .i64 (k:Int)∧Hid (ts.length≤k)∧Hid (OwnX 116 q wr lz ts)∧Hid (Below q w wr)∧Hid (scanS l 0=preR ts (scanS (l.drop k) k)))
 case atStart=>exact ⟨0,[],_,rfl,Nat.zero_add _,rfl,Nat.zero_le _,OwnX.nil _ _ _,by rw [Hid,← hq.out];exact Below.refl _ _,by rw [Hid,preR_nil,List.drop_zero]⟩
 case round=>
  obtain ⟨k,ts,lv,hlz,hgk,rfl,TL,OW,BE,SC⟩:=hrel;subst hlz;have nb:=NB.out;obtain ⟨wo,hwo⟩:∃ y,y=wr:=⟨_,rfl⟩;subst hwo;have QW:Hid (q≤wo.heap.size):=(by rw [Hid,← hq.out];have:=BE.out.size;exact this);by_cases hlt:(k:Int)<(N:Int)
  rotate_left
  ·skip
   obtain rfl:k=N:=(by omega);have E:=hR.out.symm.trans (scanR_ok (ts:=ts) NM.out (by rw [SC.out,List.drop_eq_nil_of_le (by have:=hN.out;omega),scanS_nil];simp [preR]));simp only [Prod.mk.injEq] at E;obtain ⟨rfl,rfl,rfl⟩:=E;have FIN:Hid (OwnX 116 q wo lv rt∧Below q w wo):=⟨OW.out,BE.out⟩;clear SC OW BE hR;go_upto_region 5 with (fail);refine lbeg (opsOf Tryz.f53 5) ?_;refine lnow 0 (.int .i64 (k:Int)) (some 13) ?_;refine lnow 1 (sT l) (some 14) ?_;refine lnow 2 (.int .i64 (l.length:Int)) (some 15) ?_;rw [hN.out];refine lnow 3 (.bool (decide ((k:Int)<(k:Int)))) (some 16) ?_;rw [decide_eq_false (hlt)];refine ldq 4 ?_;go_wp2
   try rw [Exit.noGoto_ret]
   refine bodyPost_ret (v:=.tuple #[lv,.int .i64 0,.int .i64 0]) (by kernel_rfl) rfl ⟨_,rfl,FIN.out⟩
  go_upto_region 5 with (fail);refine lbeg (opsOf Tryz.f53 5) ?_;refine lnow 0 (.int .i64 (k:Int)) (some 13) ?_;refine lnow 1 (sT l) (some 14) ?_;refine lnow 2 (.int .i64 (l.length:Int)) (some 15) ?_;rw [hN.out];refine lnow 3 (.bool (decide ((k:Int)<(N:Int)))) (some 16) ?_;rw [decide_eq_true (hlt)];refine ldq 4 ?_;obtain ⟨L,hL⟩:∃ L,Hid (l.drop k=L):=⟨_,rfl⟩;have LL:Hid (k+L.length=N):=(by rw [Hid,← hL.out,List.length_drop];have:=hN.out;omega);obtain ⟨c,r,ec⟩:∃ c r,L=c::r:=(by cases L with|nil=>(have:=LL.out;simp at this;omega)|cons c r=>exact ⟨c,r,rfl⟩);have EC:=hZ ec;clear ec;rw [hL.out] at SC;go_upto_region 6 with (fail);refine lbeg (opsOf Tryz.f53 6) ?_;refine lnow 0 (.int .i64 1) (some 7) ?_;refine ldq 1 ?_;go_wp2
  go_loopg [5,6,7] 4 (fun g2 s5 s6 s7 wy=>∃ j:Nat,1≤j∧j+g2=5∧lv=s5∧s6=.int .i64 (k:Int)∧s7=.int .i64 (j:Int)∧Hid (∀ i,1≤i→i<j→lenL i L=0)∧wo=wy)
  case atStart=>exact ⟨1,Nat.le_refl _,rfl,rfl,rfl,rfl,fun i h1 h2=>by omega,rfl⟩
  case round=>
   obtain ⟨j,hj1,hj5,hs5,rfl,rfl,HZ,hwy⟩:=hrel;subst hs5;subst hwy;by_cases hj3:(j:Int)≤3
   ·skip
    go_upto_region 7 with (fail);refine lbeg (opsOf Tryz.f53 7) ?_;refine lnow 0 (.int .i64 (j:Int)) (some 17) ?_;refine lnow 1 (.bool (decide ((j:Int)≤3))) (some 18) ?_;rw [decide_eq_true (hj3)];refine ldq 2 ?_;go_upto_region 9 with (fail);refine lbeg (opsOf Tryz.f53 9) ?_;refine lnow 0 (.int .i64 (j:Int)) (some 21) ?_;refine lnow 1 (sT l) (some 22) ?_;refine lnow 2 (.int .i64 (k:Int)) (some 23) ?_;refine lin_now 3 (sT L) (some 24) (by kernel_rfl) (by kernel_rfl) (by have h:=run_sFrom l k (by have:=hN.out;omega) wo;rw [hL.out] at h;exact exec_of (Instr.sliceAt 9 (sT l) (some (.int .i64 (k:Int))) none none) _ (by kernel_rfl) h) ?_;refine lcal 4 83 #[.int .i64 (j:Int),sT L] (some 25) _ (xlength_walk c r L EC.out (by have:=LL.out;omega) j hj1 (by omega) _) ?_;rintro e w1 ⟨rfl,hw1⟩;obtain rfl:=hw1.symm;refine ⟨_,rfl,?_⟩;refine lnow 5 (.int .i64 (lenL j L:Int)) (some 8) ?_;refine ldq 6 ?_;obtain ⟨n,hn⟩:∃ n,Hid (lenL j L=n):=⟨_,rfl⟩;rw [hn.out];by_cases hn0:(n:Int)>0
    ·skip
     go_upto_region 10 with (fail);refine lbeg (opsOf Tryz.f53 10) ?_;refine lnow 0 (.int .i64 (n:Int)) (some 26) ?_;refine lnow 1 (.bool (decide ((n:Int)>0))) (some 27) ?_;rw [decide_eq_true (hn0)];refine ldq 2 ?_;have TA:Hid (tokAt L=some (j,n)):=(by rw [Hid,← hn.out];exact tok_of_len HZ.out hj1 (by omega) (by rw [hn.out];omega));have NLE:Hid (n≤L.length):=(by rw [Hid,← hn.out];exact lenL_le j L);have nle:=NLE.out;have ll:=LL.out;have SC2:Hid (scanS l 0=preR (ts++[⟨j,L.take n,k⟩]) (scanS (l.drop (k+n)) (k+n))):=(by rw [Hid,SC.out,scanS_tok TA.out,preR_cons,← hL.out,List.drop_drop]);clear SC hn HZ;go_upto_region 11 with (fail);refine lbeg (opsOf Tryz.f53 11) ?_;refine lnow 0 (lv) (some 28) ?_;refine lnow 1 (.int .i64 (j:Int)) (some 29) ?_;refine lnow 2 (sT l) (some 30) ?_;refine lnow 3 (.int .i64 (k:Int)) (some 31) ?_;refine lnow 4 (.int .i64 (k:Int)) (some 32) ?_;refine lnow 5 (.int .i64 (n:Int)) (some 33) ?_;refine lnow 6 (.int .i64 (IntKind.i64.wrap ((k:Int)+(n:Int)))) (some 34) ?_;rw [show IntKind.i64.wrap ((k:Int)+(n:Int))=((k+n:Nat):Int) from (IntWalk.i64_in _ (by omega)).trans (by omega)]
     refine lin_now 7 (sT (L.take n)) (some 35) (by kernel_rfl) (by kernel_rfl) (by have h:=run_sCut l k (k+n) (by omega) (by have:=hN.out;omega) wo;rw [hL.out,Nat.add_sub_cancel_left] at h;exact exec_of (Instr.sliceAt 9 (sT l) (some (.int .i64 (k:Int))) (some (.int .i64 ((k+n:Nat):Int))) none) _ (by kernel_rfl) h) ?_;refine lcal 8 84 #[sT (L.take n)] (some 36) _ (xsclone_walk (L.take n) (by rw [List.length_take];omega) _) ?_;rintro e w1 ⟨rfl,hb1⟩;refine ⟨_,rfl,?_⟩;have OW1:=hZ (OW.out.below hb1);have BE1:Hid (Below q w w1):=BE.out.trans (hb1.mono QW.out);have QW1:Hid (q≤w1.heap.size):=Nat.le_trans QW.out hb1.size;clear hb1 OW BE QW;refine lnow 9 (.int .i64 (k:Int)) (some 37) ?_;refine lnow 10 (.agg (tkC ⟨j,L.take n,k⟩).toArray) (some 38) ?_;refine lin_tok 116 109 infoTok Tryz.underlying109 mkTok 11 (some 39) (some 40) ⟨j,L.take n,k⟩ lv ts q OW1.out (by have:=TL.out;omega) QW1.out (by kernel_rfl) (by kernel_rfl) (by kernel_rfl) (fun _=>by kernel_rfl) (by kernel_rfl) (fun _=>by kernel_rfl) ?_;intro g v' w2 ow2 be2;have OW2:=hZ ow2;have BE2:Hid (Below q w w2):=BE1.out.trans be2;clear ow2 be2 OW1 BE1 QW1;refine lnow 13 (v') (some 5) ?_;refine ldq 14 ?_;have TL2:Hid ((ts++[(⟨j,L.take n,k⟩:Tk)]).length≤k+n):=(by rw [Hid,List.length_append];have:=TL.out;simp;omega);obtain ⟨T2,hT2⟩:∃ T2:List Tk,Hid (ts++[(⟨j,L.take n,k⟩:Tk)]=T2):=⟨ts++[(⟨j,L.take n,k⟩:Tk)],rfl⟩;rw [hT2.out] at SC2 OW2 TL2
     go_upto_region 12 with (fail);refine lbeg (opsOf Tryz.f53 12) ?_;refine lnow 0 (.int .i64 (k:Int)) (some 41) ?_;refine lnow 1 (.int .i64 (n:Int)) (some 42) ?_;refine lnow 2 (.int .i64 (IntKind.i64.wrap ((k:Int)+(n:Int)))) (some 43) ?_;rw [show IntKind.i64.wrap ((k:Int)+(n:Int))=((k+n:Nat):Int) from (IntWalk.i64_in _ (by omega)).trans (by omega)];refine lnow 3 (.int .i64 ((k+n:Nat):Int)) (some 6) ?_;refine ldq 4 ?_;go_wp2
     go_roundg (N-(k+n))
     case rel=>exact ⟨k+n,T2,v',rfl,by omega,rfl,TL2,OW2,BE2,SC2⟩
     case measure=>omega
    obtain rfl:n=0:=(by omega);have HZ2:Hid (∀ i,1≤i→i<j+1→lenL i L=0):=fun i h1 h2=>by by_cases e:i=j;(subst e;exact hn.out);(exact HZ.out i h1 (by omega))
    go_upto_region 10 with (fail);refine lbeg (opsOf Tryz.f53 10) ?_;refine lnow 0 (.int .i64 ((0:Nat):Int)) (some 26) ?_;refine lnow 1 (.bool (decide (((0:Nat):Int)>0))) (some 27) ?_;rw [decide_eq_false (hn0)];refine ldq 2 ?_;clear hn HZ;go_wp2
    go_roundg (5-(j+1))
    case rel=>exact ⟨j+1,by omega,by omega,rfl,rfl,by go_num,HZ2,rfl⟩
    case measure=>omega
   go_upto_region 7 with (fail);refine lbeg (opsOf Tryz.f53 7) ?_;refine lnow 0 (.int .i64 (j:Int)) (some 17) ?_;refine lnow 1 (.bool (decide ((j:Int)≤3))) (some 18) ?_;rw [decide_eq_false (hj3)];refine ldq 2 ?_;have TN:Hid (tokAt L=none):=tok_of_none (fun i h1 h2=>HZ.out i h1 (by omega))
   clear HZ;go_upto_region 13 with (fail);refine lbeg (opsOf Tryz.f53 13) ?_;refine lnow 0 (sT l) (some 44) ?_;refine lnow 1 (.int .i64 (k:Int)) (some 45) ?_;refine lin_now 2 (sT L) (some 46) (by kernel_rfl) (by kernel_rfl) (by have h:=run_sFrom l k (by have:=hN.out;omega) wo;rw [hL.out] at h;exact exec_of (Instr.sliceAt 9 (sT l) (some (.int .i64 (k:Int))) none none) _ (by kernel_rfl) h) ?_;refine lcal 3 85 #[sT L] (some 47) _ (xgap_walk c r L EC.out (by have:=LL.out;omega) _) ?_;rintro e w1 ⟨rfl,hw1⟩;obtain rfl:=hw1.symm;refine ⟨_,rfl,?_⟩;refine lnow 4 (.int .i64 (gapL L:Int)) (some 9) ?_;refine ldq 5 ?_;obtain ⟨n,hn⟩:∃ n,Hid (gapL L=n):=⟨_,rfl⟩;rw [hn.out];by_cases hn0:(n:Int)=0
   ·skip
    go_upto_region 14 with (fail);refine lbeg (opsOf Tryz.f53 14) ?_;refine lnow 0 (.int .i64 (n:Int)) (some 48) ?_;refine lnow 1 (.bool (decide ((n:Int)=0))) (some 49) ?_;rw [decide_eq_true (hn0)];refine ldq 2 ?_;have E:=hR.out.symm.trans (scanR_bad (p:=k) NM.out (by rw [SC.out,scanS_bad TN.out (by rw [hn.out];omega) (by rw [EC.out];simp)];rfl));simp only [Prod.mk.injEq] at E;obtain ⟨rfl,rfl,rfl⟩:=E;have FIN:Hid (Below q w wo):=BE.out;clear SC OW BE hR hn TN EC;go_wp2
    try rw [Exit.noGoto_ret]
    refine bodyPost_ret (v:=.tuple #[.slice none 0 0,.int .i64 (rp:Int),.int .i64 10]) (by kernel_rfl) rfl ⟨_,rfl,OwnX.nil _ _ _,FIN.out⟩
   go_upto_region 14 with (fail);refine lbeg (opsOf Tryz.f53 14) ?_;refine lnow 0 (.int .i64 (n:Int)) (some 48) ?_;refine lnow 1 (.bool (decide ((n:Int)=0))) (some 49) ?_;rw [decide_eq_false (hn0)];refine ldq 2 ?_;have nle:n≤L.length:=(by rw [← hn.out];exact gapL_le L);have ll:=LL.out;have SC2:Hid (scanS l 0=preR ts (scanS (l.drop (k+n)) (k+n))):=(by rw [Hid,SC.out,scanS_gap TN.out (by rw [hn.out];omega),hn.out,← hL.out,List.drop_drop]);have TL2:Hid (ts.length≤k+n):=(by rw [Hid];have:=TL.out;omega);clear SC hn TN;go_upto_region 16 with (fail);refine lbeg (opsOf Tryz.f53 16) ?_;refine lnow 0 (.int .i64 (k:Int)) (some 51) ?_;refine lnow 1 (.int .i64 (n:Int)) (some 52) ?_;refine lnow 2 (.int .i64 (IntKind.i64.wrap ((k:Int)+(n:Int)))) (some 53) ?_;rw [show IntKind.i64.wrap ((k:Int)+(n:Int))=((k+n:Nat):Int) from (IntWalk.i64_in _ (by omega)).trans (by omega)];refine lnow 3 (.int .i64 ((k+n:Nat):Int)) (some 6) ?_;refine ldq 4 ?_;go_wp2
   go_roundg (N-(k+n))
   case rel=>exact ⟨k+n,ts,lv,rfl,by omega,rfl,TL2,OW,BE,SC2⟩
   case measure=>omega
end Go.Proofs.YtmceocgddaaohaaGreatDoor
namespace Go.Proofs.YtmceocgddaaohaaGreatDoor
open Go Go.RowKit
set_option maxRecDepth 100000
theorem ownF_keep {base:Nat} {e:TypeId} {v:Value} {n:Nat} {xs:List Value} {w w':World} (h:w.ownsRowF base e 1 v n xs) (hk:∀ k,k<w.heap.size→w'.heap[k]?=w.heap[k]?):w'.ownsRowF base e 1 v n xs:=by
 refine ⟨h.1,?_⟩;rcases h.2 with h2|⟨g,cap,cur,fz,h1,h2,h3,h4⟩
 ·exact .inl h2
 ·exact .inr ⟨g,cap,cur,fz,h1,h2,by rw [hk g (Array.getElem?_eq_some_iff.1 h3).1];exact h3,h4⟩
theorem sizeBd:(Tryz.prog.info? 67).map (·.size)=some 2:=by kernel_rfl
theorem sizePBd:(Tryz.prog.info? 64).map (·.size)=some 1:=by kernel_rfl
theorem sizeBys:(Tryz.prog.info? 65).map (·.size)=some 1:=by kernel_rfl
theorem infoByX:(Tryz.prog.info? 5).map (fun i=>(i.zero,i.size,i.bytes))=some (some (.int .u8 0),1,1):=by kernel_rfl
theorem exec_pNe {a:Act} {w:World} {op:Oper} (t2:TypeId) (x y:Operand) (p:Addr) (ho:op.op=.binOp .neq 64 x y t2) (ex:a.eval x=.pointer (some p)) (ey:a.eval y=.pointer (some p)) (hg:∀ w,(eqGuard .neq 64 x y (.pointer (some p)) (.pointer (some p))).run Tryz.prog w=.ok () w):(execOp a.eval op).run Tryz.prog w=.ok (.value (.bool false)) w:=by
 obtain ⟨j,hj,-⟩:=Option.map_eq_some_iff.1 sizeBd;have h:=Lib.run_neq_ptr_same (P:=Tryz.prog) w p Tryz.underlying64 hj;unfold execOp;simp only [ho,ex,ey,Sem.run_bind,hg,Result.andThen_ok,h]
 rfl
theorem ownF_cells {base:Nat} {e:TypeId} {v:Value} {n:Nat} {xs:List Value} {w:World} (h:w.ownsRowF base e 1 v n xs):v.cells=#[v]:=by
 rcases h.2 with ⟨rfl,_⟩|⟨g,cap,cur,fz,rfl,_⟩<;>rfl
theorem ownF_one {base:Nat} {e:TypeId} {v:Value} {n:Nat} {xs:List Value} {w:World} (h:w.ownsRowF base e 1 v n xs):v.oneCell'=true:=by
 rcases h.2 with ⟨rfl,_⟩|⟨g,cap,cur,fz,rfl,_⟩<;>rfl
end Go.Proofs.YtmceocgddaaohaaGreatDoor
