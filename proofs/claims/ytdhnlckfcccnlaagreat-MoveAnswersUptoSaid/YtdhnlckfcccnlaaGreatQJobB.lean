import Derived.Test.YtdhnlckfcccnlaaGreatQJobA
namespace Go.Proofs.YtdhnlckfcccnlaaGreat
open Go Go.RowKit
set_option maxRecDepth 100000
def HdR (v deep k n:Int) (s:List UInt8) (l:List Lv) (a:Nat):Prop:=headT wordB 4 deep k n s l a=true∧(k=1→n<v)
mutual
theorem reb_rel {J:Jb} {g:Unit→Tm→Int→Option (Unit × Tm)} (hg:∀ k n s l a v deep d c,HdR v deep k n s l a→g () (.mk k n s l []) d=(gJ J c (.mk k n s l []) d).map fun p=>((),p.2)):∀ (t:Tm) (v deep d c:Int),rightT wordB 4 v deep t=true→rebT g () d t=(rebT (gJ J) c d t).map fun p=>((),p.2)
 |.mk k n s l a,v,deep,d,c,h=>by
  obtain ⟨h1,h2,h3,h4⟩:=right_args h;have e:=hg k n s l a.length v deep d c ⟨h2,h3⟩;rw [rebT,rebT,e];cases h5:gJ J c (.mk k n s l []) d with
  |none=>rfl
  |some p=>
   obtain ⟨c1,r⟩:=p;simp only [Option.map_some];by_cases ha:a.length=0
   ·rw [if_pos ha,if_pos ha];rfl
   ·rw [if_neg ha,if_neg ha,rebs_rel hg a v deep d k c1 a.length 0 h1 h4]
    cases rebTs (gJ J) c1 d k a.length 0 a<;>rfl
theorem rebs_rel {J:Jb} {g:Unit→Tm→Int→Option (Unit × Tm)} (hg:∀ k n s l a v deep d c,HdR v deep k n s l a→g () (.mk k n s l []) d=(gJ J c (.mk k n s l []) d).map fun p=>((),p.2)):∀ (ts:List Tm) (v deep d k c:Int) (N i:Nat),(N=argsOf k→rightTs wordB 4 v deep k i ts=true→rebTs g () d k N i ts=(rebTs (gJ J) c d k N i ts).map fun p=>((),p.2))
 |[],_,_,_,_,_,_,_=>fun _ _=>by rw [rebTs,rebTs];rfl
 |t::ts,v,deep,d,k,c,N,i=>fun hN h=>by
  rw [rightTs,Bool.and_eq_true] at h;rw [rebTs,rebTs,reb_rel hg t _ _ _ c h.1];cases h5:rebT (gJ J) c (d+moreD k i N) t with
  |none=>rfl
  |some p=>
   obtain ⟨c1,r⟩:=p;simp only [Option.map_some];rw [rebs_rel hg ts v deep d k c1 N (i+1) hN h.2];cases rebTs (gJ J) c1 d k N (i+1) ts<;>rfl
end
theorem gJ_cost {J:Jb} (hx:J.xa=[]) {c k n d:Int} {s:List UInt8} {l:List Lv} {c':Int} {r:Tm} (h:gJ J c (.mk k n s l []) d=some (c',r)):c'=c+(1+(l.length:Int)):=by
 rw [gJ,hx] at h
 split at h
 ·split at h
  ·cases h;rfl
  ·split at h
   ·rename_i h1 h2
    simp at h2
    omega
   ·split at h
    ·cases h
    ·cases h;rfl
 ·split at h
  ·cases h;rfl
  ·split at h
   ·cases h
   ·cases h;rfl
mutual
theorem reb_cost {J:Jb} (hx:J.xa=[]):∀ (t:Tm) (d c c':Int) (r:Tm),rebT (gJ J) c d t=some (c',r)→c'=c+(nodesT t:Int)
 |.mk k n s l a,d,c,c',r,h=>by
  rw [rebT] at h;rw [nodesT];cases h5:gJ J c (.mk k n s l []) d with
  |none=>rw [h5] at h;cases h
  |some p=>
   obtain ⟨c1,r1⟩:=p;have:=gJ_cost hx h5;rw [h5] at h;simp only at h;by_cases ha:a.length=0
   ·rw [if_pos ha] at h
    cases h
    rw [List.eq_nil_of_length_eq_zero ha,nodesTs];omega
   ·rw [if_neg ha] at h
    cases h6:rebTs (gJ J) c1 d k a.length 0 a with
    |none=>rw [h6] at h;cases h
    |some p2=>
     obtain ⟨c2,rs⟩:=p2;have:=rebs_cost hx a d k c1 c2 a.length 0 rs h6;rw [h6] at h;cases h
     omega
theorem rebs_cost {J:Jb} (hx:J.xa=[]):∀ (ts:List Tm) (d k c c':Int) (N i:Nat) (rs:List Tm),rebTs (gJ J) c d k N i ts=some (c',rs)→c'=c+(nodesTs ts:Int)
 |[],d,k,c,c',N,i,rs,h=>by
  rw [rebTs] at h;cases h
  rw [nodesTs];omega
 |t::ts,d,k,c,c',N,i,rs,h=>by
  rw [rebTs] at h;rw [nodesTs];cases h5:rebT (gJ J) c (d+moreD k i N) t with
  |none=>rw [h5] at h;cases h
  |some p=>
   obtain ⟨c1,r1⟩:=p;have:=reb_cost hx t _ c c1 r1 h5;rw [h5] at h;simp only at h;cases h6:rebTs (gJ J) c1 d k N (i+1) ts with
   |none=>rw [h6] at h;cases h
   |some p2=>
    obtain ⟨c2,rs2⟩:=p2;have:=rebs_cost hx ts d k c1 c2 N (i+1) rs2 h6;rw [h6] at h;cases h
    omega
end
theorem doO_unit {J:Jb} {g:Unit→Tm→Int→Option (Unit × Tm)} {t:Tm} (hx:J.xa=[]) (hg:∀ k n s l a v deep d c,HdR v deep k n s l a→g () (.mk k n s l []) d=(gJ J c (.mk k n s l []) d).map fun p=>((),p.2)) (ht:rightP 4 1099511627776 t=true):doO J t=okO ((rebT g () 0 t).map (·.2)):=by
 rw [doO_reb ht,reb_rel hg t _ _ 0 0 (rightP_parts ht).2.2];cases h:rebT (gJ J) 0 0 t with
 |none=>rfl
 |some p=>
  obtain ⟨c',r⟩:=p;have:=reb_cost hx t 0 0 c' r h;have:=(rightP_parts ht).2.1;simp only;rw [if_pos (by omega)]
  rfl
theorem HdR.bare {v deep k n:Int} {s:List UInt8} {l:List Lv} {a:Nat} (h:HdR v deep k n s l a) (hk:k=1):s=[]∧l=[]:=by
 have h1:=h.1;subst hk;simp only [headT,Bool.and_eq_true,decide_eq_true_eq] at h1;obtain ⟨⟨⟨⟨⟨-,h5⟩,-⟩,h6⟩,-⟩,-⟩:=h1;exact ⟨by simpa using h6,by simpa using h5⟩
theorem HdR.name {v deep k n:Int} {s:List UInt8} {l:List Lv} {a:Nat} (h:HdR v deep k n s l a):if k=4∨k=9 then wordB s=true else s=[]:=by
 have h1:=h.1;simp only [headT,Bool.and_eq_true] at h1;obtain ⟨⟨⟨-,h6⟩,-⟩,-⟩:=h1;by_cases hk:k=4∨k=9
 ·rw [if_pos hk] at h6 ⊢
  exact h6
 ·rw [if_neg hk] at h6 ⊢
  simpa using h6
theorem jl_id {J:Jb} (h:J.lev=false) (l:List Lv):l.map (jl J)=l:=by
 have:jl J=fun x=>x:=by funext x;unfold jl;rw [h];rfl
 rw [this,List.map_id']
theorem jw_no {J:Jb} (h:J.lev=false) (l:List Lv):jw J l=false:=by unfold jw;rw [h];rfl
theorem jname_id {J:Jb} (h:J.old=[]) (s:List UInt8):jname J s=s:=if_neg (by rw [h];simp)
def shiftJ (b f:Int):Jb:=⟨b,f,[],[],[],[],[],false⟩
theorem shift_job {b f:Int} {t:Tm}:(if ((-1099511627776≤b∧b≤1099511627776)∧0≤f∧f≤1099511627776) then doO (shiftJ b f) t else none)=shiftO b f t:=by
 unfold shiftO;by_cases h:((-1099511627776≤b∧b≤1099511627776)∧0≤f∧f≤1099511627776)
 ·rw [if_pos h]
  by_cases ht:rightP 4 1099511627776 t=true
  ·rw [if_pos ⟨h,ht⟩,doO_unit (J:=shiftJ b f) (g:=shG b f) rfl ?_ ht]
   ·rfl
   ·intro k n s l a v deep d c hh
    show (if k=1∧f≤n-d then (if f≤n+b-d then some (Tm.mk k (n+b) s l []) else none) else some (.mk k n s l [])).map (fun r=>((),r))=_
    rw [gJ];by_cases hk:k=1
    ·obtain ⟨rfl,rfl⟩:=hh.bare hk
     subst hk;show _=(if (1:Int)=1 then _ else _:Option (Int × Tm)).map _;rw [if_pos rfl];show _=(if n-d-f<0 then _ else if n-d-f<0 then _ else if n-d-f+b<0 then none else _:Option (Int × Tm)).map _;by_cases h1:n-d-f<0
     ·rw [if_pos h1,if_neg (by omega)];rfl
     ·rw [if_neg h1,if_neg h1,if_pos ⟨rfl,by omega⟩]
      by_cases h2:n-d-f+b<0
      ·rw [if_pos h2,if_neg (by omega)];rfl
      ·rw [if_neg h2,if_pos (by omega)];rfl
    ·rw [if_neg hk,if_neg (fun e=>hk e.1),if_neg (fun e=>absurd e.2 (by show ¬ (0:Int)≤-1;decide)),jw_no rfl,jl_id rfl,jname_id rfl]
     rfl
  ·rw [if_neg (fun e=>ht e.2)]
   exact if_neg ht
 ·rw [if_neg h,if_neg (fun e=>h e.1)]
def pullJ (ns:List (List UInt8)):Jb:=⟨(ns.length:Int),0,[],ns,[],[],[],false⟩
theorem pull_job {ns:List (List UInt8)} {t:Tm}:doO (pullJ ns) t=pullO ns t:=by
 unfold pullO;by_cases ht:rightP 4 1099511627776 t=true
 ·rw [if_pos ht,doO_unit (J:=pullJ ns) (g:=pullG ns) rfl ?_ ht]
  ·rfl
  ·intro k n s l a v deep d c hh
   show (some (if k=1 then (if d≤n then Tm.mk k (n+(ns.length:Int)) s l [] else .mk k n s l []) else if k=4 then (if 0≤idxFrom s 0 ns∧l.length=0 then .mk 1 ((ns.length:Int)-1-idxFrom s 0 ns+d) [] [] [] else .mk k n s l []) else .mk k n s l [])).map (fun r=>((),r))=_
   rw [gJ];by_cases hk:k=1
   ·obtain ⟨rfl,rfl⟩:=hh.bare hk
    subst hk;rw [if_pos rfl,if_pos rfl];show _=(if n-d-0<0 then _ else if n-d-0<0 then _ else if n-d-0+(ns.length:Int)<0 then none else _:Option (Int × Tm)).map _;by_cases h1:n-d-0<0
    ·rw [if_pos h1,if_neg (by omega)];rfl
    ·rw [if_pos (show d≤n by omega),if_neg h1,if_neg h1,if_neg (show ¬ n-d-0+(ns.length:Int)<0 by omega)];rfl
   ·rw [if_neg hk,if_neg hk,jw_no rfl,jl_id rfl,jname_id rfl]
    by_cases h4:k=4
    ·rw [if_pos h4]
     by_cases h5:0≤idxFrom s 0 ns∧l.length=0
     ·rw [if_pos h5,if_pos ⟨⟨h4,h5.2⟩,h5.1⟩]
      show some ((),Tm.mk 1 ((ns.length:Int)-1-idxFrom s 0 ns+d) [] [] [])=some ((),Tm.mk 1 (d+(ns.length:Int)-1-idxFrom s 0 ns) [] [] []);rw [show (ns.length:Int)-1-idxFrom s 0 ns+d=d+(ns.length:Int)-1-idxFrom s 0 ns by omega]
     ·rw [if_neg h5,if_neg (fun e=>h5 ⟨e.2,e.1.2⟩)]
      rfl
    ·rw [if_neg h4,if_neg (fun e=>h4 e.1.1)]
     rfl
 ·rw [if_neg ht]
  exact if_neg ht
def levelsJ (bs:List Lv):Jb:=⟨0,0,[],[],[],[],bs,true⟩
theorem jl_all {bs:List Lv}:∀ (l:List Lv),instAll bs l=if jw (levelsJ bs) l=true then none else some (l.map (jl (levelsJ bs)))
 |[]=>rfl
 |x::l=>by
  have ih:=jl_all (bs:=bs) l;have e:jw (levelsJ bs) (x::l)=((instL x bs).isNone||jw (levelsJ bs) l):=by
   show (true&&((instL x bs).isNone||l.any fun l=>(instL l bs).isNone))=((instL x bs).isNone||(true&&l.any fun l=>(instL l bs).isNone))
   rw [Bool.true_and,Bool.true_and]
  rw [instAll,e,List.map_cons];cases h:instL x bs with
  |none=>rfl
  |some r=>
   have ej:jl (levelsJ bs) x=r:=by
    show (if true=true then (instL x bs).getD nilLv else x)=r;rw [if_pos rfl,h]
    rfl
   rw [ih,ej];show _=if (false||jw (levelsJ bs) l)=true then none else _;rw [Bool.false_or];by_cases hj:jw (levelsJ bs) l=true
   ·rw [if_pos hj,if_pos hj];rfl
   ·rw [if_neg hj,if_neg hj];rfl
theorem inst_right {l r:Lv} {bs:List Lv} (hb:∀ x∈bs,x.p.length=4) (h:instL l bs=some r):rightL r=true∧widthL r≤4:=by
 unfold instL at h
 split at h
 ·next hc=>
  simp only [Bool.and_eq_true,decide_eq_true_eq] at hc;exact ⟨(instUp_right hc.1.1 hb hc.2 _ _ hc.1.2 h).2,widthUp_le r 4⟩
 ·cases h
theorem all_inst {bs:List Lv} (hb:∀ x∈bs,x.p.length=4):∀ (ls rs:List Lv),instAll bs ls=some rs→rs.length=ls.length∧rs.all (fun x=>rightL x&&decide ((widthL x:Int)≤4))=true
 |[],rs,h=>by
  obtain rfl:=Option.some.inj h;exact ⟨rfl,rfl⟩
 |l::ls,rs,h=>by
  rw [instAll] at h;cases h1:instL l bs with
  |none=>rw [h1] at h;cases h
  |some r=>
   rw [h1] at h;simp only at h;cases h2:instAll bs ls with
   |none=>rw [h2] at h;cases h
   |some qs=>
    rw [h2] at h;obtain rfl:=Option.some.inj h;have i1:=all_inst hb ls qs h2;have i2:=inst_right hb h1;refine ⟨by simp [i1.1],?_⟩;rw [List.all_cons,i1.2,i2.1,decide_eq_true (show (widthL r:Int)≤4 by omega)]
    rfl
mutual
theorem lev_right {bs:List Lv} (hb:∀ x∈bs,x.p.length=4):∀ (t:Tm) (d v deep:Int) (y:Tm),rebT (levG bs) () d t=some ((),y)→rightT wordB 4 v deep t=true→rightT wordB 4 v deep y=true∧nodesT y=nodesT t
 |.mk k n s l a,d,v,deep,y,hy,h=>by
  obtain ⟨h1,h2,h3,h4⟩:=right_args h;rw [rebT] at hy;have e:levG bs () (.mk k n s l []) d=(instAll bs l).map fun ls=>((),Tm.mk k n s ls []):=by
   show ((instAll bs l).map fun ls=>Tm.mk k n s ls []).map (fun r=>((),r))=_
   rw [Option.map_map]
   rfl
  rw [e] at hy;cases h5:instAll bs l with
  |none=>rw [h5] at hy;cases hy
  |some ls=>
   rw [h5] at hy;simp only [Option.map_some] at hy;obtain ⟨c1,c2⟩:=all_inst hb l ls h5;by_cases ha:a.length=0
   ·rw [if_pos ha] at hy
    cases hy
    obtain rfl:=List.eq_nil_of_length_eq_zero ha;refine ⟨?_,by rw [nodesT,nodesT,c1]⟩;simp only [rightT,Bool.and_eq_true];refine ⟨⟨head_new h2 c1 c2,?_⟩,by rw [rightTs]⟩;by_cases hk:k=1
    ·simp [h3 hk]
    ·simp [hk]
   ·rw [if_neg ha] at hy
    cases h6:rebTs (levG bs) () d k a.length 0 a with
    |none=>rw [h6] at hy;cases hy
    |some p=>
     obtain ⟨u,ys⟩:=p;rw [h6] at hy;cases hy
     obtain ⟨c3,c4,c5⟩:=levs_right hb a d k a.length 0 0 v deep ys h6 h4;refine ⟨?_,by show nodesT (.mk k n s ls ys)=_;rw [nodesT,nodesT,c1,c4]⟩;show rightT wordB 4 v deep (.mk k n s ls ys)=true;simp only [rightT,Bool.and_eq_true,c5];refine ⟨⟨head_new h2 c1 c2,?_⟩,c3⟩;by_cases hk:k=1
     ·simp [h3 hk]
     ·simp [hk]
theorem levs_right {bs:List Lv} (hb:∀ x∈bs,x.p.length=4):∀ (ts:List Tm) (d k:Int) (N i j:Nat) (v deep:Int) (ys:List Tm),rebTs (levG bs) () d k N i ts=some ((),ys)→rightTs wordB 4 v deep k j ts=true→rightTs wordB 4 v deep k j ys=true∧nodesTs ys=nodesTs ts∧ys.length=ts.length
 |[],_,_,_,_,_,_,_,ys,hy,_=>by
  rw [rebTs] at hy;cases hy
  exact ⟨by rw [rightTs],rfl,rfl⟩
 |t::ts,d,k,N,i,j,v,deep,ys,hy,h=>by
  rw [rightTs,Bool.and_eq_true] at h;rw [rebTs] at hy;cases h1:rebT (levG bs) () (d+moreD k i N) t with
  |none=>rw [h1] at hy;cases hy
  |some p=>
   obtain ⟨u,x⟩:=p;rw [h1] at hy;simp only at hy;cases h2:rebTs (levG bs) u d k N (i+1) ts with
   |none=>rw [h2] at hy;cases hy
   |some p2=>
    obtain ⟨u2,zs⟩:=p2;rw [h2] at hy;cases hy
    have i1:=lev_right hb t _ _ _ x h1 h.1;have i2:=levs_right hb ts d k N (i+1) (j+1) v deep zs h2 h.2;refine ⟨?_,?_,?_⟩
    ·rw [rightTs,i1.1,i2.1]
     rfl
    ·rw [nodesTs,nodesTs,i1.2,i2.2.1]
    ·simp [i2.2.2]
end
theorem levels_job {bs:List Lv} (hb:∀ x∈bs,x.p.length=4) {t:Tm}:doO (levelsJ bs) t=levelsO bs t:=by
 unfold levelsO;by_cases ht:rightP 4 1099511627776 t=true
 ·rw [if_pos ht,doO_unit (J:=levelsJ bs) (g:=levG bs) rfl ?_ ht]
  ·show okO (levO bs t)=levO bs t
   unfold levO;cases h1:rebT (levG bs) () 0 t with
   |none=>rfl
   |some p=>
    obtain ⟨u,x⟩:=p;obtain ⟨r1,hn,hr0⟩:=rightP_parts ht;have c:=lev_right hb t _ _ _ x h1 hr0;refine okO_yes ?_;unfold rightP;simp only [Bool.and_eq_true,decide_eq_true_eq];exact ⟨by decide,by show nodesT x≤3000;omega,c.1⟩
  ·intro k n s l a v deep d c hh
   show ((instAll bs l).map fun ls=>Tm.mk k n s ls []).map (fun r=>((),r))=_
   rw [gJ];by_cases hk:k=1
   ·obtain ⟨rfl,rfl⟩:=hh.bare hk
    subst hk;rw [if_pos rfl];show _=(if n-d-0<0 then some (c+(1+0),Tm.mk 1 n [] [] []) else if n-d-0<0 then _ else if n-d-0+0<0 then none else some (c+(1+0),Tm.mk 1 (n+0) [] [] []):Option (Int × Tm)).map _;by_cases h1:n-d-0<0
    ·rw [if_pos h1];rfl
    ·rw [if_neg h1,if_neg h1,if_neg (by omega)]
     show _=some ((),Tm.mk 1 (n+0) [] [] []);rw [Int.add_zero]
     rfl
   ·rw [if_neg hk,if_neg (fun e=>absurd e.2 (by show ¬ (0:Int)≤-1;decide)),jl_all,jname_id rfl]
    by_cases hj:jw (levelsJ bs) l=true
    ·rw [if_pos hj,if_pos hj];rfl
    ·rw [if_neg hj,if_neg hj];rfl
 ·rw [if_neg ht]
  exact if_neg ht
def renameJ (fr to:List UInt8):Jb:=⟨0,0,[],[],fr,to,[],false⟩
theorem word_nil:wordB []=false:=by decide
theorem rename_job {fr to:List UInt8} {t:Tm}:(if wordB to=true then doO (renameJ fr to) t else none)=renameO fr to t:=by
 unfold renameO;by_cases hw:wordB to=true
 ·rw [if_pos hw]
  by_cases ht:rightP 4 1099511627776 t=true
  ·rw [if_pos ⟨hw,ht⟩,doO_unit (J:=renameJ fr to) (g:=renG fr to) rfl ?_ ht]
   ·show okO (renO fr to t)=renO fr to t
    rw [renO_ren];exact okO_yes (ren_rightP hw ht)
   ·intro k n s l a v deep d c hh
    rw [renG_mk,gJ];have hn:=hh.name;by_cases hk:k=1
    ·obtain ⟨rfl,rfl⟩:=hh.bare hk
     subst hk;rw [if_pos rfl,if_neg (by rintro ⟨-,h|h⟩<;>omega)]
     show _=(if n-d-0<0 then some (c+(1+0),Tm.mk 1 n [] [] []) else if n-d-0<0 then _ else if n-d-0+0<0 then none else some (c+(1+0),Tm.mk 1 (n+0) [] [] []):Option (Int × Tm)).map _;by_cases h1:n-d-0<0
     ·rw [if_pos h1];rfl
     ·rw [if_neg h1,if_neg h1,if_neg (by omega)]
      show _=some ((),Tm.mk 1 (n+0) [] [] []);rw [Int.add_zero]
    ·have e:(if s=fr∧(k=4∨k=9) then to else s)=jname (renameJ fr to) s:=by
      show _=if fr≠[]∧s=fr then to else s;by_cases h49:k=4∨k=9
      ·rw [if_pos h49] at hn
       by_cases hs:s=fr
       ·rw [if_pos ⟨hs,h49⟩,if_pos ⟨fun e=>(by rw [hs,e,word_nil] at hn;cases hn),hs⟩]
       ·rw [if_neg (fun e=>hs e.1),if_neg (fun e=>hs e.2)]
      ·rw [if_neg h49] at hn
       rw [if_neg (fun e=>h49 e.2),if_neg (fun e=>e.1 (by rw [← e.2,hn]))]
     rw [e,if_neg hk,if_neg (fun e=>absurd e.2 (by show ¬ (0:Int)≤-1;decide)),jw_no rfl,jl_id rfl]
     rfl
  ·rw [if_neg (fun e=>ht e.2)]
   exact if_neg ht
 ·rw [if_neg hw,if_neg (fun e=>hw e.1)]
def putJ (xa:List Tm):Jb:=⟨-(xa.length:Int),0,xa,[],[],[],[],false⟩
mutual
theorem shd_map {b:Int} (hb:0≤b):∀ (t:Tm) (v deep d:Int),rightT wordB 4 v deep t=true→shdT b d t=mapT (shF b) d t
 |.mk k n s l a,v,deep,d,h=>by
  obtain ⟨h1,h2,h3,h4⟩:=right_args h;rw [shdT,mapT];by_cases ha:a.length=0
  ·obtain rfl:=List.eq_nil_of_length_eq_zero ha
   rw [if_pos ha,shdTs];by_cases hk:k=1∧d≤n
   ·rw [if_pos hk,shF_yes hk.1 (by omega) (by omega)]
   ·rw [if_neg hk,shF_no (fun e=>hk ⟨e.1,by omega⟩)]
  ·rw [if_neg ha,shds_map hb a v deep d k a.length 0 h1 h4,if_neg]
   rintro ⟨rfl,-⟩;exact ha (by rw [h1];rfl)
theorem shds_map {b:Int} (hb:0≤b):∀ (ts:List Tm) (v deep d k:Int) (N i:Nat),N=argsOf k→rightTs wordB 4 v deep k i ts=true→shdTs b d k i ts=mapTs (shF b) d k N i ts
 |[],_,_,_,_,_,_,_,_=>by rw [shdTs,mapTs]
 |t::ts,v,deep,d,k,N,i,hN,h=>by
  rw [rightTs,Bool.and_eq_true] at h;rw [shdTs,mapTs,more_eq hN,shd_map hb t _ _ _ h.1,shds_map hb ts v deep d k N (i+1) hN h.2]
end
theorem shO_shd {b:Int} (hb:0≤b) {x:Tm} (hx:rightP 4 1099511627776 x=true):shO b 0 x=some (shdT b 0 x):=by
 rw [shd_map hb x _ _ 0 (rightP_parts hx).2.2];refine shO_map (all_mono (fun y e hy=>?_) x 0 (all_right0 hx))
 obtain ⟨k,n,s,l,rfl⟩:=leaf_eq hy.1;exact ⟨k,n,s,l,rfl,fun _ _=>by omega⟩
theorem put_node {xa : List Tm} (hx : ∀ x ∈ xa, rightP 4 1099511627776 x = true) {v deep k n d c s : Int} {nm : List UInt8} {l : List Lv} {a : Nat} (h : HdR v deep k n nm l a) (hd : 0 ≤ d) (hs : 0 ≤ s) :
    puN xa s (.mk k n nm l []) d=match gJ (putJ xa) c (.mk k n nm l []) d with
     |some (c',r)=>if c'-c-(1+(l.length:Int))≤s then some (s-(c'-c-(1+(l.length:Int))),r) else none
     |none=>none:=by
 rw [gJ];by_cases hk:k=1
 ·obtain ⟨rfl,rfl⟩:=h.bare hk
  subst hk;rw [if_pos rfl]
  show _ = match (if n - d - 0 < 0 then some (c + (1 + (([] : List Lv).length : Int)), Tm.mk 1 n [] [] []) else if n - d - 0 < (xa.length : Int) then match xa[((xa.length : Int) - 1 - (n - d - 0)).toNat]? with
      |none=>some (c+(1+(([]:List Lv).length:Int)),Tm.mk 1 n [] [] [])
      |some x=>some (c+(1+(([]:List Lv).length:Int))+(cntT x-1),shdT (d+0) 0 x) else if n-d-0+-(xa.length:Int)<0 then none else some (c+(1+(([]:List Lv).length:Int)),.mk 1 (n+-(xa.length:Int)) [] [] []):Option (Int × Tm)) with
   |some (c',r)=>if c'-c-(1+(([]:List Lv).length:Int))≤s then some (s-(c'-c-(1+(([]:List Lv).length:Int))),r) else none
   |none=>none
  rw [Int.sub_zero,Int.add_zero];by_cases h1:n-d<0
  ·rw [if_pos h1,puN_low (by omega)]
   simp only;rw [if_pos (by omega),show s-(c+(1+(([]:List Lv).length:Int))-c-(1+(([]:List Lv).length:Int)))=s by omega]
  ·rw [if_neg h1]
   by_cases h2:n-d<(xa.length:Int)
   ·rw [if_pos h2,puN_at rfl (by omega) h2]
    cases h3:xa[((xa.length:Int)-1-(n-d)).toNat]? with
    |none=>
     rw [List.getElem?_eq_none_iff] at h3;omega
    |some x=>
     have hr:=hx x (List.mem_of_getElem? h3);simp only;rw [shO_shd hd hr];by_cases h4:0≤s-(cntT x-1)
     ·rw [if_pos h4,if_pos (by omega),show s-(c+(1+(([]:List Lv).length:Int))+(cntT x-1)-c-(1+(([]:List Lv).length:Int)))=s-(cntT x-1) by omega]
      rfl
     ·rw [if_neg h4,if_neg (by omega)]
   ·rw [if_neg h2,if_neg (by omega),puN_high rfl (by omega)]
    simp only;rw [if_pos (by omega),show s-(c+(1+(([]:List Lv).length:Int))-c-(1+(([]:List Lv).length:Int)))=s by omega,Int.sub_eq_add_neg]
 ·rw [if_neg hk,if_neg (fun e=>absurd e.2 (by show ¬ (0:Int)≤-1;decide)),jw_no rfl,jl_id rfl,jname_id rfl,puN_in _ _ _ _ _ hk]
  show _=if c+(1+(l.length:Int))-c-(1+(l.length:Int))≤s then some (s-(c+(1+(l.length:Int))-c-(1+(l.length:Int))),Tm.mk k n nm l []) else none;rw [if_pos (by omega),show s-(c+(1+(l.length:Int))-c-(1+(l.length:Int)))=s by omega]
def PR {α:Type} (o:Option (Int × α)) (p:Option (Int × α)) (c s m:Int):Prop:=p=match o with
 |some (c',r)=>if c'-c-m≤s then some (s-(c'-c-m),r) else none
 |none=>none
mutual
theorem reb_ge {J:Jb}:∀ (t:Tm) (d c c':Int) (r:Tm),rebT (gJ J) c d t=some (c',r)→c+(nodesT t:Int)≤c'
 |.mk k n s l a,d,c,c',r,h=>by
  rw [rebT] at h;rw [nodesT];cases h5:gJ J c (.mk k n s l []) d with
  |none=>rw [h5] at h;cases h
  |some p=>
   obtain ⟨c1,r1⟩:=p;have:=gJ_ge h5;rw [h5] at h;simp only at h;by_cases ha:a.length=0
   ·rw [if_pos ha] at h
    cases h
    rw [List.eq_nil_of_length_eq_zero ha,nodesTs];omega
   ·rw [if_neg ha] at h
    cases h6:rebTs (gJ J) c1 d k a.length 0 a with
    |none=>rw [h6] at h;cases h
    |some p2=>
     obtain ⟨c2,rs⟩:=p2;have:=rebs_ge a d k c1 c2 a.length 0 rs h6;rw [h6] at h;cases h
     omega
theorem rebs_ge {J:Jb}:∀ (ts:List Tm) (d k c c':Int) (N i:Nat) (rs:List Tm),rebTs (gJ J) c d k N i ts=some (c',rs)→c+(nodesTs ts:Int)≤c'
 |[],d,k,c,c',N,i,rs,h=>by
  rw [rebTs] at h;cases h
  rw [nodesTs];omega
 |t::ts,d,k,c,c',N,i,rs,h=>by
  rw [rebTs] at h;rw [nodesTs];cases h5:rebT (gJ J) c (d+moreD k i N) t with
  |none=>rw [h5] at h;cases h
  |some p=>
   obtain ⟨c1,r1⟩:=p;have:=reb_ge t _ c c1 r1 h5;rw [h5] at h;simp only at h;cases h6:rebTs (gJ J) c1 d k N (i+1) ts with
   |none=>rw [h6] at h;cases h
   |some p2=>
    obtain ⟨c2,rs2⟩:=p2;have:=rebs_ge ts d k c1 c2 N (i+1) rs2 h6;rw [h6] at h;cases h
    omega
end
mutual
theorem put_reb {xa:List Tm} (hx:∀ x∈xa,rightP 4 1099511627776 x=true):∀ (t:Tm) (v deep d c s:Int),rightT wordB 4 v deep t=true→0≤d→0≤s→PR (rebT (gJ (putJ xa)) c d t) (rebT (puN xa) s d t) c s (nodesT t)
 |.mk k n nm l a,v,deep,d,c,s,h,hd,hs=>by
  obtain ⟨h1,h2,h3,h4⟩:=right_args h;have e:=put_node hx (c:=c) (s:=s) (d:=d) ⟨h2,h3⟩ hd hs;unfold PR;rw [rebT,rebT,e,nodesT];cases h5:gJ (putJ xa) c (.mk k n nm l []) d with
  |none=>rfl
  |some p=>
   obtain ⟨c1,r1⟩:=p;have hg:=gJ_ge h5;simp only;by_cases ha:a.length=0
   ·obtain rfl:=List.eq_nil_of_length_eq_zero ha
    rw [nodesTs,if_pos ha];by_cases hh:c1-c-(1+(l.length:Int))≤s
    ·rw [if_pos hh]
     simp only;rw [if_pos ha,if_pos (by omega),show s-(c1-c-(1+(l.length:Int)))=s-(c1-c-((1+l.length+0:Nat):Int)) by omega]
    ·rw [if_neg hh]
     simp only;rw [if_neg (by omega)]
   ·rw [if_neg ha]
    by_cases hh:c1-c-(1+(l.length:Int))≤s
    ·rw [if_pos hh]
     simp only;rw [if_neg ha];have ih:=puts_reb hx a v deep d k c1 (s-(c1-c-(1+(l.length:Int)))) a.length 0 h1 h4 hd (by omega);unfold PR at ih;rw [ih];cases h6:rebTs (gJ (putJ xa)) c1 d k a.length 0 a with
     |none=>rfl
     |some p2=>
      obtain ⟨c2,rs⟩:=p2;simp only [Option.map_some];by_cases h7:c2-c1-(nodesTs a:Int)≤s-(c1-c-(1+(l.length:Int)))
      ·rw [if_pos h7,if_pos (by omega),show s-(c1-c-(1+(l.length:Int)))-(c2-c1-(nodesTs a:Int))=s-(c2-c-((1+l.length+nodesTs a:Nat):Int)) by omega]
       rfl
      ·rw [if_neg h7,if_neg (by omega)]
       rfl
    ·rw [if_neg hh]
     cases h6:rebTs (gJ (putJ xa)) c1 d k a.length 0 a with
     |none=>rfl
     |some p2=>
      obtain ⟨c2,rs⟩:=p2;have:=rebs_ge a d k c1 c2 a.length 0 rs h6;simp only [Option.map_some];rw [if_neg (by omega)]
theorem puts_reb {xa:List Tm} (hx:∀ x∈xa,rightP 4 1099511627776 x=true):∀ (ts:List Tm) (v deep d k c s:Int) (N i:Nat),N=argsOf k→rightTs wordB 4 v deep k i ts=true→0≤d→0≤s→PR (rebTs (gJ (putJ xa)) c d k N i ts) (rebTs (puN xa) s d k N i ts) c s (nodesTs ts)
 |[],v,deep,d,k,c,s,N,i,_,_,_,hs=>by
  unfold PR;rw [rebTs,rebTs,nodesTs];simp only;rw [if_pos (by omega),show s-(c-c-((0:Nat):Int))=s by omega]
 |t::ts,v,deep,d,k,c,s,N,i,hN,h,hd,hs=>by
  rw [rightTs,Bool.and_eq_true] at h;have hm:=more_01 k i;have h1:=put_reb hx t _ _ (d+moreT k i) c s h.1 (by omega) hs;unfold PR at h1 ⊢;rw [rebTs,rebTs,nodesTs,more_eq hN,h1];cases h5:rebT (gJ (putJ xa)) c (d+moreT k i) t with
  |none=>rfl
  |some p=>
   obtain ⟨c1,x⟩:=p;have:=reb_ge t _ c c1 x h5;simp only;by_cases hh:c1-c-(nodesT t:Int)≤s
   ·rw [if_pos hh]
    simp only;have ih:=puts_reb hx ts v deep d k c1 (s-(c1-c-(nodesT t:Int))) N (i+1) hN h.2 hd (by omega);unfold PR at ih;rw [ih];cases h6:rebTs (gJ (putJ xa)) c1 d k N (i+1) ts with
    |none=>rfl
    |some p2=>
     obtain ⟨c2,xs⟩:=p2;simp only [Option.map_some];by_cases h7:c2-c1-(nodesTs ts:Int)≤s-(c1-c-(nodesT t:Int))
     ·rw [if_pos h7,if_pos (by omega),show s-(c1-c-(nodesT t:Int))-(c2-c1-(nodesTs ts:Int))=s-(c2-c-((nodesT t+nodesTs ts:Nat):Int)) by omega]
      rfl
     ·rw [if_neg h7,if_neg (by omega)]
      rfl
   ·rw [if_neg hh]
    cases h6:rebTs (gJ (putJ xa)) c1 d k N (i+1) ts with
    |none=>rfl
    |some p2=>
     obtain ⟨c2,xs⟩:=p2;have:=rebs_ge ts d k c1 c2 N (i+1) xs h6;simp only [Option.map_some];rw [if_neg (by omega)]
end
theorem put_job {xa:List Tm} {t:Tm}:(if (∀ x∈xa,rightP 4 1099511627776 x=true) then doO (putJ xa) t else none)=putO xa t:=by
 unfold putO;by_cases hx:∀ x∈xa,rightP 4 1099511627776 x=true
 ·rw [if_pos hx]
  by_cases ht:rightP 4 1099511627776 t=true
  ·have hn:=(rightP_parts ht).2.1
   rw [if_pos ⟨hx,ht⟩,doO_reb ht];have h:=put_reb hx t _ _ 0 0 (3000-cntT t) (rightP_parts ht).2.2 (Int.le_refl _) (by rw [cnt_nodes hn];omega);unfold PR at h;unfold puO;rw [h,cnt_nodes hn];cases h5:rebT (gJ (putJ xa)) 0 0 t with
   |none=>rfl
   |some p=>
    obtain ⟨c',r⟩:=p;simp only;by_cases hc:c'≤3000
    ·rw [if_pos hc,if_pos (by omega)]
     rfl
    ·rw [if_neg hc,if_neg (by omega)]
     rfl
  ·rw [if_neg (fun e=>ht e.2)]
   exact if_neg ht
 ·rw [if_neg hx,if_neg (fun e=>hx e.1)]
end Go.Proofs.YtdhnlckfcccnlaaGreat
