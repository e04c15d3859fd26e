import Derived.Test.YtdhnlckfcccnlaaGreatQMovH
import Derived.Test.YtdhnlckfcccnlaaGreatQTrmRr
import Derived.Test.YtdhnlckfcccnlaaGreatQGenT
import Derived.Test.YtdhnlckfcccnlaaGreatQLevC
import Derived.Test.YtdhnlckfcccnlaaGreatQMovU
import Derived.Test.YtdhnlckfcccnlaaGreatQMovG
namespace Go.Proofs.YtdhnlckfcccnlaaGreat
open Go Go.RowKit
mutual
def namesT:Tm→List (List UInt8)
 |.mk k _ s _ a=>(if k=4∨k=9 then [s] else [])++namesTs a
def namesTs:List Tm→List (List UInt8)
 |[]=>[]
 |t::ts=>namesT t++namesTs ts
end
mutual
def renT (fr to:List UInt8):Tm→Tm
 |.mk k n s l a=>.mk k n (if s=fr∧(k=4∨k=9) then to else s) l (renTs fr to a)
def renTs (fr to:List UInt8):List Tm→List Tm
 |[]=>[]
 |t::ts=>renT fr to t::renTs fr to ts
end
theorem renTs_len (fr to:List UInt8):∀ (ts:List Tm),(renTs fr to ts).length=ts.length
 |[]=>by rw [renTs]
 |t::ts=>by rw [renTs,List.length_cons,List.length_cons,renTs_len fr to ts]
theorem renG_mk (fr to:List UInt8) (st:Unit) (k n:Int) (s:List UInt8) (l:List Lv) (d:Int):renG fr to st (.mk k n s l []) d=some ((),.mk k n (if s=fr∧(k=4∨k=9) then to else s) l []):=by
 show (some (if s=fr∧(k=4∨k=9) then Tm.mk k n to l [] else Tm.mk k n s l [])).map (fun r=>((),r))=_
 by_cases h:s=fr∧(k=4∨k=9)
 ·rw [if_pos h,if_pos h];rfl
 ·rw [if_neg h,if_neg h];rfl
mutual
theorem reb_ren (fr to:List UInt8):∀ (t:Tm) (st:Unit) (d:Int),rebT (renG fr to) st d t=some ((),renT fr to t)
 |.mk k n s l a,st,d=>by
  rw [rebT,renT,renG_mk];simp only;by_cases ha:a.length=0
  ·rw [if_pos ha,List.eq_nil_of_length_eq_zero ha,renTs]
  ·rw [if_neg ha,rebs_ren fr to a () d k a.length 0]
   rfl
theorem rebs_ren (fr to:List UInt8):∀ (ts:List Tm) (st:Unit) (d k:Int) (N i:Nat),rebTs (renG fr to) st d k N i ts=some ((),renTs fr to ts)
 |[],_,_,_,_,_=>by rw [rebTs,renTs]
 |t::ts,st,d,k,N,i=>by
  rw [rebTs,renTs,reb_ren fr to t st];simp only [rebs_ren fr to ts () d k N (i+1)]
  rfl
end
theorem renO_ren (fr to:List UInt8) (t:Tm):renO fr to t=some (renT fr to t):=by
 unfold renO;rw [reb_ren]
 rfl
mutual
theorem ren_nodes (fr to:List UInt8):∀ (t:Tm),nodesT (renT fr to t)=nodesT t
 |.mk k n s l a=>by rw [renT,nodesT,nodesT,rens_nodes fr to a]
theorem rens_nodes (fr to:List UInt8):∀ (ts:List Tm),nodesTs (renTs fr to ts)=nodesTs ts
 |[]=>by rw [renTs]
 |t::ts=>by rw [renTs,nodesTs,nodesTs,ren_nodes fr to t,rens_nodes fr to ts]
end
mutual
theorem ren_right {fr to:List UInt8} {p:Int} (hw:wordB to=true):∀ (t:Tm) (v d:Int),rightT wordB p v d t=true→rightT wordB p v d (renT fr to t)=true
 |.mk k n s l a,v,d,h=>by
  have r:=rightT_iff.1 h;rw [renT];refine rightT_iff.2 ⟨r.k1,r.k9,r.d2,by rw [renTs_len];exact r.args,r.lvs,r.l4,r.lv,fun hk=>?_,fun hk=>?_,r.n0,r.nv,r.n9,r.nz,rens_right hw a v d k 0 r.parts⟩
  ·split
   ·exact hw
   ·exact r.nm hk
  ·rw [if_neg (fun e=>hk e.2)]
   exact r.nn hk
theorem rens_right {fr to:List UInt8} {p:Int} (hw:wordB to=true):∀ (ts:List Tm) (v d k:Int) (i:Nat),rightTs wordB p v d k i ts=true→rightTs wordB p v d k i (renTs fr to ts)=true
 |[],_,_,_,_,_=>by rw [renTs,rightTs]
 |t::ts,v,d,k,i,h=>by
  rw [rightTs,Bool.and_eq_true] at h;rw [renTs,rightTs,Bool.and_eq_true];exact ⟨ren_right hw t _ _ h.1,rens_right hw ts v d k (i+1) h.2⟩
end
theorem ren_rightP {fr to:List UInt8} {t:Tm} (hw:wordB to=true) (h:rightP 4 1099511627776 t=true):rightP 4 1099511627776 (renT fr to t)=true:=by
 unfold rightP at h ⊢;rw [ren_nodes];simp only [Bool.and_eq_true] at h ⊢;exact ⟨h.1,h.2.1,ren_right hw t _ _ h.2.2⟩
mutual
theorem ren_sm {fr to:List UInt8} (hl:to.length≤reachBytes):∀ (t:Tm),SmT t→SmT (renT fr to t)
 |.mk k n s l a,h=>by
  rw [SmT] at h;rw [renT,SmT,renTs_len];refine ⟨?_,h.2.1,h.2.2.1,rens_sm hl a h.2.2.2⟩
  split
  ·exact hl
  ·exact h.1
theorem rens_sm {fr to:List UInt8} (hl:to.length≤reachBytes):∀ (ts:List Tm),SmTs ts→SmTs (renTs fr to ts)
 |[],h=>by rw [renTs];exact h
 |t::ts,h=>by
  rw [SmTs] at h;rw [renTs,SmTs];exact ⟨ren_sm hl t h.1,rens_sm hl ts h.2⟩
end
theorem names_le:∀ (t:Tm),(namesT t).length≤nodesT t
 |.mk k n s l a=>by
  rw [namesT,nodesT,List.length_append];have:=namess_le a
  split<;>simp<;>omega
where namess_le:∀ (ts:List Tm),(namesTs ts).length≤nodesTs ts
 |[]=>by rw [namesTs];exact Nat.zero_le _
 |t::ts=>by
  rw [namesTs,nodesTs,List.length_append];have:=names_le t;have:=namess_le ts;omega
end Go.Proofs.YtdhnlckfcccnlaaGreat
namespace Go.Proofs.YtdhnlckfcccnlaaGreat
open Go Go.RowKit
set_option maxRecDepth 100000
def instAll (bs:List Lv):List Lv→Option (List Lv)
 |[]=>some []
 |l::ls=>match instL l bs with
  |none=>none
  |some r=>(instAll bs ls).map (r::·)
theorem instAll_append (bs : List Lv) : ∀ (a b : List Lv), instAll bs (a ++ b) = match instAll bs a with
    |none=>none
    |some rs=>(instAll bs b).map (rs++·)
 |[],b=>by
  rw [List.nil_append,instAll];cases instAll bs b<;>simp
 |l::a,b=>by
  rw [List.cons_append,instAll,instAll];cases instL l bs with
  |none=>rfl
  |some r=>
   simp only;rw [instAll_append bs a b];cases instAll bs a with
   |none=>rfl
   |some rs=>simp only [Option.map_some];cases instAll bs b<;>rfl
theorem instAll_more {bs ls rs:List Lv} {i:Nat} {x r:Lv} (h:instAll bs (ls.take i)=some rs) (hx:ls.take (i+1)=ls.take i++[x]) (hr:instL x bs=some r):instAll bs (ls.take (i+1))=some (rs++[r]):=by
 rw [hx,instAll_append,h];simp only;rw [instAll,hr]
 simp [instAll]
theorem instAll_fall {bs ls rs:List Lv} {i:Nat} {x:Lv} (h:instAll bs (ls.take i)=some rs) (hx:ls.take (i+1)=ls.take i++[x]) (hr:instL x bs=none):instAll bs ls=none:=by
 have h1:instAll bs (ls.take (i+1))=none:=by
  rw [hx,instAll_append,h];simp only;rw [instAll,hr]
  rfl
 rw [← List.take_append_drop (i+1) ls,instAll_append,h1]
def levN (bs:List Lv) (t:Tm) (_:Int):Option Tm:=(instAll bs t.levels).map fun ls=>.mk t.kind t.n t.name ls t.args
def levG (bs:List Lv) (_:Unit) (t:Tm) (d:Int):Option (Unit × Tm):=(levN bs t d).map fun r=>((),r)
def levO (bs:List Lv) (t:Tm):Option Tm:=(rebT (levG bs) () 0 t).map (·.2)
def levelsO (bs:List Lv) (t:Tm):Option Tm:=if rightP 4 1099511627776 t=true then levO bs t else none
def lvf (ls:List Lv):List Value:=(ls.map fun l=>ints .i64 l.zs).flatten
theorem lvf_len:∀ (ls:List Lv),(∀ x∈ls,x.p.length=4)→(lvf ls).length=5*ls.length
 |[],_=>rfl
 |l::ls,h=>by
  have h1:=lvf_len ls fun x hx=>h x (by simp [hx])
  have h2:=lvLen (h l (by simp));unfold lvf at h1 ⊢;rw [List.map_cons,List.flatten_cons,List.length_append,h1,h2]
  simp [z5,ints]
  omega
theorem lvf_mid (a b:List Lv) (x:Lv):lvf (a++x::b)=lvf a++(ints .i64 x.zs++lvf b):=by simp [lvf]
theorem lv_splice {cs:List Value} {a b:List Lv} {x r:Lv} {i L:Nat} (ha:∀ y∈a++x::b,y.p.length=4) (hr:r.p.length=4) (hi:a.length=i) (hL:(a++x::b).length=L) (h:cs.take (L*5)=lvf (a++x::b)):(splice cs (0+5*i) (ints .i64 r.zs)).take (L*5)=lvf (a++r::b):=by
 have la:=lvf_len a fun y hy=>ha y (by simp [hy])
 have lb:=lvf_len b fun y hy=>ha y (by simp [hy])
 have lx:(ints .i64 x.zs).length=5:=(lvLen (ha x (by simp))).trans rfl;have lr:(ints .i64 r.zs).length=5:=(lvLen hr).trans rfl;have e:cs=lvf a++(ints .i64 x.zs++(lvf b++cs.drop (L*5))):=by
  rw [← List.append_assoc,← List.append_assoc,List.append_assoc (lvf a),← lvf_mid,← h,List.take_append_drop]
 simp only [List.length_append,List.length_cons] at hL;obtain ⟨D,hD⟩:∃ D,D=cs.drop (L*5):=⟨_,rfl⟩;rw [← hD] at e;have t1:cs.take (0+5*i)=lvf a:=(by rw [e,Nat.zero_add];exact List.take_left' (by omega));have t2:cs.drop (0+5*i+5)=lvf b++D:=(by rw [e,Nat.zero_add,← List.append_assoc];exact List.drop_left' (by rw [List.length_append];omega));unfold splice;rw [t1,lr,t2,lvf_mid,← List.append_assoc,← List.append_assoc];exact List.take_left' (by simp only [List.length_append];omega)
theorem RowL.blk {m:Nat} {w:World} {a:Option Addr} {n c:Nat} {ls:List Lv} (h:RowL m w (.slice a n c) ls) (hp:0<ls.length):∃ g cs,a=some ⟨g,0,none⟩∧m≤g∧n=ls.length∧Blk w g 51 cs∧cs.length=c*5∧n≤c∧c≤maxLen∧cs.take (n*5)=lvf ls:=by
 obtain ⟨⟨h1,h2⟩,h3⟩:=h;rcases h2 with ⟨h2,h4⟩|⟨g,cap,cur,e1,e2,e3,e4,e5,e6,e7⟩
 ·omega
 ·cases e1
  exact ⟨g,cur.toList,rfl,e2,rfl,by rw [Blk,Array.toArray_toList];exact e3,by simpa using e6,e4,e5,e7⟩
theorem RowL.of_blk {m g n c:Nat} {w:World} {ls:List Lv} {cs:List Value} (hm:m≤g) (hn:ls.length=n) (hb:Blk w g 51 cs) (hc:cs.length=c*5) (hnc:n≤c) (hx:c≤maxLen) (ht:cs.take (n*5)=lvf ls) (hp:∀ x∈ls,x.p.length=4):RowL m w (.slice (some ⟨g,0,none⟩) n c) ls:=by
 subst hn;refine ⟨⟨?_,.inr ⟨g,c,cs.toArray,rfl,hm,hb,hnc,hx,by simpa using hc,by unfold lvf at ht;simpa using ht⟩⟩,hp⟩;have h:=lvf_len ls hp;unfold lvf at h;omega
theorem LvsIn.bel {w w':World} {v:Value} {ls:List Lv} (h:LvsIn w v ls) (hb:Bel [] w.heap.size w w'):LvsIn w' v ls:=h.below (hb.below (fun k hk=>by cases hk)) (Nat.le_refl _)
def MadeB (r:Option Tm) (B:Nat) (w:World) (e:Ending) (w':World):Prop:=Bel [] B w w'∧match r with
 |some t=>∃ cs,e=.returned (.agg cs.toArray)∧TmAt (List.range B) w' t cs
 |none=>Fell e
theorem MadeB.no {r:Option Tm} {B:Nat} {w w':World} {e:Ending} (hb:Bel [] B w w') (hr:r=none) (he:Fell e):MadeB r B w e w':=by subst hr;exact ⟨hb,he⟩
theorem MadeB.yes {r:Option Tm} {t:Tm} {B:Nat} {w w':World} {e:Ending} {cs:List Value} (hb:Bel [] B w w') (hr:r=some t) (he:e=.returned (.agg cs.toArray)) (ht:TmAt (List.range B) w' t cs):MadeB r B w e w':=by subst hr;exact ⟨hb,cs,he,ht⟩
theorem Swap.ofB {g : Tm → Int → Option Tm} {gf : FuncId} {lb : Array Value} {w0 : World} (fn : ∀ args w, (callFunc gf args).run Tryz.prog w = .ok (.enter gf args) w)
    (call:∀ (t:Tm) (d:Int) (cs:List Value) (w:World) (B:Nat),t.args=[]→SmT t→TmAt (List.range B) w t cs→w0.heap.size≤B→B≤w.heap.size→Bel [] w0.heap.size w0 w→(∃ lv av,cs=[.int .i64 t.kind,.int .i64 t.n,strT t.name,lv,av]∧RowL B w lv t.levels)→Calls Tryz.prog gf (#[.agg cs.toArray,.int .i64 d]++lb) w (MadeB (g t d) B w)) :
    Swap (fun (_:Unit) t d=>(g t d).map fun r=>((),r)) gf lb (fun _ w=>Bel [] w0.heap.size w0 w) [] w0.heap.size where
 fn:=fn
 low:=fun k hk=>by cases hk
 keep:=fun s w w' h hE hb=>h.trans hb
 call:=fun s t d cs w B ha hs hn hd ht hE hB hI ho=>(call t d cs w B ha hs ht hE hB hI ho).mono fun e w' h=>by
  obtain ⟨hb,hr⟩:=h;refine ⟨hb,?_⟩;cases hg:g t d with
  |none=>rw [hg] at hr;exact hr
  |some r=>rw [hg] at hr;obtain ⟨cs',h1,h2⟩:=hr;exact ⟨cs',h1,h2,hI.trans (hb.mono hE)⟩
theorem RowL.off {m b:Nat} {w w':World} {a:Option Addr} {n c:Nat} {ls:List Lv} (h:RowL m w (.slice a n c) ls) (hu:Upd b w w') (hb:∀ g,a=some ⟨g,0,none⟩→g≠b):RowL m w' (.slice a n c) ls:=by
 obtain ⟨⟨h1,h2⟩,h3⟩:=h;refine ⟨⟨h1,?_⟩,h3⟩;rcases h2 with h2|⟨g,cap,cur,e1,e2,e3,e4⟩
 ·exact .inl h2
 ·cases e1
  exact .inr ⟨g,c,cur,rfl,e2,(hu.block g (Array.getElem?_eq_some_iff.1 e3).1 (hb g rfl)).trans e3,e4⟩
theorem instUp_len {l:Lv} {bs:List Lv} (hb:∀ x∈bs,x.p.length=4):∀ (k:Nat) (r:Lv),instUp l bs k=some r→r.p.length=4
 |0,r,h=>by
  obtain rfl:=Option.some.inj h
  rfl
 |k+1,r,h=>by
  rw [instUp] at h
  split at h
  ·cases h
  ·next r0 h0=>
   have i1:=instUp_len hb k r0 h0
   split at h
   ·obtain rfl:=Option.some.inj h
    exact i1
   ·split at h
    ·obtain rfl:=Option.some.inj h
     refine max2_len i1 (upRaw_len ?_);rw [List.getD_eq_getElem?_getD];cases hx:bs[k]? with
     |none=>rfl
     |some x=>exact hb x (List.mem_of_getElem? hx)
    ·cases h
theorem inst_len {l r:Lv} {bs:List Lv} (hb:∀ x∈bs,x.p.length=4) (h:instL l bs=some r):r.p.length=4:=by
 unfold instL at h
 split at h
 ·exact instUp_len hb _ _ h
 ·cases h
theorem LvsIn.len4 {w:World} {v:Value} {ls:List Lv} (h:LvsIn w v ls):∀ x∈ls,x.p.length=4:=by
 obtain ⟨_,_,_,_,_,h,_⟩:=h;exact h
set_option maxHeartbeats 8000000 in
theorem levels11_walk (bs : List Lv) (ba : Option Addr) (NB bc : Nat) (bl : Nat) (w0 : World) (t : Tm) (d : Int) (cs : List Value) (w : World) (B : Nat) (ha : t.args = []) (hs : SmT t) (ht : TmAt (List.range B) w t cs) (hE : w0.heap.size ≤ B) (hB : B ≤ w.heap.size) (h0 : Bel [] w0.heap.size w0 w) (ho : ∃ lv av, cs = [.int .i64 t.kind, .int .i64 t.n, strT t.name, lv, av] ∧ RowL B w lv t.levels) (hb : Blk w0 bl 22 [.slice ba NB bc]) (hv : LvsIn w0 (.slice ba NB bc) bs) :
    Calls Tryz.prog 40 #[.agg cs.toArray,.int .i64 d,.pointer (some ⟨bl,0,none⟩)] w (MadeB (levN bs t d) B w):=by
 obtain ⟨k,n,nm,ls,a⟩:=t;dsimp only [Tm.kind,Tm.n,Tm.name,Tm.levels,Tm.args] at ha ho ⊢;subst ha;obtain ⟨R,hR⟩:∃ R,Hid (levN bs (.mk k n nm ls []) d=R):=⟨_,rfl⟩;rw [hR.out];obtain ⟨lv,av,rfl,hrow⟩:=ho;obtain ⟨lv',av',he,h1,h2⟩:=ht.open;obtain ⟨la,lc,hlv⟩:=h1.slice;obtain ⟨va,vc,hav⟩:=h2.slice;obtain ⟨rfl,rfl⟩:lv=lv'∧av=av':=(by simpa [Tm.kind,Tm.n,Tm.name] using he);subst hlv hav;dsimp only [Tm.kind,Tm.n,Tm.name,Tm.levels,Tm.args,List.length_nil] at h1 hrow ht ⊢;obtain ⟨-,sl,-,-⟩:=hs.open;dsimp only [Tm.name,Tm.levels] at sl;obtain ⟨L,hL⟩:∃ L,Hid (ls.length=L):=⟨_,rfl⟩;rw [hL.out] at hrow sl ht h1 ⊢;rw [show reachBytes=140737488351232 from rfl] at sl;obtain ⟨q,hq⟩:∃ q,Hid (w.heap.size=q):=⟨_,rfl⟩;rw [hq.out] at hB;have HE:=hZ hE;have HB:=hZ hb;have HV:=hZ hv;have H0:=hZ h0;have HR:=hZ hrow;have C1:=hZ ht.one;clear hb hv ht h1 h2 hrow he h0;obtain ⟨CS,hCS⟩:∃ x,Hid ([.int .i64 k,.int .i64 n,strT nm,.slice la L lc,.slice va 0 vc]=x):=⟨_,rfl⟩;rw [hCS.out] at C1 ⊢;have C5:Hid (CS.length=5):=by rw [Hid,← hCS.out];rfl
 go_enter Tryz.func40,Tryz.ntmps40
 go_upto_region 0 with (fail);refine lbeg (opsOf Tryz.f40 0) ?_;refine lbox 0 25 (.tmp 0) (CS) (q) (some 3) hq ?_;intro w1 bw1 bew1 hsw1;refine lall 1 25 z5T (q+1) (some 5) hsw1 ?_;intro w2 bw2 bew2 hsw2;refine ldq 2 ?_;have B1:Hid (Blk w2 q 25 CS):=bw1.below bew2 (by omega);have B2:Hid (Blk w2 (q+1) 25 z5T):=bw2;have bq:Below q w w2:=bew1.trans (bew2.mono (by omega));have BE:Hid (Bel [] B w w2):=Bel.of (bq.mono hB);have S2:Hid (q+2≤w2.heap.size):=(by have:=hsw2.out;rw [Hid];omega);have R2:Hid (RowL B w2 (.slice la L lc) ([]++ls.drop 0)):=(by rw [Hid,List.nil_append,List.drop_zero];exact HR.out.below (by rw [hq.out];exact bq));have LQ:Hid (∀ g,la=some ⟨g,0,none⟩→g<q):=fun g hg=>by have h:=(HR.out.own g (by rw [hg];rfl)).2;have:=hq.out;omega
 clear bw1 bew1 hsw1 bw2 bew2 hsw2 HR bq;go_upto_region 1 with (fail);refine lbeg (opsOf Tryz.f40 1) ?_;refine lnow 0 (.pointer (some ⟨q,3,none⟩)) (some 10) ?_;refine lcl 1 (.slice la L lc) (some 11) 22 10 (q) 3 (B1.out.cell (by rw [← hCS.out];rfl)) Tryz.underlying22 ?_;refine lnow 2 (.int .i64 (L:Int)) (some 12) ?_;refine lnow 3 (.int .i64 0) (some 13) ?_;refine ldq 4 ?_;go_wp2
 go_loopw [13] (fun iv wr=>∃ (i:Nat) (rs:List Lv),i≤L∧iv=.int .i64 (i:Int)∧Hid (instAll bs (ls.take i)=some rs)∧Hid (rs.length=i)∧Hid (RowL B wr (.slice la L lc) (rs++ls.drop i))∧Hid (Blk wr q 25 CS)∧Hid (Blk wr (q+1) 25 z5T)∧Hid (Bel [] B w wr)∧Hid (q+2≤wr.heap.size)) (fun iv _=>L-(intOf iv).toNat)
 case atStart=>exact ⟨0,[],Nat.zero_le _,rfl,by rw [Hid,List.take_zero];rfl,rfl,R2,B1,B2,BE,S2⟩
 case round=>
  obtain ⟨i,rs,hi,rfl,IA,RL,RR,B1,B2,BE,S2⟩:=hrel;by_cases hlt:i<L
  rotate_left
  ·skip
   have rlt:¬ (i:Int)<(L:Int):=(by omega);obtain rfl:i=L:=(by omega);have hIA:=IA.out;rw [List.take_of_length_le (by have:=hL.out;omega)] at hIA;have hRR:=RR.out;rw [List.drop_eq_nil_of_le (by have:=hL.out;omega),List.append_nil] at hRR;have OPT:Hid (R=some (.mk k n nm rs [])):=hR.out.symm.trans (by unfold levN;simp only [Tm.kind,Tm.n,Tm.name,Tm.levels,Tm.args];rw [hIA];rfl);have HRR:=hZ hRR;clear hIA hRR IA RR;go_upto_region 8 with (fail);refine lbeg (opsOf Tryz.f40 8) ?_;refine lrl 0 (CS) (some 32) 25 3 (q) 0 (B1.out).whole Tryz.underlying25 (t5Size C5.out) ?_;refine lput 1 25 (.tmp 5) (.tmp 32) (q+1) _ (z5T) (CS) B2.out (C5.out.trans (rfl:z5T.length=5).symm) (t5Size C5.out) (by simpa using C1.out) ?_;intro w9 bw9 uw9;refine ldq 2 ?_;have BE9:Hid (Bel [] B w w9):=BE.out.upd uw9 (.inr (by omega)) (by have:=S2.out;omega);have R9:RowL B w9 (.slice la i lc) rs:=RowL.off HRR.out uw9 (fun g hg=>by have:=LQ.out g hg;omega)
   have FT:Hid (TmAt (List.range B) w9 (.mk k n nm rs []) CS):=(by rw [Hid,← hCS.out];exact TmAt.mk (t:=.mk k n nm rs []) (RowL.in R9) (TmsAt.nil _ _ _ _));clear R9 HRR;go_wp2;refine bodyPost_ret (v:=.agg CS.toArray) ?_ rfl (MadeB.yes BE9.out OPT.out rfl FT.out);exact results_cell_row (g:=q+1) (t:=25) (cs:=(CS).toArray) (fr:=(0,0)) Tryz.results40 _ _ _ rfl bw9 Tryz.underlying25 rfl (t5Size C5.out)
  have rlt:(i:Int)<(L:Int):=(by omega);obtain ⟨x,hx⟩:∃ x,ls[i]?=some x:=⟨_,List.getElem?_eq_getElem (by have:=hL.out;omega)⟩;have DR:ls.drop i=x::ls.drop (i+1):=(by rw [List.drop_eq_getElem?_toList_append,hx];rfl);have hRR:=RR.out;rw [DR] at hRR;have LEN:(rs++x::ls.drop (i+1)).length=L:=(by have:=hL.out;have:=RL.out;simp;omega);obtain ⟨g,cg,rfl,hmg,hng,hbg,hcl,hnc,hcx,htk⟩:=hRR.blk (by rw [LEN];omega);have GQ:=LQ.out g rfl;have AL:=hRR.2;have x4:=AL x (by simp);have hLV:=RowL.in hRR;have hrx:=hZ (LvsOff.rng hLV (i:=i) (x:=x) (by rw [List.getElem?_append_right (by rw [RL.out];exact Nat.le_refl i),RL.out,Nat.sub_self];rfl));have BG:=hZ hbg;have TK:=hZ htk;have ALL:=hZ AL;have TKX:Hid (ls.take (i+1)=ls.take i++[x]):=(by rw [Hid,List.take_add_one,hx];rfl);have LENH:=hZ LEN;have hcl5:cg.length=lc*5∧L≤lc:=⟨hcl,hnc⟩;have HCL:=hZ hcl5;have HMG:Hid (B≤g):=hmg;have HCX:Hid (lc≤maxLen):=hcx;clear hRR hLV hbg htk AL RR DR hx hng LEN hcl hnc hcx hcl5;obtain ⟨qx,hqx⟩:∃ y,Hid (wr.heap.size=y):=⟨_,rfl⟩;go_upto_region 3 with (fail);refine lbeg (opsOf Tryz.f40 3) ?_;refine lnow 0 (.int .i64 (i:Int)) (some 15) ?_;refine lix 1 (.pointer (some ⟨g,0+5*i,none⟩)) (some 16) 22 11 13 (run_at_lv g 0 L lc i hlt _) ?_;refine lrl 2 (ints .i64 x.zs) (some 17) 51 16 g (0+5*i) hrx.out Tryz.underlying51 (lvSize x4) ?_
  refine lall 3 51 (ints .i64 z5) qx (some 7) hqx ?_;intro w5 bw5 bew5 hsw5;refine lnow 4 (.int .i64 (i:Int)) (some 6) ?_;refine lput 5 51 (.tmp 7) (.tmp 17) qx _ (ints .i64 z5) (ints .i64 x.zs) bw5 (lvLen x4) (lvSize x4) (ints_oneCell _ _) ?_;intro w6 bw6 uw6;refine ldq 6 ?_;have kp:Below qx wr w6:=uw6.below bew5 (Nat.le_refl _) (by have:=bew5.size;have:=hqx.out;omega);have QX:Hid (q+2≤qx):=(by have:=S2.out;have:=hqx.out;rw [Hid];omega);have qxo:=QX.out;have B16:Hid (Blk w6 q 25 CS):=B1.out.below kp (by omega);have B26:Hid (Blk w6 (q+1) 25 z5T):=B2.out.below kp (by omega);have BE6:Hid (Bel [] B w w6):=BE.out.trans (Bel.of (kp.mono (by omega)));have BG6:Hid (Blk w6 g 51 cg):=BG.out.below kp (by omega);have BX:=hZ bw6;have S6:Hid (qx<w6.heap.size):=bw6.lt;have E6:Bel [] w0.heap.size w0 w6:=H0.out.trans (BE6.out.mono HE.out);have BL6:Hid (Blk w6 bl 22 [.slice ba NB bc]):=E6.blk HB.out HB.out.lt (by simp);have LV6:Hid (LvsIn w6 (.slice ba NB bc) bs):=HV.out.bel E6;clear bw5 bew5 hsw5 bw6 uw6 kp B1 B2 BE BG hrx E6 S2 hqx;have IW:=inst_walk x x4 (.slice ba NB bc) bs w6 LV6.out;obtain ⟨io,hio⟩:∃ y,Hid (instL x bs=y):=⟨_,rfl⟩;obtain ⟨q8,hq8⟩:∃ y:Nat,True:=⟨0,trivial⟩;clear hq8;obtain _|r:=io
  ·skip
   have NOP:Hid (R=none):=hR.out.symm.trans (by unfold levN;simp only [Tm.levels];rw [instAll_fall IA.out TKX.out hio.out];rfl);rw [instV_no hio.out] at IW;go_upto_region 4 with (fail);refine lbeg (opsOf Tryz.f40 4) ?_;refine lrl 0 (ints .i64 x.zs) (some 19) 51 7 qx 0 BX.out.whole Tryz.underlying51 (lvSize x4) ?_;refine lcl 1 (.slice ba NB bc) (some 20) 22 2 (bl) 0 (BL6.out.cell rfl) Tryz.underlying22 ?_;refine lcal 2 41 #[.agg (ints .i64 x.zs).toArray,.slice ba NB bc] (some 21) _ (IW) ?_;rintro e w7 ⟨rfl,hb7⟩;refine ⟨_,rfl,?_⟩;refine lnow 3 (.tuple #[.agg (ints .i64 (z5)).toArray,.bool false]) (some 18) ?_;refine lnow 4 (.agg (ints .i64 (z5)).toArray) (some 22) ?_;refine lnow 5 (.bool false) (some 23) ?_;obtain ⟨qy,hqy⟩:∃ y,Hid (w7.heap.size=y):=⟨_,rfl⟩;refine lall 6 51 (ints .i64 z5) qy (some 8) hqy ?_;intro w8 bw8 bew8 hsw8;refine lput 7 51 (.tmp 8) (.tmp 22) qy _ (ints .i64 z5) (ints .i64 (z5)) bw8 rfl (by kernel_rfl) (ints_oneCell _ _) ?_;intro w9 bw9 uw9;refine lnow 8 (.bool false) (some 9) ?_;refine ldq 9 ?_;have QY:Hid (qx<qy):=(by have:=hb7.size;have:=S6.out;have:=hqy.out;rw [Hid];omega);have qyo:=QY.out;have kp:Below qy w7 w9:=uw9.below bew8 (Nat.le_refl _) (by have:=bew8.size;have:=hqy.out;omega);have B19:Hid (Blk w9 q 25 CS):=(B16.out.below hb7 B16.out.lt).below kp (by omega);have B29:Hid (Blk w9 (q+1) 25 z5T):=(B26.out.below hb7 B26.out.lt).below kp (by omega)
   have BE9:Hid (Bel [] B w w9):=(BE6.out.trans (Bel.of (hb7.mono (by have:=S6.out;omega)))).trans (Bel.of (kp.mono (by omega)));have BG9:Hid (Blk w9 g 51 cg):=(BG6.out.below hb7 BG6.out.lt).below kp (by omega);have BY:=hZ bw9;have S9:Hid (qy<w9.heap.size):=bw9.lt;clear hb7 bw8 bew8 hsw8 bw9 uw9 kp B16 B26 BE6 BG6 BL6 LV6 IW;go_upto_region 5 with (fail);refine lbeg (opsOf Tryz.f40 5) ?_;refine lnow 0 (.bool false) (some 24) ?_;refine lin_callP 1 29 #[.bool false,.int .i64 21] (some 25) _ (by kernel_rfl) (by kernel_rfl) (by kernel_rfl) (need_no 21 w9) ?_;rintro e w' ⟨rfl,hw'⟩;obtain rfl:=hw'.symm;exact .inr ⟨_,rfl,rfl,MadeB.no BE9.out NOP.out ⟨_,rfl⟩⟩
  have r4:r.p.length=4:=inst_len HV.out.len4 hio.out;rw [instV_yes hio.out] at IW;go_upto_region 4 with (fail);refine lbeg (opsOf Tryz.f40 4) ?_;refine lrl 0 (ints .i64 x.zs) (some 19) 51 7 qx 0 BX.out.whole Tryz.underlying51 (lvSize x4) ?_;refine lcl 1 (.slice ba NB bc) (some 20) 22 2 (bl) 0 (BL6.out.cell rfl) Tryz.underlying22 ?_;refine lcal 2 41 #[.agg (ints .i64 x.zs).toArray,.slice ba NB bc] (some 21) _ (IW) ?_;rintro e w7 ⟨rfl,hb7⟩;refine ⟨_,rfl,?_⟩;refine lnow 3 (.tuple #[.agg (ints .i64 (r.zs)).toArray,.bool true]) (some 18) ?_;refine lnow 4 (.agg (ints .i64 (r.zs)).toArray) (some 22) ?_;refine lnow 5 (.bool true) (some 23) ?_;obtain ⟨qy,hqy⟩:∃ y,Hid (w7.heap.size=y):=⟨_,rfl⟩;refine lall 6 51 (ints .i64 z5) qy (some 8) hqy ?_;intro w8 bw8 bew8 hsw8;refine lput 7 51 (.tmp 8) (.tmp 22) qy _ (ints .i64 z5) (ints .i64 (r.zs)) bw8 (lvLen r4) (lvSize r4) (ints_oneCell _ _) ?_;intro w9 bw9 uw9;refine lnow 8 (.bool true) (some 9) ?_;refine ldq 9 ?_;have QY:Hid (qx<qy):=(by have:=hb7.size;have:=S6.out;have:=hqy.out;rw [Hid];omega);have qyo:=QY.out;have kp:Below qy w7 w9:=uw9.below bew8 (Nat.le_refl _) (by have:=bew8.size;have:=hqy.out;omega);have B19:Hid (Blk w9 q 25 CS):=(B16.out.below hb7 B16.out.lt).below kp (by omega);have B29:Hid (Blk w9 (q+1) 25 z5T):=(B26.out.below hb7 B26.out.lt).below kp (by omega)
  have BE9:Hid (Bel [] B w w9):=(BE6.out.trans (Bel.of (hb7.mono (by have:=S6.out;omega)))).trans (Bel.of (kp.mono (by omega)));have BG9:Hid (Blk w9 g 51 cg):=(BG6.out.below hb7 BG6.out.lt).below kp (by omega);have BY:=hZ bw9;have S9:Hid (qy<w9.heap.size):=bw9.lt;clear hb7 bw8 bew8 hsw8 bw9 uw9 kp B16 B26 BE6 BG6 BL6 LV6 IW;go_upto_region 5 with (fail);refine lbeg (opsOf Tryz.f40 5) ?_;refine lnow 0 (.bool true) (some 24) ?_;refine lcal 1 29 #[.bool true,.int .i64 21] (some 25) _ (need_yes 21 w9) ?_;rintro e w' ⟨rfl,hw'⟩;obtain rfl:=hw'.symm;refine ⟨_,rfl,?_⟩;refine ldq 2 ?_;go_upto_region 6 with (fail);refine lbeg (opsOf Tryz.f40 6) ?_;refine lnow 0 (.pointer (some ⟨q,3,none⟩)) (some 26) ?_;refine lcl 1 (.slice (some ⟨g,0,none⟩) L lc) (some 27) 22 26 (q) 3 (B19.out.cell (by rw [← hCS.out];rfl)) Tryz.underlying22 ?_;refine lnow 2 (.int .i64 (i:Int)) (some 28) ?_;refine lrl 3 (ints .i64 r.zs) (some 29) 51 8 qy 0 BY.out.whole Tryz.underlying51 (lvSize r4) ?_;refine lix 4 (.pointer (some ⟨g,0+5*i,none⟩)) (some 30) 22 27 28 (run_at_lv g 0 L lc i hlt _) ?_;have rl5:(ints .i64 r.zs).length=5:=(lvLen r4).trans rfl;refine lin_putM 5 (0+5*i) 51 (.tmp 30) (.tmp 29) g 51 cg (ints .i64 r.zs) (by kernel_rfl) (by kernel_rfl) (by kernel_rfl) (by kernel_rfl) (by kernel_rfl) BG9.out (by have:=HCL.out;rw [rl5];omega) (lvSize r4) (ints_oneCell _ _) ?_;intro wz bwz uwz;refine ldq 6 ?_
  have N0:Hid (instAll bs (ls.take (i+1))=some (rs++[r])):=instAll_more IA.out TKX.out hio.out;have NL:Hid ((rs++[r]).length=i+1):=(by rw [Hid,List.length_append,RL.out];rfl);have NR:Hid (RowL B wz (.slice (some ⟨g,0,none⟩) L lc) ((rs++[r])++ls.drop (i+1))):=by
   rw [Hid,List.append_assoc,List.singleton_append];have LEN:=LENH.out;exact RowL.of_blk hmg (by simp only [List.length_append,List.length_cons] at LEN ⊢;exact LEN) bwz (by rw [splice_length (by have:=HCL.out;rw [rl5];omega)];exact HCL.out.1) HCL.out.2 HCX.out (lv_splice ALL.out r4 RL.out LEN TK.out) (fun y hy=>by
    rcases List.mem_append.1 hy with hy|hy
    ·exact ALL.out y (by simp [hy])
    ·rcases List.mem_cons.1 hy with rfl|hy
     ·exact r4
     ·exact ALL.out y (by simp [hy]))
  have N1:Hid (Blk wz q 25 CS):=uwz.blk B19.out (by omega);have N2:Hid (Blk wz (q+1) 25 z5T):=uwz.blk B29.out (by omega);have NE:Hid (Bel [] B w wz):=BE9.out.upd uwz (.inr hmg) (by have:=S9.out;omega);have NS:Hid (q+2≤wz.heap.size):=(by have:=uwz.size;have:=S9.out;rw [Hid];omega);clear bwz uwz B19 B29 BE9 BG9 BY S9 QX QY IA RL TK TKX ALL hio S6 BX;have bl':=sl;go_wp2;go_roundw
  case rel=>exact ⟨i+1,rs++[r],by omega,by go_num,N0,NL,NR,N1,N2,NE,NS⟩
  case measure=>simp [intOf];omega
theorem levels_swap (bs:List Lv) (ba:Option Addr) (NB bc:Nat) (bl:Nat) (w0:World) (hb:Blk w0 bl 22 [.slice ba NB bc]) (hv:LvsIn w0 (.slice ba NB bc) bs):Swap (levG bs) 40 #[.pointer (some ⟨bl,0,none⟩)] (fun _ w=>Bel [] w0.heap.size w0 w) [] w0.heap.size:=
 Swap.ofB (g:=levN bs) (enters_of Tryz.func40 (by kernel_rfl) rfl) (fun t d cs w B ha hs ht hE hB hI ho=>levels11_walk bs ba NB bc bl w0 t d cs w B ha hs ht hE hB hI ho hb hv)
set_option maxHeartbeats 4000000 in
theorem levels1_walk {F : List Nat} (bs : List Lv) (ba : Option Addr) (NB bc : Nat) (pl pt : Nat) (t : Tm) (cs : List Value) (w : World) (ht : TmAt F w t cs) (hs : SmT t) (hn : nodesT t ≤ 100000000000) (hb : Blk w pl 22 [.slice ba NB bc]) (hv : LvsIn w (.slice ba NB bc) bs) (hc : Blk w pt 25 cs) :
    Calls Tryz.prog 38 #[.pointer (some ⟨pt,0,none⟩),.pointer (some ⟨pl,0,none⟩)] w (Builds (levelsO bs t) w):=by
 have C5:=hZ ht.len;have HT:=hZ ht;have HV:=hZ hv;obtain ⟨R,hR⟩:∃ R,Hid (levelsO bs t=R):=⟨_,rfl⟩;rw [hR.out];obtain ⟨q,hq⟩:∃ q,Hid (w.heap.size=q):=⟨_,rfl⟩;have HQ:Hid (pl<q∧pt<q):=(by have:=hb.lt;have:=hc.lt;have:=hq.out;rw [Hid];omega);have HB:=hZ hb;have HC:=hZ hc;clear ht hb hc hv
 go_enter Tryz.func38,Tryz.ntmps38
 go_upto_region 0 with (fail);refine lbeg (opsOf Tryz.f38 0) ?_;refine lall 0 25 z5T (q) (some 2) hq ?_;intro w1 bw1 bew1 hsw1;refine ldq 1 ?_;have h3:=HQ.out;have BR:Hid (Blk w1 q 25 z5T):=bw1;have BE:Hid (Below q w w1):=bew1;have S1:Hid (q+1≤w1.heap.size):=(by have:=hsw1.out;rw [Hid];omega);have K1:Hid (Blk w1 pl 22 [.slice ba NB bc]):=HB.out.below BE.out h3.1;have K3:Hid (Blk w1 pt 25 cs):=HC.out.below BE.out h3.2;clear bw1 bew1 hsw1 HB HC;go_upto_region 1 with (fail);refine lbeg (opsOf Tryz.f38 1) ?_;refine lrl 0 (cs) (some 3) 25 0 (pt) 0 (K3.out).whole Tryz.underlying25 (t5Size C5.out) ?_;refine lin_callP 1 30 #[.agg cs.toArray] (some 4) _ (by kernel_rfl) (by kernel_rfl) (by kernel_rfl) (valid_walk t cs w1 (HT.out.step (Step.of_below BE.out (by have:=hq.out;omega))) hs hn) ?_;rintro e w2 (⟨hv,rfl,hb2⟩|⟨hv,⟨kk,rfl⟩,hb2⟩)
 rotate_left
 ·exact .inr ⟨_,rfl,rfl,Builds.no (by rw [hq.out];exact BE.out.trans (hb2.mono (by have:=S1.out;omega))) (hR.out.symm.trans (if_neg (by rw [hv];simp))) ⟨kk,rfl⟩⟩
 refine .inl ⟨_,rfl,?_⟩;have RE:Hid (R=levO bs t):=hR.out.symm.trans (if_pos hv);have BE2:Hid (Below q w w2):=BE.out.trans (hb2.mono (by have:=S1.out;omega));have BR2:Hid (Blk w2 q 25 z5T):=BR.out.below hb2 BR.out.lt;have K12:Hid (Blk w2 pl 22 [.slice ba NB bc]):=K1.out.below hb2 K1.out.lt;have S2:Hid (q+1≤w2.heap.size):=(by have:=hb2.size;have:=S1.out;rw [Hid];omega);have np:=(rightP_parts hv).2.1;have CALL:=rebuilt_walk (levels_swap bs ba NB bc pl w2 K12.out (HV.out.below BE2.out (by have:=hq.out;omega))) t cs w2 () F (HT.out.step (Step.of_below BE2.out (by have:=hq.out;omega))) (fun k hk=>by cases hk) (Nat.le_refl _) (Bel.refl _ _ _) hs (rightP_bnd hv) (by omega)
 obtain ⟨RT,hRT⟩:∃ y,Hid (rebT (levG bs) () 0 t=y):=⟨_,rfl⟩;have SO:Hid (R=RT.map (·.2)):=RE.out.trans (by unfold levO;rw [hRT.out]);rw [hRT.out] at CALL;clear hb2 hv;refine lnow 2 (.func (.func 40) #[] #[.pointer (some ⟨pl,0,none⟩)]) (some 5) ?_;refine lin_callP 3 39 #[.agg cs.toArray,.func (.func 40) #[] #[.pointer (some ⟨pl,0,none⟩)]] (some 6) _ (by kernel_rfl) (by kernel_rfl) (by kernel_rfl) (CALL) ?_;rintro e w5 ⟨hb,hres⟩;have hbb:Below w2.heap.size w2 w5:=hb.below (fun k hk=>by cases hk)
 have BE5:Hid (Below q w w5):=BE2.out.trans (hbb.mono (by have:=S2.out;omega));have BR5:Hid (Blk w5 q 25 z5T):=BR2.out.below hbb BR2.out.lt;obtain _|⟨s',r⟩:=RT
 ·obtain ⟨kk,rfl⟩:=hres
  exact .inr ⟨_,rfl,rfl,Builds.no (by rw [hq.out];exact BE5.out) SO.out ⟨kk,rfl⟩⟩
 obtain ⟨⟨cr,rfl,htr,-⟩⟩:=hres;refine .inl ⟨_,rfl,?_⟩;have CR5:=hZ htr.len;refine lput 4 25 (.tmp 2) (.tmp 6) (q) _ (z5T) (cr) BR5.out (htr.len.trans (rfl:z5T.length=5).symm) (t5Size htr.len) (by simpa using htr.one) ?_;intro w6 bw6 uw6;refine ldq 5 ?_;go_wp2;refine bodyPost_ret (v:=.agg cr.toArray) ?_ rfl (Builds.yes (by rw [hq.out];exact uw6.below BE5.out (by omega) (by have:=BE5.out.size;have:=hq.out;omega)) SO.out rfl ((TmAt.step (Step.of_upd uw6 (List.mem_range.2 (by have:=S2.out;omega))) _ _ htr).range (by have:=S2.out;have:=hq.out;omega)));exact results_cell_row (g:=q) (t:=25) (cs:=(cr).toArray) (fr:=(0,0)) Tryz.results38 _ _ _ rfl bw6 Tryz.underlying25 rfl (t5Size CR5.out)
set_option maxHeartbeats 4000000 in
theorem levels_walk {F:List Nat} (bs:List Lv) (ba:Option Addr) (NB bc:Nat) (t:Tm) (cs:List Value) (w:World) (ht:TmAt F w t cs) (hs:SmT t) (hn:nodesT t≤100000000000) (hv:LvsIn w (.slice ba NB bc) bs):Calls Tryz.prog 14 #[.agg cs.toArray,.slice ba NB bc] w fun e w'=>∃ cs',e=.returned (.tuple #[.agg cs'.toArray,.bool (levelsO bs t).isSome])∧TmAt (List.range w.heap.size) w' ((levelsO bs t).getD zT) cs'∧Below w.heap.size w w':=by
 obtain ⟨q,hq⟩:∃ q,Hid (w.heap.size=q):=⟨_,rfl⟩;have HT:=hZ ht;have C5:=hZ ht.len;have HV:=hZ hv;clear hv;clear ht;obtain ⟨R,hR⟩:∃ R,Hid (levelsO bs t=R):=⟨_,rfl⟩;rw [hR.out]
 go_enter Tryz.func14,Tryz.ntmps14
 go_upto_region 0 with (fail);refine lbeg (opsOf Tryz.f14 0) ?_;refine lbox 0 25 (.tmp 0) (cs) (q) (some 2) hq ?_;intro w1 bw1 bew1 hsw1;refine lin_box1 1 22 (.tmp 1) (.slice ba NB bc) (q+1) (some 3) (by kernel_rfl) (by kernel_rfl) (by kernel_rfl) (by kernel_rfl) (by rfl) hsw1 ?_;intro w2 bw2 bew2 hsw2;refine lall 2 25 z5T (q+1+1) (some 4) hsw2 ?_;intro w3 bw3 bew3 hsw3;refine lnow 3 (.bool false) (some 5) ?_;refine ldq 4 ?_;have B0:Hid (Blk w3 (q) 25 cs):=((bw1.below bew2 (by omega)).below bew3 (by omega));have B1:Hid (Blk w3 (q+1) 22 [.slice ba NB bc]):=(bw2.below bew3 (by omega));have BR:Hid (Blk w3 (q+1+1) 25 z5T):=bw3;have BE:Hid (Below q w w3):=((bew1.trans (bew2.mono (by omega))).trans (bew3.mono (by omega)));have SZ:Hid (w3.heap.size=q+3):=hsw3;have LB:Hid (∀ k,w.heap.size≤k→True):=fun _ _=>trivial
 clear bw1 bew1 hsw1;clear bw2 bew2 hsw2;clear bw3 bew3 hsw3;obtain ⟨wa,hwa⟩:∃ y,y=w3:=⟨_,rfl⟩;rw [← hwa] at BE SZ BR B0 B1 ⊢;clear hwa;go_upto_region 1 with (fail);refine lbeg (opsOf Tryz.f14 1) ?_;refine lin_now 0 (.func (.func 38) #[] #[.pointer (some ⟨q,0,none⟩),.pointer (some ⟨q+1,0,none⟩)]) (some 6) (by kernel_rfl) (by kernel_rfl) (by first|kernel_rfl|rfl) ?_;have BW:=built_walk 38 #[.pointer (some ⟨q,0,none⟩),.pointer (some ⟨q+1,0,none⟩)] wa (enters_of Tryz.func38 (by kernel_rfl) rfl) R (fun w1 h1=>by
  show Calls Tryz.prog 38 #[.pointer (some ⟨q,0,none⟩),.pointer (some ⟨q+1,0,none⟩)] w1 _;rw [← hR.out];exact levels1_walk bs ba NB bc (q+1) q t cs w1 ((HT.out.step (Step.of_below BE.out (by have:=hq.out;omega))).below h1) hs hn (B1.out.below h1 B1.out.lt) ((HV.out.below BE.out (by have:=hq.out;omega)).below h1 (Nat.le_refl _)) (B0.out.below h1 B0.out.lt))
 refine lcal 1 27 #[.func (.func 38) #[] #[.pointer (some ⟨q,0,none⟩),.pointer (some ⟨q+1,0,none⟩)]] (some 7) _ (BW) ?_;rintro e wb ⟨cr,rfl,hcr,hbb⟩;refine ⟨_,rfl,?_⟩;refine lnow 2 (.agg cr.toArray) (some 8) ?_;refine lnow 3 (.bool R.isSome) (some 9) ?_;have CR5:=hZ hcr.len;have BRb:Hid (Blk wb (q+1+1) 25 z5T):=BR.out.below hbb BR.out.lt;have BEb:Hid (Below q w wb):=BE.out.trans (hbb.mono (by have:=SZ.out;omega));refine lput 4 25 (.tmp 4) (.tmp 8) (q+1+1) _ (z5T) (cr) BRb.out (CR5.out.trans (rfl:z5T.length=5).symm) (t5Size CR5.out) (by simpa using hcr.one) ?_;intro wc bwc uwc;refine lnow 5 (.bool R.isSome) (some 5) ?_;refine ldq 6 ?_;go_wp2;refine bodyPost_ret (v:=.tuple #[.agg cr.toArray,.bool R.isSome]) ?_ rfl ⟨cr,rfl,(TmAt.step (Step.of_upd uwc (List.mem_range.2 (by have:=SZ.out;omega))) _ _ hcr).range (by have:=SZ.out;have:=hq.out;omega),by rw [hq.out];exact uwc.below BEb.out (by omega) (by have:=BEb.out.size;have:=hq.out;omega)⟩;exact results_cell_tmp Tryz.results14 _ _ (q+1+1) 25 cr.toArray (0,0) _ _ rfl rfl bwc Tryz.underlying25 rfl (t5Size CR5.out)
end Go.Proofs.YtdhnlckfcccnlaaGreat
namespace Go.Proofs.YtdhnlckfcccnlaaGreat
open Go Go.RowKit
theorem head_new {p p' deep k n:Int} {s:List UInt8} {l l':List Lv} {a:Nat} (h:headT wordB p deep k n s l a=true) (hl:l'.length=l.length) (h':l'.all (fun x=>rightL x&&decide ((widthL x:Int)≤p'))=true):headT wordB p' deep k n s l' a=true:=by
 simp only [headT,Bool.and_eq_true,hl] at h ⊢;obtain ⟨⟨⟨⟨h1,h2⟩,h3⟩,h4⟩,h5⟩:=h;exact ⟨⟨⟨⟨h1,h'⟩,h3⟩,h4⟩,h5⟩
end Go.Proofs.YtdhnlckfcccnlaaGreat
namespace Go.Proofs.YtdhnlckfcccnlaaGreat
open Go Go.RowKit
set_option maxRecDepth 100000
structure Jb where
 up:Int
 fr:Int
 xa:List Tm
 ns:List (List UInt8)
 old:List UInt8
 new:List UInt8
 lvs:List Lv
 lev:Bool
mutual
def shdT (b d:Int):Tm→Tm
 |.mk k n s l a=>.mk k (if k=1∧d≤n then n+b else n) s l (shdTs b d k 0 a)
def shdTs (b d k:Int) (i:Nat):List Tm→List Tm
 |[]=>[]
 |t::ts=>shdT b (d+moreT k i) t::shdTs b d k (i+1) ts
end
theorem shdTs_len {b d k:Int}:∀ (ts:List Tm) (i:Nat),(shdTs b d k i ts).length=ts.length
 |[],_=>by rw [shdTs]
 |t::ts,i=>by rw [shdTs,List.length_cons,shdTs_len ts (i+1),List.length_cons]
theorem shdTs_append {b d k:Int}:∀ (ts us:List Tm) (i:Nat),shdTs b d k i (ts++us)=shdTs b d k i ts++shdTs b d k (i+ts.length) us
 |[],us,i=>by rw [shdTs];rfl
 |t::ts,us,i=>by
  rw [List.cons_append,shdTs,shdTs,shdTs_append ts us (i+1),List.cons_append,List.length_cons,show i+1+ts.length=i+(ts.length+1) by omega]
def jvar (J:Jb) (L:Int) (t:Tm) (n d:Int):Tm × Int × Bool:=
 if n-d-J.fr<0 then (t,L,false)
 else if n-d-J.fr<(J.xa.length:Int) then
  match J.xa[((J.xa.length:Int)-1-(n-d-J.fr)).toNat]? with
  |none=>(t,L,false)
  |some x=>if L-(cntT x-1)<0 then (t,L-(cntT x-1),false) else (shdT (d+J.fr) 0 x,L-(cntT x-1),false)
 else if n-d-J.fr+J.up<0 then (t,L,true)
 else (.mk 1 (n+J.up) [] [] [],L,false)
def nilLv:Lv:=⟨0,[0,0,0,0]⟩
def jl (J:Jb) (l:Lv):Lv:=if J.lev=true then (instL l J.lvs).getD nilLv else l
def jw (J:Jb) (ls:List Lv):Bool:=J.lev&&ls.any fun l=>(instL l J.lvs).isNone
def jname (J:Jb) (s:List UInt8):List UInt8:=if J.old≠[]∧s=J.old then J.new else s
mutual
def jobT (J:Jb) (L:Int) (W:Bool) (d:Int):Tm→Tm × Int × Bool
 |.mk k n s l a=>
  if L-(1+(l.length:Int))<0∨W=true then (zT,L-(1+(l.length:Int)),W)
  else if k=1 then jvar J (L-(1+(l.length:Int))) (.mk k n s l a) n d
  else if (k=4∧l.length=0)∧0≤idxFrom s 0 J.ns then (.mk 1 (d+(J.ns.length:Int)-1-idxFrom s 0 J.ns) [] [] [],L-(1+(l.length:Int)),W)
  else (.mk k n (jname J s) (l.map (jl J)) (jobTs J (L-(1+(l.length:Int))) (W||jw J l) d k 0 a).1,(jobTs J (L-(1+(l.length:Int))) (W||jw J l) d k 0 a).2)
def jobTs (J:Jb) (L:Int) (W:Bool) (d k:Int) (i:Nat):List Tm→List Tm × Int × Bool
 |[]=>([],L,W)
 |t::ts=>((jobT J L W (d+moreT k i) t).1::(jobTs J (jobT J L W (d+moreT k i) t).2.1 (jobT J L W (d+moreT k i) t).2.2 d k (i+1) ts).1,(jobTs J (jobT J L W (d+moreT k i) t).2.1 (jobT J L W (d+moreT k i) t).2.2 d k (i+1) ts).2)
end
theorem jobTs_append {J:Jb} {d k:Int}:∀ (ts us:List Tm) (L:Int) (W:Bool) (i:Nat),jobTs J L W d k i (ts++us)=((jobTs J L W d k i ts).1++(jobTs J (jobTs J L W d k i ts).2.1 (jobTs J L W d k i ts).2.2 d k (i+ts.length) us).1,(jobTs J (jobTs J L W d k i ts).2.1 (jobTs J L W d k i ts).2.2 d k (i+ts.length) us).2)
 |[],us,L,W,i=>by rw [List.nil_append,jobTs];rfl
 |t::ts,us,L,W,i=>by
  rw [List.cons_append,jobTs,jobTs,jobTs_append ts us,List.length_cons,show i+1+ts.length=i+(ts.length+1) by omega]
  rfl
theorem jobTs_len {J:Jb} {d k:Int}:∀ (ts:List Tm) (L:Int) (W:Bool) (i:Nat),(jobTs J L W d k i ts).1.length=ts.length
 |[],_,_,_=>by rw [jobTs]
 |t::ts,L,W,i=>by rw [jobTs];simp [jobTs_len ts]
theorem cnt_nodes {x:Tm} (h:nodesT x≤3000):cntT x=nodesT x:=by unfold cntT;omega
theorem cnt_bnd (x:Tm):1≤cntT x∧cntT x≤3001:=by have:=nodes_pos x;unfold cntT;omega
theorem jvar_bnd (J:Jb) (L:Int) (t:Tm) (n d:Int):L-3000≤(jvar J L t n d).2.1∧(jvar J L t n d).2.1≤L:=by
 unfold jvar
 split
 ·exact ⟨by show L-3000≤L;omega,Int.le_refl _⟩
 ·split
  ·split
   ·exact ⟨by show L-3000≤L;omega,Int.le_refl _⟩
   ·rename_i x _
    have:=cnt_bnd x
    split
    ·exact ⟨by show L-3000≤L-(cntT x-1);omega,by show L-(cntT x-1)≤L;omega⟩
    ·exact ⟨by show L-3000≤L-(cntT x-1);omega,by show L-(cntT x-1)≤L;omega⟩
  ·split
   ·exact ⟨by show L-3000≤L;omega,Int.le_refl _⟩
   ·exact ⟨by show L-3000≤L;omega,Int.le_refl _⟩
mutual
theorem job_bnd (J:Jb):∀ (t:Tm) (L:Int) (W:Bool) (d:Int),(min L (-3001)-(nodesT t:Int)≤(jobT J L W d t).2.1∧(jobT J L W d t).2.1≤L)∧(W=true→(jobT J L W d t).2.2=true)
 |.mk k n s l a,L,W,d=>by
  rw [jobT,nodesT];have ha:=jobs_bnd J a (L-(1+(l.length:Int))) (W||jw J l) d k 0;by_cases h1:L-(1+(l.length:Int))<0∨W=true
  ·rw [if_pos h1]
   exact ⟨⟨by show _≤L-(1+(l.length:Int));omega,by show L-(1+(l.length:Int))≤L;omega⟩,id⟩
  ·rw [if_neg h1]
   have h0:¬ L-(1+(l.length:Int))<0:=fun h=>h1 (.inl h)
   by_cases hk:k=1
   ·rw [if_pos hk]
    have:=jvar_bnd J (L-(1+(l.length:Int))) (.mk k n s l a) n d;exact ⟨⟨by omega,by omega⟩,fun h=>(h1 (.inr h)).elim⟩
   ·rw [if_neg hk]
    split
    ·exact ⟨⟨by show _≤L-(1+(l.length:Int));omega,by show L-(1+(l.length:Int))≤L;omega⟩,id⟩
    ·exact ⟨⟨by show _≤(jobTs J (L-(1+(l.length:Int))) (W||jw J l) d k 0 a).2.1;omega,by show (jobTs J (L-(1+(l.length:Int))) (W||jw J l) d k 0 a).2.1≤L;omega⟩,fun h=>(h1 (.inr h)).elim⟩
theorem jobs_bnd (J:Jb):∀ (ts:List Tm) (L:Int) (W:Bool) (d k:Int) (i:Nat),(min L (-3001)-(nodesTs ts:Int)≤(jobTs J L W d k i ts).2.1∧(jobTs J L W d k i ts).2.1≤L)∧(W=true→(jobTs J L W d k i ts).2.2=true)
 |[],L,W,d,k,i=>by
  rw [jobTs,nodesTs];exact ⟨⟨by show _≤L;omega,Int.le_refl _⟩,id⟩
 |t::ts,L,W,d,k,i=>by
  rw [jobTs,nodesTs];have h1:=job_bnd J t L W (d+moreT k i);have h2:=jobs_bnd J ts (jobT J L W (d+moreT k i) t).2.1 (jobT J L W (d+moreT k i) t).2.2 d k (i+1);exact ⟨⟨by show _≤(jobTs J (jobT J L W (d+moreT k i) t).2.1 (jobT J L W (d+moreT k i) t).2.2 d k (i+1) ts).2.1;omega,by show (jobTs J (jobT J L W (d+moreT k i) t).2.1 (jobT J L W (d+moreT k i) t).2.2 d k (i+1) ts).2.1≤L;omega⟩,fun h=>h2.2 (h1.2 h)⟩
end
def gJ (J:Jb) (c:Int):Tm→Int→Option (Int × Tm)
 |.mk k n s l a,d=>
  if k=1 then
   (if n-d-J.fr<0 then some (c+(1+(l.length:Int)),.mk k n s l a)
   else if n-d-J.fr<(J.xa.length:Int) then
    match J.xa[((J.xa.length:Int)-1-(n-d-J.fr)).toNat]? with
    |none=>some (c+(1+(l.length:Int)),.mk k n s l a)
    |some x=>some (c+(1+(l.length:Int))+(cntT x-1),shdT (d+J.fr) 0 x)
   else if n-d-J.fr+J.up<0 then none
   else some (c+(1+(l.length:Int)),.mk 1 (n+J.up) [] [] []))
  else if (k=4∧l.length=0)∧0≤idxFrom s 0 J.ns then some (c+(1+(l.length:Int)),.mk 1 (d+(J.ns.length:Int)-1-idxFrom s 0 J.ns) [] [] [])
  else if jw J l=true then none
  else some (c+(1+(l.length:Int)),.mk k n (jname J s) (l.map (jl J)) [])
def JR {α:Type} (o:Option (Int × α)) (c L:Int) (j:α × Int × Bool):Prop:=match o with
 |some (c',r)=>c≤c'∧(c'-c≤L→j=(r,L-(c'-c),false))∧(L<c'-c→j.2.1<0)
 |none=>j.2.1<0∨j.2.2=true
theorem jvar_gJ (J:Jb) (c L n d:Int) (s:List UInt8) (l:List Lv) (h0:0≤L-(1+(l.length:Int))):JR (gJ J c (.mk 1 n s l []) d) c L (jvar J (L-(1+(l.length:Int))) (.mk 1 n s l []) n d):=by
 rw [gJ,jvar,if_pos rfl];unfold JR;by_cases h1:n-d-J.fr<0
 ·rw [if_pos h1,if_pos h1]
  refine ⟨by omega,fun _=>?_,fun h=>?_⟩
  ·rw [show c+(1+(l.length:Int))-c=1+(l.length:Int) by omega]
  ·omega
 ·rw [if_neg h1,if_neg h1]
  by_cases h2:n-d-J.fr<(J.xa.length:Int)
  ·rw [if_pos h2,if_pos h2]
   cases h3:J.xa[((J.xa.length:Int)-1-(n-d-J.fr)).toNat]? with
   |none=>
    refine ⟨by omega,fun _=>?_,fun h=>?_⟩
    ·rw [show c+(1+(l.length:Int))-c=1+(l.length:Int) by omega]
    ·omega
   |some x=>
    have:=cnt_bnd x;refine ⟨by omega,fun h=>?_,fun h=>?_⟩
    ·simp only
     rw [if_neg (by omega),show L-(1+(l.length:Int))-(cntT x-1)=L-(c+(1+(l.length:Int))+(cntT x-1)-c) by omega]
    ·simp only
     rw [if_pos (by omega)];show L-(1+(l.length:Int))-(cntT x-1)<0;omega
  ·rw [if_neg h2,if_neg h2]
   by_cases h3:n-d-J.fr+J.up<0
   ·rw [if_pos h3,if_pos h3]
    exact .inr rfl
   ·rw [if_neg h3,if_neg h3]
    refine ⟨by omega,fun _=>?_,fun h=>?_⟩
    ·rw [show c+(1+(l.length:Int))-c=1+(l.length:Int) by omega]
    ·omega
theorem gJ_ge {J:Jb} {c:Int} {k n d:Int} {s:List UInt8} {l:List Lv} {c':Int} {r:Tm} (h:gJ J c (.mk k n s l []) d=some (c',r)):c+(1+(l.length:Int))≤c':=by
 rw [gJ] at h
 split at h
 ·split at h
  ·cases h;omega
  ·split at h
   ·split at h
    ·cases h;omega
    ·rename_i x _
     have:=cnt_bnd x;cases h;omega
   ·split at h
    ·cases h
    ·cases h;omega
 ·split at h
  ·cases h;omega
  ·split at h
   ·cases h
   ·cases h;omega
mutual
theorem job_reb (J:Jb):∀ (t:Tm) (v deep d c L:Int),rightT wordB 4 v deep t=true→JR (rebT (gJ J) c d t) c L (jobT J L false d t)
 |.mk k n s l a,v,deep,d,c,L,h=>by
  obtain ⟨h1,h2,h3,h4⟩:=right_args h;rw [jobT];by_cases h0:L-(1+(l.length:Int))<0
  ·rw [if_pos (.inl h0)]
   unfold JR;cases h5:rebT (gJ J) c d (.mk k n s l a) with
   |none=>exact .inl h0
   |some p=>
    obtain ⟨c',r⟩:=p;have hge:c+(1+(l.length:Int))≤c':=by
     rw [rebT] at h5;cases h6:gJ J c (.mk k n s l []) d with
     |none=>rw [h6] at h5;cases h5
     |some p2=>
      obtain ⟨c1,r1⟩:=p2;have hg:=gJ_ge h6;rw [h6] at h5;simp only at h5;by_cases ha:a.length=0
      ·rw [if_pos ha] at h5
       cases h5
       exact hg
      ·rw [if_neg ha] at h5
       have hj:=jobs_reb J a v deep d k c1 (L-(1+(l.length:Int))) a.length 0 h1 h4;cases h7:rebTs (gJ J) c1 d k a.length 0 a with
       |none=>rw [h7] at h5;cases h5
       |some p3=>
        rw [h7] at h5 hj;cases h5
        have:=hj.1;omega
    exact ⟨by omega,fun h=>by omega,fun _=>h0⟩
  ·rw [if_neg (by simp [h0])]
   by_cases hk:k=1
   ·subst hk
    obtain rfl:=List.eq_nil_of_length_eq_zero (show a.length=0 by rw [h1];rfl);rw [if_pos rfl,rebT];have:=jvar_gJ J c L n d s l (by omega);cases h6:gJ J c (.mk 1 n s l []) d with
    |none=>rw [h6] at this;exact this
    |some p2=>rw [h6] at this;exact this
   ·rw [if_neg hk]
    by_cases hc:(k=4∧l.length=0)∧0≤idxFrom s 0 J.ns
    ·obtain rfl:=List.eq_nil_of_length_eq_zero (show a.length=0 by rw [h1,hc.1.1];rfl)
     rw [if_pos hc,rebT];have e:gJ J c (.mk k n s l []) d=some (c+(1+(l.length:Int)),.mk 1 (d+(J.ns.length:Int)-1-idxFrom s 0 J.ns) [] [] []):=by
      rw [gJ,if_neg hk,if_pos hc]
     rw [e];refine ⟨by omega,fun _=>?_,fun h=>?_⟩
     ·rw [show c+(1+(l.length:Int))-c=1+(l.length:Int) by omega]
     ·omega
    ·rw [if_neg hc]
     by_cases hw:jw J l=true
     ·have e:gJ J c (.mk k n s l []) d=none:=by
       rw [gJ,if_neg hk,if_neg hc,if_pos hw]
      rw [rebT,e,hw];exact .inr ((jobs_bnd J a _ _ d k 0).2 rfl)
     ·have e:gJ J c (.mk k n s l []) d=some (c+(1+(l.length:Int)),.mk k n (jname J s) (l.map (jl J)) []):=by
       rw [gJ,if_neg hk,if_neg hc,if_neg hw]
      have hw':(false||jw J l)=false:=(by simpa using hw);rw [rebT,e,hw'];by_cases ha:a.length=0
      ·obtain rfl:=List.eq_nil_of_length_eq_zero ha
       refine ⟨by omega,fun _=>?_,fun h=>?_⟩
       ·rw [show c+(1+(l.length:Int))-c=1+(l.length:Int) by omega,jobTs]
       ·omega
      ·simp only
       rw [if_neg ha];have hj:=jobs_reb J a v deep d k (c+(1+(l.length:Int))) (L-(1+(l.length:Int))) a.length 0 h1 h4;cases h7:rebTs (gJ J) (c+(1+(l.length:Int))) d k a.length 0 a with
       |none=>rw [h7] at hj;exact hj
       |some p3=>
        obtain ⟨c',rs⟩:=p3;rw [h7] at hj;obtain ⟨j1,j2,j3⟩:=hj;refine ⟨by omega,fun h=>?_,fun h=>j3 (by omega)⟩
        have:=j2 (by omega);rw [this];show (Tm.mk k n (jname J s) (l.map (jl J)) rs,L-(1+(l.length:Int))-(c'-(c+(1+(l.length:Int)))),false)=_;rw [show L-(1+(l.length:Int))-(c'-(c+(1+(l.length:Int))))=L-(c'-c) by omega]
        rfl
theorem jobs_reb (J:Jb):∀ (ts:List Tm) (v deep d k c L:Int) (N i:Nat),N=argsOf k→rightTs wordB 4 v deep k i ts=true→JR (rebTs (gJ J) c d k N i ts) c L (jobTs J L false d k i ts)
 |[],v,deep,d,k,c,L,N,i,_,_=>by
  rw [rebTs,jobTs];refine ⟨Int.le_refl _,fun _=>?_,fun h=>?_⟩
  ·rw [Int.sub_self,Int.sub_zero]
  ·show L<0
   omega
 |t::ts,v,deep,d,k,c,L,N,i,hN,h=>by
  rw [rightTs,Bool.and_eq_true] at h;have h1:=job_reb J t _ _ (d+moreT k i) c L h.1;rw [rebTs,jobTs,more_eq hN];cases h5:rebT (gJ J) c (d+moreT k i) t with
  |none=>
   rw [h5] at h1;have hb:=jobs_bnd J ts (jobT J L false (d+moreT k i) t).2.1 (jobT J L false (d+moreT k i) t).2.2 d k (i+1);rcases h1 with h1|h1
   ·exact .inl (by show (jobTs J _ _ d k (i+1) ts).2.1<0;omega)
   ·exact .inr (hb.2 h1)
  |some p=>
   obtain ⟨c1,x⟩:=p;rw [h5] at h1;obtain ⟨g1,g2,g3⟩:=h1;simp only;by_cases hl:L<c1-c
   ·have hneg:=g3 hl
    have hb:=jobs_bnd J ts (jobT J L false (d+moreT k i) t).2.1 (jobT J L false (d+moreT k i) t).2.2 d k (i+1);have hneg2:(jobTs J (jobT J L false (d+moreT k i) t).2.1 (jobT J L false (d+moreT k i) t).2.2 d k (i+1) ts).2.1<0:=(by omega);have h2:=jobs_reb J ts v deep d k c1 L N (i+1) hN h.2;cases h6:rebTs (gJ J) c1 d k N (i+1) ts with
    |none=>exact .inl hneg2
    |some p2=>
     rw [h6] at h2;have:=h2.1;exact ⟨by show c≤p2.1;omega,fun h=>by have:p2.1-c≤L:=h;omega,fun _=>hneg2⟩
   ·have e:=g2 (by omega)
    rw [e];have h2:=jobs_reb J ts v deep d k c1 (L-(c1-c)) N (i+1) hN h.2;cases h6:rebTs (gJ J) c1 d k N (i+1) ts with
    |none=>rw [h6] at h2;exact h2
    |some p2=>
     obtain ⟨c2,xs⟩:=p2;rw [h6] at h2;obtain ⟨k1,k2,k3⟩:=h2;refine ⟨by omega,fun h=>?_,fun h=>k3 (by omega)⟩
     have e2:=k2 (by omega);simp only;rw [e2];show (x::xs,L-(c1-c)-(c2-c1),false)=(x::xs,L-(c2-c),false);rw [show L-(c1-c)-(c2-c1)=L-(c2-c) by omega]
end
def doO (J:Jb) (t:Tm):Option Tm:=
 if rightP 4 1099511627776 t=true then
  (if ((jobT J 3000 false 0 t).2.1<0∨(jobT J 3000 false 0 t).2.2=true)∨rightP 4 1099511627776 (jobT J 3000 false 0 t).1=false then none else some (jobT J 3000 false 0 t).1)
 else none
theorem doO_reb {J : Jb} {t : Tm} (ht : rightP 4 1099511627776 t = true) : doO J t = match rebT (gJ J) 0 0 t with
    |some (c',r)=>if c'≤3000 then okO (some r) else none
    |none=>none:=by
 have h:=job_reb J t _ _ 0 0 3000 (rightP_parts ht).2.2;unfold doO;rw [if_pos ht];cases h5:rebT (gJ J) 0 0 t with
 |none=>
  rw [h5] at h;rw [if_pos (.inl h)]
 |some p=>
  obtain ⟨c',r⟩:=p;rw [h5] at h;obtain ⟨h1,h2,h3⟩:=h;simp only;by_cases hc:c'≤3000
  ·have e:=h2 (by omega)
   rw [if_pos hc,e];simp only;by_cases hr:rightP 4 1099511627776 r=true
   ·rw [okO_yes hr,if_neg]
    rw [hr];intro hh;rcases hh with (hh|hh)|hh
    ·omega
    ·cases hh
    ·cases hh
   ·have hr':rightP 4 1099511627776 r=false:=by simpa using hr
    rw [okO_no hr',if_pos (.inr hr')]
  ·rw [if_neg hc,if_pos (.inl (.inl (h3 (by omega))))]
end Go.Proofs.YtdhnlckfcccnlaaGreat
