import Derived.Test.YtmceocgddaaohaaGreatDoorQShwJ
import Derived.Test.YtmceocgddaaohaaGreatDoorQLexI
namespace Go.Proofs.YtmceocgddaaohaaGreatDoor
open Go Go.RowKit
set_option maxRecDepth 100000
abbrev Toks:=List (List UInt8)
def SC (s:List UInt8) (ts:Toks):Prop:=∀ r,Stop r→∀ a,∃ ps:List Tk,ps.map (·.t)=ts∧scanS (s++r) a=preR ps (scanS r (a+s.length))
def HStop (s:List UInt8):Prop:=∃ c r,s=c::r∧inW c=false∧c≠61
theorem HStop.app {s:List UInt8} (h:HStop s) (r:List UInt8):Stop (s++r):=by
 obtain ⟨c,r',rfl,h1,h2⟩:=h;intro z r2 e;rw [List.cons_append] at e;obtain ⟨rfl,-⟩:=List.cons.inj e;exact ⟨h1,h2⟩
theorem Stop.nil:Stop []:=fun z r e=>by cases e
theorem preR_app (xs ys:List Tk) (r:Except Nat (List Tk)):preR xs (preR ys r)=preR (xs++ys) r:=by cases r<;>simp [preR]
theorem SC.app {s s':List UInt8} {ts ts':Toks} (h:SC s ts) (h':SC s' ts') (hs:HStop s'):SC (s++s') (ts++ts'):=by
 intro r hr a;obtain ⟨ps,e1,e2⟩:=h (s'++r) (hs.app r) a;obtain ⟨qs,e3,e4⟩:=h' r hr (a+s.length);refine ⟨ps++qs,by rw [List.map_append,e1,e3],?_⟩;rw [List.append_assoc,e2,e4,preR_app,List.length_append,Nat.add_assoc]
theorem SC.tok {s:List UInt8} {k:Nat} (h:tokAt s=some (k,s.length)):SC s [s]:=by
 intro r hr a;have hp:=(tokAt_pos h).1;have hne:s≠[]:=fun e=>by rw [e] at hp;simp at hp
 have ht:tokAt (s++r)=some (k,s.length):=(by rw [tokAt_stop hr hne];exact h);refine ⟨[⟨k,s,a⟩],rfl,?_⟩;rw [scanS_tok ht,List.take_left' rfl,List.drop_left' rfl];cases scanS r (a+s.length)<;>rfl
theorem sign_any {c:UInt8} (hc:c∈signs12) (h58:c≠58) (x:List UInt8):tokAt (c::x)=some (3,1):=by
 have key:isLet c=false∧isDig c=false∧0≤Lib.indexByte signs12 c:=by
  simp only [signs12,List.mem_cons,List.not_mem_nil,or_false] at hc;rcases hc with rfl|rfl|rfl|rfl|rfl|rfl|rfl|rfl|rfl|rfl|rfl|rfl<;>exact ⟨by decide,by decide,by decide⟩
 obtain ⟨h1,h2,h3⟩:=key;unfold tokAt;rw [wordL_zero x h1,numLx_zero x h2,if_neg (by omega),if_neg (by omega)];have hs:signL (c::x)=1:=by
  rw [signL,pre2,if_neg,if_pos h3]
  simp [Ne.symm h58]
 rw [hs,if_pos (by omega)]
theorem SC.sign {c:UInt8} (hc:c∈signs12) (h58:c≠58) {s:List UInt8} {ts:Toks} (h:SC s ts):SC (c::s) ([c]::ts):=by
 intro r hr a;obtain ⟨ps,e1,e2⟩:=h r hr (a+1);refine ⟨⟨3,[c],a⟩::ps,by rw [List.map_cons,e1],?_⟩;rw [List.cons_append,scanS_tok (sign_any hc h58 (s++r)),List.take_succ_cons,List.take_zero,List.drop_succ_cons,List.drop_zero,e2,List.length_cons,show a+1+s.length=a+(s.length+1) by omega];cases scanS r (a+(s.length+1))<;>rfl
theorem SC.nil:SC [] []:=fun r _ a=>⟨[],rfl,by rw [List.nil_append,preR_nil];rfl⟩
theorem gap_sp (x:List UInt8):tokAt (32::x)=none∧gapL (32::x)=1:=by
 have h1:isLet 32=false:=(by decide);have h2:isDig 32=false:=(by decide);have hs:signL (32::x)=0:=by
  rw [signL,pre2,if_neg (by simp),if_neg (by decide)]
 refine ⟨?_,?_⟩
 ·unfold tokAt
  rw [wordL_zero x h1,numLx_zero x h2,hs,if_neg (by omega),if_neg (by omega),if_neg (by omega)]
 ·rw [gapL,pre2,if_neg (by simp),if_pos (.inl rfl)]
theorem SC.sp {s:List UInt8} {ts:Toks} (h:SC s ts):SC (32::s) ts:=by
 intro r hr a;obtain ⟨ps,e1,e2⟩:=h r hr (a+1);refine ⟨ps,e1,?_⟩;obtain ⟨g1,g2⟩:=gap_sp (s++r);rw [List.cons_append,scanS_gap g1 (by omega),g2,List.drop_succ_cons,List.drop_zero,e2,List.length_cons,show a+1+s.length=a+(s.length+1) by omega]
theorem tok_colon (x:List UInt8):tokAt (58::32::x)=some (3,1):=by
 have h1:isLet 58=false:=(by decide);have h2:isDig 58=false:=(by decide);have hs:signL (58::32::x)=1:=by
  rw [signL,pre2,if_neg (by simp),if_pos (by decide)]
 unfold tokAt;rw [wordL_zero _ h1,numLx_zero _ h2,hs,if_neg (by omega),if_neg (by omega),if_pos (by omega)]
theorem tok_becomes (x:List UInt8):tokAt (58::61::x)=some (3,2):=by
 have h1:isLet 58=false:=(by decide);have h2:isDig 58=false:=(by decide);have hs:signL (58::61::x)=2:=by
  rw [signL,pre2,if_pos (by simp)]
 unfold tokAt;rw [wordL_zero _ h1,numLx_zero _ h2,hs,if_neg (by omega),if_neg (by omega),if_pos (by omega)]
theorem SC.colon {s:List UInt8} {ts:Toks} (h:SC s ts):SC (32::58::32::s) ([58]::ts):=by
 refine SC.sp ?_;intro r hr a;obtain ⟨ps,e1,e2⟩:=(SC.sp h) r hr (a+1);refine ⟨⟨3,[58],a⟩::ps,by rw [List.map_cons,e1],?_⟩;rw [List.cons_append,List.cons_append,scanS_tok (tok_colon (s++r)),List.take_succ_cons,List.take_zero,List.drop_succ_cons,List.drop_zero,← List.cons_append,e2,show a+1+(32::s).length=a+(58::32::s).length by simp only [List.length_cons];omega];cases scanS r (a+(58::32::s).length)<;>rfl
theorem SC.becomes {s:List UInt8} {ts:Toks} (h:SC s ts):SC (32::58::61::32::s) ([58,61]::ts):=by
 refine SC.sp ?_;intro r hr a;obtain ⟨ps,e1,e2⟩:=(SC.sp h) r hr (a+2);refine ⟨⟨3,[58,61],a⟩::ps,by rw [List.map_cons,e1],?_⟩;rw [List.cons_append,List.cons_append,List.cons_append,scanS_tok (tok_becomes (32::(s++r)))];rw [List.take_succ_cons,List.take_succ_cons,List.take_zero,List.drop_succ_cons,List.drop_succ_cons,List.drop_zero,← List.cons_append,e2,show a+2+(32::s).length=a+(58::61::32::s).length by simp only [List.length_cons];omega];cases scanS r (a+(58::61::32::s).length)<;>rfl
theorem SC.whole {s:List UInt8} {ts:Toks} (h:SC s ts):∃ ps,ps.map (·.t)=ts∧scanS s 0=.ok ps:=by
 obtain ⟨ps,e1,e2⟩:=h [] Stop.nil 0;refine ⟨ps,e1,?_⟩;rw [List.append_nil,scanS_nil] at e2;rw [e2];show Except.ok (ps++[])=_;rw [List.append_nil]
theorem let_of_letter {c:UInt8} (h:letterB c=true):isLet c=true:=by
 simp only [letterB,Bool.or_eq_true,Bool.and_eq_true,decide_eq_true_eq] at h;simp only [isLet,decide_eq_true_eq];omega
theorem parts_word:∀ (s:List UInt8) (b:Bool),partsB b s=true→s.all inW=true∧(b=true→∃ c r,s=c::r∧isLet c=true)
 |[],b,h=>by
  cases b with
  |true=>simp [partsB] at h
  |false=>exact ⟨rfl,fun h=>by cases h⟩
 |c::s,true,h=>by
  rw [partsB,Bool.and_eq_true] at h;have h1:=(parts_word s false h.2).1;have hc:=let_of_letter h.1;exact ⟨by rw [List.all_cons,h1];simp [inW,hc],fun _=>⟨c,s,rfl,hc⟩⟩
 |c::s,false,h=>by
  rw [partsB] at h;refine ⟨?_,fun h=>by cases h⟩
  rw [List.all_cons,Bool.and_eq_true]
  split at h
  ·next h46=>
   subst h46;exact ⟨by decide,(parts_word s true h).1⟩
  ·rw [Bool.and_eq_true] at h
   refine ⟨?_,(parts_word s false h.2).1⟩;have h1:=h.1;simp only [letterB,digitB,Bool.or_eq_true,Bool.and_eq_true,decide_eq_true_eq] at h1;simp only [inW,isLet,isDig,Bool.or_eq_true,decide_eq_true_eq];rcases h1 with (h1|h1)|h1
   ·omega
   ·omega
   ·subst h1;decide
theorem word_tok {s:List UInt8} (h:wordB s=true):tokAt s=some (1,s.length):=by
 simp only [wordB,Bool.and_eq_true] at h;obtain ⟨h1,h2⟩:=parts_word s true h.2;obtain ⟨c,r,rfl,hc⟩:=h2 rfl;have hw:wordL (c::r)=(c::r).length:=by
  rw [wordL,if_pos hc,runL_eq_of_all inW _ h1]
 unfold tokAt;rw [hw,if_pos (by simp)]
theorem SC.word {s:List UInt8} (h:wordB s=true):SC s [s]:=SC.tok (word_tok h)
theorem dec_head {u:Nat} (h:1≤u):(Lib.decDigits u).head?≠some 48:=by
 induction u using Nat.strongRecOn with
 |ind u ih=>
  rw [Lib.decDigits]
  split
  ·next h10=>
   intro e;have e1:=Option.some.inj e;have:(UInt8.ofNat (48+u)).toNat=48:=(by rw [e1];rfl);rw [UInt8.toNat_ofNat'] at this;omega
  ·next h10=>
   have h2:=ih (u / 10) (by omega) (by omega);intro e
   apply h2
   cases hd:Lib.decDigits (u / 10) with
   |nil=>exact absurd hd (dec_ne _)
   |cons c r=>rw [hd] at e;exact e
theorem dec_len:∀ (k u:Nat),u<10 ^ (k+1)→(Lib.decDigits u).length≤k+1
 |0,u,h=>by
  rw [Lib.decDigits,dif_pos (by omega)]
  simp
 |k+1,u,h=>by
  rw [Lib.decDigits]
  split
  ·simp
  ·have h2:=dec_len k (u / 10) (by rw [Nat.pow_succ] at h;omega)
   rw [List.length_append]
   simp
   omega
theorem num_digits {n:Int} (h0:0≤n) (h1:n<1000000):numO (Lib.itoa n)=some n.toNat:=by
 obtain ⟨u,rfl⟩:∃ u:Nat,n=(u:Int):=⟨n.toNat,by omega⟩;rw [itoa_dec h0,Int.toNat_natCast];have hd:(Lib.decDigits u).all isDig=true:=by
  rw [List.all_eq_true];intro c hc;have:=dec_digits u c hc;simp only [isDig,decide_eq_true_eq];exact this
 have hl:=dec_len 5 u (by omega);have hb:¬ badNum (Lib.decDigits u):=by
  unfold badNum;rintro (h|h|⟨h,h2⟩|h)
  ·exact dec_ne u h
  ·omega
  ·by_cases hu:1≤u
   ·exact dec_head hu h2
   ·obtain rfl:u=0:=by omega
    rw [Lib.decDigits,dif_pos (by omega)] at h
    simp at h
  ·rw [hd] at h;cases h
 unfold numO;rw [if_neg hb];have e:numV (Lib.decDigits u)=undec (Lib.decDigits u):=rfl;rw [e,undec_dec]
theorem num_tok {n:Int} (h0:0≤n) (h1:n<1000000):tokAt (Lib.itoa n)=some (2,(Lib.itoa n).length):=by
 have hn:=num_digits h0 h1;have hd:(Lib.itoa n).all isDig=true:=by
  rw [List.all_eq_true];intro c hc;have:=itoa_digits h0 c hc;simp only [isDig,decide_eq_true_eq];exact this
 have hr:runL isDig (Lib.itoa n)=(Lib.itoa n).length:=runL_eq_of_all isDig _ hd;have hx:numLx (Lib.itoa n)=(Lib.itoa n).length:=by
  unfold numLx;rw [hr,List.take_of_length_le (Nat.le_refl _),hn]
  rfl
 cases hc:Lib.itoa n with
 |nil=>exact absurd hc (itoa_ne h0)
 |cons c r=>
  rw [hc] at hx hd;have h2:=(List.all_eq_true.1 hd) c (by simp);have hlet:=dig_not_let h2;unfold tokAt;rw [wordL_zero r hlet,hx,if_neg (by omega),if_pos (by simp)]
theorem SC.num {n:Int} (h0:0≤n) (h1:n<1000000):SC (Lib.itoa n) [Lib.itoa n]:=SC.tok (num_tok h0 h1)
end Go.Proofs.YtmceocgddaaohaaGreatDoor
namespace Go.Proofs.YtmceocgddaaohaaGreatDoor
open Go Go.RowKit
set_option maxRecDepth 100000
theorem HStop.of {c:UInt8} {r:List UInt8} (h1:inW c=false) (h2:c≠61):HStop (c::r):=⟨c,r,rfl,h1,h2⟩
theorem hs32 {r:List UInt8}:HStop (32::r):=.of (by decide) (by decide)
theorem SC.app0 {s s':List UInt8} {ts ts':Toks} (h:SC s ts) (h':SC s' ts') (hs:(s'=[]∧ts'=[])∨HStop s'):SC (s++s') (ts++ts'):=by
 rcases hs with ⟨rfl,rfl⟩|hs
 ·rw [List.append_nil,List.append_nil]
  exact h
 ·exact h.app h' hs
theorem joinT_cons (sep y:List UInt8) (r:List (List UInt8)):Lib.joinTail sep (y::r)=(sep++y)++Lib.joinTail sep r:=by simp [Lib.joinTail]
theorem SC.tail {sep:List UInt8} {st:Toks} (hsep:∀ s ts,SC s ts→SC (sep++s) (st++ts)) (hst:∀ r,HStop (sep++r)):∀ (xs:List (List UInt8 × Toks)),(∀ x∈xs,SC x.1 x.2)→SC (Lib.joinTail sep (xs.map (·.1))) (xs.flatMap fun x=>st++x.2)
 |[],_=>SC.nil
 |x::xs,h=>by
  rw [List.map_cons,joinT_cons,List.flatMap_cons];refine SC.app0 (hsep _ _ (h x (by simp))) (SC.tail hsep hst xs fun y hy=>h y (List.mem_cons_of_mem _ hy)) ?_;cases xs with
  |nil=>exact .inl ⟨rfl,rfl⟩
  |cons y ys=>exact .inr (by rw [List.map_cons,joinT_cons,List.append_assoc];exact hst _)
def jnK (st:Toks):List Toks→Toks
 |[]=>[]
 |x::xs=>x++xs.flatMap fun y=>st++y
theorem SC.joined {sep:List UInt8} {st:Toks} (hsep:∀ s ts,SC s ts→SC (sep++s) (st++ts)) (hst:∀ r,HStop (sep++r)) (xs:List (List UInt8 × Toks)) (h:∀ x∈xs,SC x.1 x.2):SC (Lib.join (xs.map (·.1)) sep) (jnK st (xs.map (·.2))):=by
 cases xs with
 |nil=>exact SC.nil
 |cons x xs=>
  rw [List.map_cons,List.map_cons,Lib.join_cons,jnK,List.flatMap_map];refine SC.app0 (h x (by simp)) (SC.tail hsep hst xs fun y hy=>h y (List.mem_cons_of_mem _ hy)) ?_;cases xs with
  |nil=>exact .inl ⟨rfl,rfl⟩
  |cons y ys=>exact .inr (by rw [List.map_cons,joinT_cons,List.append_assoc];exact hst _)
def uN (i:Nat):List UInt8:=117::Lib.itoa (i:Int)
def ptK (i:Nat) (p:Int):Toks:=if p=0 then [uN i] else [uN i,[43],Lib.itoa p]
def ptsK (l:Lv) (top:Int):Nat→List (List UInt8 × Toks)
 |0=>if top<l.b then [(Lib.itoa l.b,[Lib.itoa l.b])] else []
 |k+1=>if l.p.getD k 0=-1 then ptsK l top k else ptsK l top k++[(partT k (l.p.getD k 0),ptK k (l.p.getD k 0))]
theorem ptsK_text (l:Lv) (top:Int):∀ k,(ptsK l top k).map (·.1)=partsUp l top k
 |0=>by
  rw [ptsK,partsUp]
  split<;>rfl
 |k+1=>by
  rw [ptsK,partsUp]
  split
  ·exact ptsK_text l top k
  ·rw [List.map_append,ptsK_text l top k]
   rfl
theorem uN0:SC (uN 0) [uN 0]:=SC.tok (k:=1) (by kernel_rfl)
theorem uN1:SC (uN 1) [uN 1]:=SC.tok (k:=1) (by kernel_rfl)
theorem uN2:SC (uN 2) [uN 2]:=SC.tok (k:=1) (by kernel_rfl)
theorem uN3:SC (uN 3) [uN 3]:=SC.tok (k:=1) (by kernel_rfl)
theorem uN_sc {i:Nat} (h:i<4):SC (uN i) [uN i]:=by
 have hi:i=0∨i=1∨i=2∨i=3:=(by omega);rcases hi with rfl|rfl|rfl|rfl
 ·exact uN0
 ·exact uN1
 ·exact uN2
 ·exact uN3
theorem partT_sc {i:Nat} {p:Int} (hi:i<4) (h0:0≤p) (h1:p≤100):SC (partT i p) (ptK i p):=by
 unfold partT ptK
 split
 ·exact uN_sc hi
 ·exact SC.app (uN_sc hi) (SC.sign (by decide) (by decide) (SC.num h0 (by omega))) (.of (by decide) (by decide))
theorem getD_p {l:Lv} (hr:rightL l=true) (h4:l.p.length=4) {k:Nat} (hk:k<4) (hn:¬ l.p.getD k 0=-1):0≤l.p.getD k 0∧l.p.getD k 0≤l.b:=by
 have hm:l.p.getD k 0∈l.p:=by
  rw [List.getD_eq_getElem?_getD,List.getElem?_eq_getElem (by omega)];exact List.getElem_mem _
 have:=right_p hr hm;omega
theorem ptsK_sc {l:Lv} (hr:rightL l=true) (h4:l.p.length=4) (top:Int):∀ k,k≤4→∀ x∈ptsK l top k,SC x.1 x.2
 |0,_,x,hx=>by
  rw [ptsK] at hx
  split at hx
  ·rw [List.mem_singleton.1 hx]
   have:=right_b hr;exact SC.num this.1 (by omega)
  ·cases hx
 |k+1,hk,x,hx=>by
  rw [ptsK] at hx
  split at hx
  ·exact ptsK_sc hr h4 top k (by omega) x hx
  ·next hn=>
   rcases List.mem_append.1 hx with hx|hx
   ·exact ptsK_sc hr h4 top k (by omega) x hx
   ·rw [List.mem_singleton.1 hx]
    have:=getD_p hr h4 (by omega) hn;have:=right_b hr;exact partT_sc (by omega) (by omega) (by omega)
def lvK (l:Lv):Toks:=jnK [[124]] ((ptsK l (topL l) 4).map (·.2))
theorem sep_bar (s:List UInt8) (ts:Toks) (h:SC s ts):SC ([32,124,32]++s) ([[124]]++ts):=by
 show SC (32::124::32::s) ([124]::ts);exact SC.sp (SC.sign (by decide) (by decide) (SC.sp h))
theorem sep_comma (s:List UInt8) (ts:Toks) (h:SC s ts):SC ([44,32]++s) ([[44]]++ts):=by
 show SC (44::32::s) ([44]::ts);exact SC.sign (by decide) (by decide) (SC.sp h)
theorem lvK_sc {l:Lv} (hr:rightL l=true) (h4:l.p.length=4):SC (textL l) (lvK l):=by
 unfold textL lvK partsL;rw [if_pos hr,← ptsK_text];exact SC.joined sep_bar (fun r=>hs32) _ (ptsK_sc hr h4 _ 4 (Nat.le_refl _))
def tlK (l:Lv):Toks:=if Lib.containsAny (textL l) [43,124]=true then [40]::(lvK l++[[41]]) else lvK l
theorem tlK_sc {l:Lv} (hr:rightL l=true) (h4:l.p.length=4):SC (tlT l) (tlK l):=by
 unfold tlT tlK
 split
 ·exact SC.sign (by decide) (by decide) (SC.app (lvK_sc hr h4) (SC.sign (by decide) (by decide) SC.nil) (.of (by decide) (by decide)))
 ·exact lvK_sc hr h4
def lvsK (ls:List Lv):Toks:=if ls.length=0 then [] else [123]::(jnK [[44]] (ls.map lvK)++[[125]])
theorem lvsK_sc {ls:List Lv} (hr:∀ l∈ls,rightL l=true∧l.p.length=4) (hn:ls.length≠0):SC (lvsT ls) (lvsK ls):=by
 unfold lvsT lvsK;rw [if_neg hn,if_neg hn];refine SC.sign (by decide) (by decide) (SC.app ?_ (SC.sign (by decide) (by decide) SC.nil) (.of (by decide) (by decide)));have h:=SC.joined sep_comma (fun r=>.of (by decide) (by decide)) (ls.map fun l=>(textL l,lvK l)) (fun x hx=>by
  obtain ⟨l,hl,rfl⟩:=List.mem_map.1 hx;exact lvK_sc (hr l hl).1 (hr l hl).2)
 rw [List.map_map,List.map_map] at h;exact h
abbrev Pk:=List (Int × Toks)
def pkx (ps:Pk) (i:Nat):Toks:=(ps.getD i (0,[])).2
def pkk (ps:Pk) (i:Nat):Int:=(ps.getD i (0,[])).1
def atY (k:Int) (x:Toks):Toks:=if k=5∨k=6∨k=7∨k=8 then [40]::(x++[[41]]) else x
def apY (k:Int) (x:Toks):Toks:=if k=6∨k=7∨k=8 then [40]::(x++[[41]]) else x
def ndK (ns:List (List UInt8)) (d:Nat) (k n:Int) (s:List UInt8) (l:List Lv) (ps:Pk):Toks:=
 if k=1 then [ns.getD (d-1-n.toNat) []]
 else if k=2 then [[80,114,111,112]]
 else if k=3 then [84,121,112,101]::tlK (l.headD zeroL)
 else if k=4 then s::lvsK l
 else if k=5 then apY (pkk ps 0) (pkx ps 0)++atY (pkk ps 1) (pkx ps 1)
 else if k=8 then [108,101,116]::ns.getD d []::[58]::(pkx ps 0++([58,61]::(pkx ps 1++([105,110]::pkx ps 2))))
 else if k=9 then [91]::Lib.itoa n::[111,102]::s::(atY (pkk ps 0) (pkx ps 0)++[[93]])
 else wdX k::[40]::ns.getD d []::[58]::(pkx ps 0++([41]::[44]::pkx ps 1))
mutual
def tkX (ns:List (List UInt8)) (d:Nat):Tm→Toks
 |.mk k n s l a=>ndK ns d k n s l (tkP ns d k 0 a)
def tkP (ns:List (List UInt8)) (d:Nat) (k:Int) (i:Nat):List Tm→Pk
 |[]=>[]
 |t::ts=>(t.kind,tkX ns (d+(moreT k i).toNat) t)::tkP ns d k (i+1) ts
end
theorem atY_sc {k:Int} {x:List UInt8} {ts:Toks} (h:SC x ts):SC (atX k x) (atY k ts):=by
 unfold atX atY
 split
 ·show SC (40::(x++[41])) _
  exact SC.sign (by decide) (by decide) (SC.app h (SC.sign (by decide) (by decide) SC.nil) (.of (by decide) (by decide)))
 ·exact h
theorem apY_sc {k:Int} {x:List UInt8} {ts:Toks} (h:SC x ts):SC (apX k x) (apY k ts):=by
 unfold apX apY
 split
 ·show SC (40::(x++[41])) _
  exact SC.sign (by decide) (by decide) (SC.app h (SC.sign (by decide) (by decide) SC.nil) (.of (by decide) (by decide)))
 ·exact h
def NsW (ns:List (List UInt8)):Prop:=∀ i,i<200→wordB (ns.getD i [])=true
theorem binder_sc {w nm x0 x1:List UInt8} {t0 t1:Toks} (hw:tokAt w=some (1,w.length)) (hn:wordB nm=true) (h0:SC x0 t0) (h1:SC x1 t1):SC (w++([32,40]++(nm++([32,58,32]++(x0++([41,44,32]++x1)))))) (w::[40]::nm::[58]::(t0++([41]::[44]::t1))):=by
 show SC (w++(32::40::(nm++(32::58::32::(x0++(41::44::32::x1)))))) _;exact SC.app (SC.tok hw) (SC.sp (SC.sign (by decide) (by decide) (SC.app (SC.word hn) (SC.colon (SC.app h0 (SC.sign (by decide) (by decide) (SC.sign (by decide) (by decide) (SC.sp h1))) (.of (by decide) (by decide)))) hs32))) hs32
theorem let_sc {nm x0 x1 x2:List UInt8} {t0 t1 t2:Toks} (hn:wordB nm=true) (h0:SC x0 t0) (h1:SC x1 t1) (h2:SC x2 t2):SC ([108,101,116,32]++(nm++([32,58,32]++(x0++([32,58,61,32]++(x1++([32,105,110,32]++x2))))))) ([108,101,116]::nm::[58]::(t0++([58,61]::(t1++([105,110]::t2))))):=by
 show SC ([108,101,116]++(32::(nm++(32::58::32::(x0++(32::58::61::32::(x1++(32::([105,110]++(32::x2)))))))))) _;exact SC.app (s:=[108,101,116]) (SC.tok (k:=1) (by kernel_rfl)) (SC.sp (SC.app (SC.word hn) (SC.colon (SC.app h0 (SC.becomes (SC.app h1 (SC.sp (SC.app (s:=[105,110]) (SC.tok (k:=1) (by kernel_rfl)) (SC.sp h2) hs32)) hs32)) hs32)) hs32)) hs32
theorem proj_sc {n:Int} {s x:List UInt8} {t:Toks} (h0:0≤n) (h1:n≤31) (hs:wordB s=true) (h:SC x t):SC ([91]++(Lib.itoa n++([32,111,102,32]++(s++([32]++(x++[93])))))) ([91]::Lib.itoa n::[111,102]::s::(t++[[93]])):=by
 show SC (91::(Lib.itoa n++(32::([111,102]++(32::(s++(32::(x++[93])))))))) _;exact SC.sign (by decide) (by decide) (SC.app (SC.num h0 (by omega)) (SC.sp (SC.app (s:=[111,102]) (SC.tok (k:=1) (by kernel_rfl)) (SC.sp (SC.app (SC.word hs) (SC.sp (SC.app h (SC.sign (by decide) (by decide) SC.nil) (.of (by decide) (by decide)))) hs32)) hs32)) hs32)
theorem right_deepK {d:Nat} {t:Tm} (h:rightT wordB 4 (d:Int) (d:Int) t=true):d≤200:=by
 obtain ⟨k,n,s,l,a⟩:=t;exact (right_node h).deep
theorem tkX_sc (ns:List (List UInt8)) (hns:NsW ns):∀ (t:Tm) (d:Nat),rightT wordB 4 d d t=true→Lv4 t→SC (txT ns d t) (tkX ns d t):=by
 refine Tm.byParts fun k n s l a ih d hr h4=>?_;obtain ⟨k1,k9,hdeep,hargs,hlevels,hlvr,hword,n0,hnum,hvar,hparts⟩:=right_node hr;rw [Lv4] at h4;obtain ⟨h4,h4a⟩:=h4;have hkk:k=1∨k=2∨k=3∨k=4∨k=5∨k=6∨k=7∨k=8∨k=9:=(by omega);rw [txT,tkX];rcases hkk with rfl|rfl|rfl|rfl|rfl|rfl|rfl|rfl|rfl
 ·rw [ndX,ndK,if_pos rfl,if_pos rfl]
  have:=hvar rfl;exact SC.word (hns _ (by omega))
 ·rw [ndX,ndK,if_neg (by omega),if_pos rfl,if_neg (by omega),if_pos rfl]
  exact SC.tok (k:=1) (by kernel_rfl)
 ·obtain ⟨x,rfl⟩:=len1 (hlevels.1 rfl)
  rw [ndX,ndK,if_neg (by omega),if_neg (by omega),if_pos rfl,if_neg (by omega),if_neg (by omega),if_pos rfl];show SC ([84,121,112,101]++(32::tlT x)) _;exact SC.app (s:=[84,121,112,101]) (SC.tok (k:=1) (by kernel_rfl)) (SC.sp (tlK_sc (hlvr x (by simp)) (h4 x (by simp)))) hs32
 ·rw [ndX,ndK,if_neg (by omega),if_neg (by omega),if_neg (by omega),if_pos rfl,if_neg (by omega),if_neg (by omega),if_neg (by omega),if_pos rfl]
  by_cases hl:l.length=0
  ·rw [lvsT,lvsK,if_pos hl,if_pos hl,List.append_nil]
   exact SC.word (hword.1 (.inl rfl))
  ·refine SC.app (SC.word (hword.1 (.inl rfl))) (lvsK_sc (fun x hx=>⟨hlvr x hx,h4 x hx⟩) hl) ?_
   rw [lvsT,if_neg hl];exact .of (by decide) (by decide)
 ·obtain ⟨t0,t1,rfl⟩:=len2 (hargs.trans (by decide))
  simp only [rightTs,Bool.and_eq_true,show moreT 5 0=0 by decide,show moreT 5 1=0 by decide,Nat.zero_add,Int.add_zero] at hparts;have i0:=ih t0 (by simp) d hparts.1 (h4a.mem t0 (by simp));have i1:=ih t1 (by simp) d hparts.2.1 (h4a.mem t1 (by simp));rw [ndX,ndK,if_neg (by omega),if_neg (by omega),if_neg (by omega),if_neg (by omega),if_pos rfl,if_neg (by omega),if_neg (by omega),if_neg (by omega),if_neg (by omega),if_pos rfl];show SC (apX t0.kind (txT ns d t0)++(32::atX t1.kind (txT ns d t1))) _;exact SC.app (apY_sc i0) (SC.sp (atY_sc i1)) hs32
 ·obtain ⟨t0,t1,rfl⟩:=len2 (hargs.trans (by decide))
  simp only [rightTs,Bool.and_eq_true,show moreT 6 0=0 by decide,show moreT 6 1=1 by decide,Nat.zero_add,Int.add_zero] at hparts;have i0:=ih t0 (by simp) d hparts.1 (h4a.mem t0 (by simp));have r1:rightT wordB 4 ((d+1:Nat):Int) ((d+1:Nat):Int) t1=true:=(by rw [show ((d+1:Nat):Int)=(d:Int)+1 by omega];exact hparts.2.1);have i1:=ih t1 (by simp) (d+1) r1 (h4a.mem t1 (by simp));have hd1:=right_deepK r1;rw [ndX,ndK,if_neg (by omega),if_neg (by omega),if_neg (by omega),if_neg (by omega),if_neg (by omega),if_neg (by omega),if_neg (by omega),if_neg (by omega),if_neg (by omega),if_neg (by omega),if_neg (by omega),if_neg (by omega),if_neg (by omega),if_neg (by omega)];exact binder_sc (w:=wdX 6) (by kernel_rfl) (hns d (by omega)) i0 i1
 ·obtain ⟨t0,t1,rfl⟩:=len2 (hargs.trans (by decide))
  simp only [rightTs,Bool.and_eq_true,show moreT 7 0=0 by decide,show moreT 7 1=1 by decide,Nat.zero_add,Int.add_zero] at hparts;have i0:=ih t0 (by simp) d hparts.1 (h4a.mem t0 (by simp));have r1:rightT wordB 4 ((d+1:Nat):Int) ((d+1:Nat):Int) t1=true:=(by rw [show ((d+1:Nat):Int)=(d:Int)+1 by omega];exact hparts.2.1);have i1:=ih t1 (by simp) (d+1) r1 (h4a.mem t1 (by simp));have hd1:=right_deepK r1;rw [ndX,ndK,if_neg (by omega),if_neg (by omega),if_neg (by omega),if_neg (by omega),if_neg (by omega),if_neg (by omega),if_neg (by omega),if_neg (by omega),if_neg (by omega),if_neg (by omega),if_neg (by omega),if_neg (by omega),if_neg (by omega),if_neg (by omega)];exact binder_sc (w:=wdX 7) (by kernel_rfl) (hns d (by omega)) i0 i1
 ·obtain ⟨t0,t1,t2,rfl⟩:=len3 (hargs.trans (by decide))
  simp only [rightTs,Bool.and_eq_true,show moreT 8 0=0 by decide,show moreT 8 1=0 by decide,show moreT 8 2=1 by decide,Nat.zero_add,Int.add_zero,Nat.reduceAdd] at hparts;have i0:=ih t0 (by simp) d hparts.1 (h4a.mem t0 (by simp));have i1:=ih t1 (by simp) d hparts.2.1 (h4a.mem t1 (by simp));have r1:rightT wordB 4 ((d+1:Nat):Int) ((d+1:Nat):Int) t2=true:=(by rw [show ((d+1:Nat):Int)=(d:Int)+1 by omega];exact hparts.2.2.1);have i2:=ih t2 (by simp) (d+1) r1 (h4a.mem t2 (by simp));have hd1:=right_deepK r1;rw [ndX,ndK,if_neg (by omega),if_neg (by omega),if_neg (by omega),if_neg (by omega),if_neg (by omega),if_pos rfl,if_neg (by omega),if_neg (by omega),if_neg (by omega),if_neg (by omega),if_neg (by omega),if_pos rfl];exact let_sc (hns d (by omega)) i0 i1 i2
 ·obtain ⟨t0,rfl⟩:=len1 (hargs.trans (by decide))
  simp only [rightTs,Bool.and_eq_true,show moreT 9 0=0 by decide,Int.add_zero] at hparts;have i0:=ih t0 (by simp) d hparts.1 (h4a.mem t0 (by simp));rw [ndX,ndK,if_neg (by omega),if_neg (by omega),if_neg (by omega),if_neg (by omega),if_neg (by omega),if_neg (by omega),if_pos rfl,if_neg (by omega),if_neg (by omega),if_neg (by omega),if_neg (by omega),if_neg (by omega),if_neg (by omega),if_pos rfl];exact proj_sc n0 (by have:=hnum.1 rfl;omega) (hword.1 (.inr rfl)) (atY_sc i0)
end Go.Proofs.YtmceocgddaaohaaGreatDoor
namespace Go.Proofs.YtmceocgddaaohaaGreatDoor
open Go Go.RowKit
set_option maxRecDepth 100000
theorem num100:((List.range 101).all fun n=>numO (Lib.itoa (n:Int))==some n&&!decide (Lib.itoa (n:Int)∈us4))=true:=by kernel_rfl
theorem num_itoa {n:Int} (h0:0≤n) (h1:n≤100):numO (Lib.itoa n)=some n.toNat∧Lib.itoa n∉us4:=by
 have h:=List.all_eq_true.1 num100 n.toNat (List.mem_range.2 (by omega));rw [Bool.and_eq_true,beq_iff_eq,Int.toNat_of_nonneg h0,Bool.not_eq_true',decide_eq_false_iff_not] at h;exact h
theorem numQ_itoa {n:Int} (h0:0≤n) (h1:n≤100) (r:Toks):numQ (Lib.itoa n::r)=.ok n.toNat r:=by
 rw [numQ,nx_cons,(num_itoa h0 h1).1]
 rfl
theorem numTo_itoa {n:Int} {m:Nat} (h0:0≤n) (h1:n≤100) (hm:n≤m) (r:Toks):numTo m (Lib.itoa n::r)=.ok n.toNat r:=by
 rw [numTo,nx_cons,(num_itoa h0 h1).1];show (if n.toNat≤m then PR.ok n.toNat r else _)=_;rw [if_pos (by omega)]
theorem us4_0:uN 0∈us4∧uidx (uN 0)=0:=⟨by rw [show uN 0=[117,48] by kernel_rfl];decide,by rw [show uN 0=[117,48] by kernel_rfl];rfl⟩
theorem us4_1:uN 1∈us4∧uidx (uN 1)=1:=⟨by rw [show uN 1=[117,49] by kernel_rfl];decide,by rw [show uN 1=[117,49] by kernel_rfl];rfl⟩
theorem us4_2:uN 2∈us4∧uidx (uN 2)=2:=⟨by rw [show uN 2=[117,50] by kernel_rfl];decide,by rw [show uN 2=[117,50] by kernel_rfl];rfl⟩
theorem us4_3:uN 3∈us4∧uidx (uN 3)=3:=⟨by rw [show uN 3=[117,51] by kernel_rfl];decide,by rw [show uN 3=[117,51] by kernel_rfl];rfl⟩
theorem us4_of {i:Nat} (h:i<4):uN i∈us4∧uidx (uN i)=i:=by
 have hi:i=0∨i=1∨i=2∨i=3:=(by omega);rcases hi with rfl|rfl|rfl|rfl
 ·exact us4_0
 ·exact us4_1
 ·exact us4_2
 ·exact us4_3
def PtOk (q:Toks × Lv):Prop:=q.1≠[]∧∀ r,nx r≠[43]→partP true (q.1++r)=.ok q.2 r
theorem ptOk_u {i:Nat} {p:Int} (hi:i<4) (h0:0≤p) (h1:p≤100):PtOk (ptK i p,parL i p):=by
 obtain ⟨m1,m2⟩:=us4_of hi;refine ⟨by unfold ptK;split<;>simp,fun r hr=>?_⟩
 unfold ptK
 split
 ·next hp=>
  subst hp;show partP true (uN i::r)=_;rw [partP,nx_cons,if_pos m1,if_neg (fun h=>hr h.2),PR.bind_ok,m2,rightP1,if_pos (by omega)]
  rfl
 ·show partP true (uN i::[43]::Lib.itoa p::r)=_
  rw [partP,nx_cons,if_pos m1,if_pos ⟨rfl,rfl⟩];show PR.bind (numQ (Lib.itoa p::r)) _=_;rw [numQ_itoa h0 h1,PR.bind_ok,m2,rightP1,if_pos (by omega),Int.toNat_of_nonneg h0]
theorem partP_num {n:Int} (h0:0≤n) (h1:n≤100) (b:Bool) (r:Toks):partP b (Lib.itoa n::r)=.ok (numL n) r:=by
 rw [partP,nx_cons,if_neg (num_itoa h0 h1).2,numQ_itoa h0 h1,PR.bind_ok,rightP1,if_pos (by omega),Int.toNat_of_nonneg h0]
theorem ptOk_n {n:Int} (h0:0≤n) (h1:n≤100):PtOk ([Lib.itoa n],numL n):=⟨by simp,fun r _=>partP_num h0 h1 true r⟩
def ptsV (l:Lv) (top:Int):Nat→List (Toks × Lv)
 |0=>if top<l.b then [([Lib.itoa l.b],numL l.b)] else []
 |k+1=>if l.p.getD k 0=-1 then ptsV l top k else ptsV l top k++[(ptK k (l.p.getD k 0),parL k (l.p.getD k 0))]
theorem ptsV_toks (l:Lv) (top:Int):∀ k,(ptsV l top k).map (·.1)=(ptsK l top k).map (·.2)
 |0=>by
  rw [ptsV,ptsK]
  split<;>rfl
 |k+1=>by
  rw [ptsV,ptsK]
  split
  ·exact ptsV_toks l top k
  ·rw [List.map_append,List.map_append,ptsV_toks l top k]
   rfl
theorem ptsV_ok {l:Lv} (hr:rightL l=true) (h4:l.p.length=4) (top:Int):∀ k,k≤4→∀ x∈ptsV l top k,PtOk x
 |0,_,x,hx=>by
  rw [ptsV] at hx
  split at hx
  ·rw [List.mem_singleton.1 hx]
   have:=right_b hr;exact ptOk_n this.1 (by omega)
  ·cases hx
 |k+1,hk,x,hx=>by
  rw [ptsV] at hx
  split at hx
  ·exact ptsV_ok hr h4 top k (by omega) x hx
  ·next hn=>
   rcases List.mem_append.1 hx with hx|hx
   ·exact ptsV_ok hr h4 top k (by omega) x hx
   ·rw [List.mem_singleton.1 hx]
    have:=getD_p hr h4 (by omega) hn;have:=right_b hr;exact ptOk_u (by omega) (by omega) (by omega)
theorem lv_open {l:Lv} (h4:l.p.length=4):∃ b x y z u,l=⟨b,[x,y,z,u]⟩:=by
 obtain ⟨b,p⟩:=l
 match p,h4 with
 |[x,y,z,u],_=>exact ⟨b,x,y,z,u,rfl⟩
theorem parL_is {k:Nat} {n:Int} (h0:0≤n) (h1:n≤100):parL k n=⟨n,[-1,-1,-1,-1].set k n⟩:=if_pos ⟨h0,h1⟩
theorem ptsV_right {l:Lv} (hr:rightL l=true) (h4:l.p.length=4) (top:Int):∀ k,k≤4→∀ x∈(ptsV l top k).map (·.2),rightL x=true
 |0,_,x,hx=>by
  rw [ptsV] at hx
  split at hx
  ·rw [List.map_cons,List.map_nil] at hx
   rw [List.mem_singleton.1 hx];exact right_num (right_b hr).1 (right_b hr).2
  ·cases hx
 |k+1,hk,x,hx=>by
  rw [ptsV] at hx
  split at hx
  ·exact ptsV_right hr h4 top k (by omega) x hx
  ·next hn=>
   rw [List.map_append] at hx;rcases List.mem_append.1 hx with hx|hx
   ·exact ptsV_right hr h4 top k (by omega) x hx
   ·rw [List.map_cons,List.map_nil] at hx
    rw [List.mem_singleton.1 hx];have h1:=getD_p hr h4 (by omega) hn;have h2:=right_b hr;generalize l.p.getD k 0=n at h1;rw [parL_is (by omega) (by omega)];refine right_mk (by show 0≤n;omega) (by show n≤100;omega) fun y hy=>?_;rcases List.mem_or_eq_of_mem_set hy with hy|rfl
    ·simp only [List.mem_cons,List.not_mem_nil,or_false,or_self] at hy
     subst hy
     constructor
     ·omega
     ·show -1≤n
      omega
    ·constructor
     ·omega
     ·exact Int.le_refl _
theorem mx0 (x:Int) (h:-1≤x):max (-1) x=x:=by omega
theorem mx1 (x:Int) (h:-1≤x):max x (-1)=x:=by omega
theorem lv_back {l:Lv} (hr:rightL l=true) (h4:l.p.length=4):maxL ((ptsV l (topL l) 4).map (·.2))=l∧ptsV l (topL l) 4≠[]:=by
 have hall:=ptsV_right hr h4 (topL l) 4 (Nat.le_refl _);obtain ⟨b,x,y,z,u,rfl⟩:=lv_open h4;simp only [rightL,List.all_cons,List.all_nil,Bool.and_eq_true,decide_eq_true_eq,Bool.and_true] at hr;obtain ⟨⟨b0,b1⟩,⟨x0,x1⟩,⟨y0,y1⟩,⟨z0,z1⟩,u0,u1⟩:=hr;have ht:topL ⟨b,[x,y,z,u]⟩=max (max (max (max x x) y) z) u:=rfl;rw [ht] at hall ⊢;generalize hT:max (max (max (max x x) y) z) u=T at hall ⊢;have e0:maxRow ((ptsV ⟨b,[x,y,z,u]⟩ T 0).map (·.2)) (numL 0)=⟨if T<b then b else 0,[-1,-1,-1,-1]⟩:=by
  rw [ptsV]
  split
  ·show (⟨max 0 b,[max (-1) (-1),max (-1) (-1),max (-1) (-1),max (-1) (-1)]⟩:Lv)=_
   rw [show max (0:Int) b=b by omega]
   rfl
  ·rfl
 have hB0:(T<b→(if T<b then b else 0)=b)∧(¬ T<b→(if T<b then b else 0)=0):=⟨fun h=>if_pos h,fun h=>if_neg h⟩
 generalize (if T<b then b else 0)=B0 at e0 hB0;have e1:maxRow ((ptsV ⟨b,[x,y,z,u]⟩ T 1).map (·.2)) (numL 0)=⟨max (B0) x,[x,-1,-1,-1]⟩:=by
  by_cases h:x=-1
  ·rw [ptsV,if_pos (show List.getD [x,y,z,u] 0 0=-1 from h),e0,h]
   rw [show max (B0) (-1)=B0 by omega]
  ·rw [ptsV,if_neg (show ¬ List.getD [x,y,z,u] 0 0=-1 from h),List.map_append,List.map_cons,List.map_nil,maxRow_snoc,e0]
   show max2 ⟨B0,[-1,-1,-1,-1]⟩ (parL 0 x)=_;rw [parL_is (by omega) (by omega)];show (⟨max (B0) x,[max (-1) x,max (-1) (-1),max (-1) (-1),max (-1) (-1)]⟩:Lv)=_;simp only [mx0 x x0,  Int.max_self]
 have e2:maxRow ((ptsV ⟨b,[x,y,z,u]⟩ T 2).map (·.2)) (numL 0)=⟨max (max (B0) x) y,[x,y,-1,-1]⟩:=by
  by_cases h:y=-1
  ·rw [ptsV,if_pos (show List.getD [x,y,z,u] 1 0=-1 from h),e1,h]
   rw [show max (max (B0) x) (-1)=max (B0) x by omega]
  ·rw [ptsV,if_neg (show ¬ List.getD [x,y,z,u] 1 0=-1 from h),List.map_append,List.map_cons,List.map_nil,maxRow_snoc,e1]
   show max2 ⟨max (B0) x,[x,-1,-1,-1]⟩ (parL 1 y)=_;rw [parL_is (by omega) (by omega)];show (⟨max (max (B0) x) y,[max x (-1),max (-1) y,max (-1) (-1),max (-1) (-1)]⟩:Lv)=_;simp only [mx0 y y0,mx1 x x0,Int.max_self]
 have e3:maxRow ((ptsV ⟨b,[x,y,z,u]⟩ T 3).map (·.2)) (numL 0)=⟨max (max (max (B0) x) y) z,[x,y,z,-1]⟩:=by
  by_cases h:z=-1
  ·rw [ptsV,if_pos (show List.getD [x,y,z,u] 2 0=-1 from h),e2,h]
   rw [show max (max (max (B0) x) y) (-1)=max (max (B0) x) y by omega]
  ·rw [ptsV,if_neg (show ¬ List.getD [x,y,z,u] 2 0=-1 from h),List.map_append,List.map_cons,List.map_nil,maxRow_snoc,e2]
   show max2 ⟨max (max (B0) x) y,[x,y,-1,-1]⟩ (parL 2 z)=_;rw [parL_is (by omega) (by omega)];show (⟨max (max (max (B0) x) y) z,[max x (-1),max y (-1),max (-1) z,max (-1) (-1)]⟩:Lv)=_;simp only [mx0 z z0,mx1 x x0,mx1 y y0,Int.max_self]
 have e4:maxRow ((ptsV ⟨b,[x,y,z,u]⟩ T 4).map (·.2)) (numL 0)=⟨max (max (max (max (B0) x) y) z) u,[x,y,z,u]⟩:=by
  by_cases h:u=-1
  ·rw [ptsV,if_pos (show List.getD [x,y,z,u] 3 0=-1 from h),e3,h]
   rw [show max (max (max (max (B0) x) y) z) (-1)=max (max (max (B0) x) y) z by omega]
  ·rw [ptsV,if_neg (show ¬ List.getD [x,y,z,u] 3 0=-1 from h),List.map_append,List.map_cons,List.map_nil,maxRow_snoc,e3]
   show max2 ⟨max (max (max (B0) x) y) z,[x,y,z,-1]⟩ (parL 3 u)=_;rw [parL_is (by omega) (by omega)];show (⟨max (max (max (max (B0) x) y) z) u,[max x (-1),max y (-1),max z (-1),max (-1) u]⟩:Lv)=_;simp only [mx0 u u0,mx1 x x0,mx1 y y0,mx1 z z0,Int.max_self]
 have hne:ptsV ⟨b,[x,y,z,u]⟩ T 4≠[]:=by
  intro h;rw [h] at e4;have h2:(⟨0,[-1,-1,-1,-1]⟩:Lv)=⟨max (max (max (max B0 x) y) z) u,[x,y,z,u]⟩:=e4
  injection h2 with h3 h4
  simp only [List.cons.injEq,and_true] at h4;obtain ⟨rfl,rfl,rfl,rfl⟩:=h4;rw [ptsV,if_pos (show List.getD [(-1:Int),-1,-1,-1] 3 0=-1 from rfl),ptsV,if_pos (show List.getD [(-1:Int),-1,-1,-1] 2 0=-1 from rfl),ptsV,if_pos (show List.getD [(-1:Int),-1,-1,-1] 1 0=-1 from rfl),ptsV,if_pos (show List.getD [(-1:Int),-1,-1,-1] 0 0=-1 from rfl),ptsV,if_pos (by show T<b;omega)] at h;cases h
 refine ⟨?_,hne⟩;rw [maxL,if_pos (List.all_eq_true.2 hall),e4,show max (max (max (max B0 x) y) z) u=b by omega]
theorem ptsV_len (l:Lv) (top:Int):∀ k,(ptsV l top k).length≤k+1
 |0=>by
  rw [ptsV]
  split<;>simp
 |k+1=>by
  have:=ptsV_len l top k;rw [ptsV]
  split
  ·omega
  ·simp
   omega
theorem lvLoop_back:∀ (qs:List (Toks × Lv)) (acc:List Lv) (f:Nat) (r:Toks),(∀ q∈qs,PtOk q)→qs.length<f→nx r≠[124]→nx r≠[43]→lvLoop f acc ((qs.flatMap fun q=>[124]::q.1)++r)=.ok (maxL (acc++qs.map (·.2))) r
 |[],acc,f,r,_,hf,h1,h2=>by
  obtain ⟨f,rfl⟩:∃ g,f=g+1:=⟨f-1,by simp at hf;omega⟩;show lvLoop (f+1) acc r=_;rw [lvLoop,if_neg h1,List.map_nil,List.append_nil]
 |q::qs,acc,f,r,hq,hf,h1,h2=>by
  obtain ⟨f,rfl⟩:∃ g,f=g+1:=⟨f-1,by simp at hf;omega⟩;rw [List.flatMap_cons,List.append_assoc];show lvLoop (f+1) acc ([124]::(q.1++((qs.flatMap fun q=>[124]::q.1)++r)))=_
  have hne:nx ((qs.flatMap fun q=>[124]::q.1)++r)≠[43]:=by
   cases qs with
   |nil=>exact h2
   |cons y ys=>exact (by decide:([124]:List UInt8)≠[43])
  rw [lvLoop,nx_cons,if_pos rfl,List.tail_cons,(hq q (by simp)).2 _ hne,PR.bind_ok,lvLoop_back qs (acc++[q.2]) f r (fun x hx=>hq x (List.mem_cons_of_mem _ hx)) (by simp at hf;omega) h1 h2,List.map_cons,List.append_assoc]
  rfl
theorem levelQ_back {l:Lv} (hr:rightL l=true) (h4:l.p.length=4) (r:Toks) (h1:nx r≠[124]) (h2:nx r≠[43]):levelQ (lvK l++r)=.ok l r:=by
 obtain ⟨b1,b2⟩:=lv_back hr h4;have ok:=ptsV_ok hr h4 (topL l) 4 (Nat.le_refl _);have ln:=ptsV_len l (topL l) 4;rw [lvK,← ptsV_toks];generalize ptsV l (topL l) 4=qs at b1 b2 ok ln;cases qs with
 |nil=>exact absurd rfl b2
 |cons q qs=>
  rw [List.map_cons,jnK,List.flatMap_map,List.append_assoc];have hne:nx ((qs.flatMap fun q=>[124]::q.1)++r)≠[43]:=by
   cases qs with
   |nil=>exact h2
   |cons y ys=>exact (by decide:([124]:List UInt8)≠[43])
  show levelQ (q.1++((qs.flatMap fun q=>[124]::q.1)++r))=_
  rw [levelQ,(ok q (by simp)).2 _ hne,PR.bind_ok,lvLoop_back qs [q.2] FU r (fun x hx=>ok x (List.mem_cons_of_mem _ hx)) (by simp at ln;unfold FU;omega) h1 h2]
  rw [← b1]
  rfl
theorem maxL_one {v:Lv} (hr:rightL v=true) (h4:v.p.length=4):maxL [v]=v:=by
 rw [maxL,if_pos (by rw [List.all_cons,hr];rfl)];have hb:=right_b hr;have hp:=fun x hx=>right_p hr (x:=x) hx
 obtain ⟨b,x,y,z,u,rfl⟩:=lv_open h4;show (⟨max 0 b,[max (-1) x,max (-1) y,max (-1) z,max (-1) u]⟩:Lv)=_;have hb0:0≤b:=hb.1;rw [show max (0:Int) b=b by omega,mx0 x (hp x (by simp)).1,mx0 y (hp y (by simp)).1,mx0 z (hp z (by simp)).1,mx0 u (hp u (by simp)).1]
theorem ptsV_mem {l:Lv} (hr:rightL l=true) (h4:l.p.length=4) (top:Int):∀ k,k≤4→∀ q∈ptsV l top k,q=([Lib.itoa l.b],numL l.b)∨∃ i p,i<4∧0≤p∧p≤100∧q=(ptK i p,parL i p)∧partT i p∈partsUp l top k
 |0,_,q,hq=>by
  rw [ptsV] at hq
  split at hq
  ·exact .inl (List.mem_singleton.1 hq)
  ·cases hq
 |k+1,hk,q,hq=>by
  rw [ptsV] at hq
  split at hq
  ·next hn=>
   rw [partsUp,if_pos hn];exact ptsV_mem hr h4 top k (by omega) q hq
  ·next hn=>
   rw [partsUp,if_neg hn];rcases List.mem_append.1 hq with hq|hq
   ·rcases ptsV_mem hr h4 top k (by omega) q hq with h|⟨i,p,h1,h2,h3,h4,h5⟩
    ·exact .inl h
    ·exact .inr ⟨i,p,h1,h2,h3,h4,List.mem_append_left _ h5⟩
   ·have h1:=getD_p hr h4 (by omega) hn
    have h2:=right_b hr;exact .inr ⟨k,_,by omega,h1.1,by omega,List.mem_singleton.1 hq,List.mem_append_right _ (by simp)⟩
theorem ptsV_vr {l:Lv} (hr:rightL l=true) (h4:l.p.length=4) {q:Toks × Lv} (hq:q∈ptsV l (topL l) 4):q.2.p.length=4:=by
 rcases ptsV_mem hr h4 (topL l) 4 (Nat.le_refl _) q hq with rfl|⟨i,p,h1,h2,h3,rfl,-⟩
 ·rfl
 ·show (parL i p).p.length=4
  rw [parL_is h2 h3]
  simp
theorem cany_of {c:UInt8} {t:List UInt8} (ht:c∈t):∀ {s:List UInt8},c∈s→Lib.containsAny s t=true
 |[],h=>by cases h
 |b::s,h=>by
  rw [Lib.containsAny,decide_eq_true_eq,Lib.indexAny]
  split
  ·exact Int.le_refl _
  ·next hb=>
   rcases List.mem_cons.1 h with rfl|h
   ·exact absurd (by simpa using ht) hb
   ·have ih:=cany_of ht h
    rw [Lib.containsAny,decide_eq_true_eq] at ih
    split
    ·next e=>have:=beq_iff_eq.1 e;omega
    ·omega
theorem lv_plain {l:Lv} (hr:rightL l=true) (h4:l.p.length=4) (hc:Lib.containsAny (textL l) [43,124]≠true) (r:Toks):partP false (lvK l++r)=.ok l r∧nx (lvK l++r)≠[40]:=by
 have hno:∀ c∈textL l,c≠43∧c≠124:=fun c hc'=>⟨fun e=>hc (by subst e;exact cany_of (by simp) hc'),fun e=>hc (by subst e;exact cany_of (by simp) hc')⟩
 obtain ⟨b1,b2⟩:=lv_back hr h4;have mem:=ptsV_mem hr h4 (topL l) 4 (Nat.le_refl _);have vr:=fun q hq=>ptsV_vr hr h4 (q:=q) hq
 have rt:=ptsV_right hr h4 (topL l) 4 (Nat.le_refl _);have tk:=ptsV_toks l (topL l) 4;have tx:=ptsK_text l (topL l) 4;have ht:textL l=Lib.join (partsUp l (topL l) 4) [32,124,32]:=(by rw [textL,if_pos hr];rfl);rw [lvK,← tk];have hlen:(ptsV l (topL l) 4).length=(partsUp l (topL l) 4).length:=by
  have h1:=congrArg List.length tk;have h2:=congrArg List.length tx;simp only [List.length_map] at h1 h2;omega
 generalize ptsV l (topL l) 4=qs at b1 b2 mem vr rt hlen;generalize partsUp l (topL l) 4=ps at mem ht hlen
 match qs,b2 with
 |[q],_=>
  obtain ⟨t,rfl⟩:∃ t,ps=[t]:=by
   match ps,hlen with
   |[t],_=>exact ⟨t,rfl⟩
  rw [Lib.join_one] at ht;have hv:q.2=l:=by
   rw [← b1];exact (maxL_one (rt q.2 (by simp)) (vr q (by simp))).symm
  show partP false ((q.1++[])++r)=_∧nx ((q.1++[])++r)≠_;rw [List.append_nil];rcases mem q (by simp) with rfl|⟨i,p,h1,h2,h3,rfl,h5⟩
  ·have hb:=right_b hr
   refine ⟨?_,?_⟩
   ·show partP false (Lib.itoa l.b::r)=_
    rw [partP_num hb.1 hb.2];exact congrArg (fun v=>PR.ok v r) hv
   ·show Lib.itoa l.b≠[40]
    intro e;have:=itoa_digits hb.1 40 (by rw [e];simp)
    simp at this
  ·have e5:=List.mem_singleton.1 h5
   have hp:p=0:=by
    by_cases hp:p=0
    ·exact hp
    ·have h9:=hno 43 (by rw [ht,← e5,partT,if_neg hp];simp)
     exact absurd rfl h9.1
   subst hp;obtain ⟨m1,m2⟩:=us4_of h1;refine ⟨?_,by show uN i≠[40];unfold uN;intro e;have:=(List.cons.inj e).1;exact absurd this (by decide)⟩;show partP false (uN i::r)=_;rw [partP,nx_cons,if_pos m1,if_neg (fun h=>Bool.false_ne_true h.1),PR.bind_ok,m2,rightP1,if_pos (by omega)]
   exact congrArg (fun v=>PR.ok v r) hv
 |q::q2::qs,_=>
  exfalso
  match ps,hlen with
  |t::t2::ps,_=>
   rw [Lib.join_cons,joinT_cons] at ht;exact absurd rfl (hno 124 (by rw [ht];simp)).2
theorem tlevel_back {l:Lv} (hr:rightL l=true) (h4:l.p.length=4) (r:Toks):tlevelP (tlK l++r)=.ok l r:=by
 unfold tlK
 split
 ·rw [List.cons_append,List.append_assoc]
  show tlevelP ([40]::(lvK l++([41]::r)))=_;rw [tlevelP,nx_cons,if_pos rfl,List.tail_cons,levelQ_back hr h4 _ (by rw [nx_cons];decide) (by rw [nx_cons];decide),PR.bind_ok,exP,nx_cons,if_pos rfl,PR.bind_ok,List.tail_cons]
 ·next hc=>
  obtain ⟨h1,h2⟩:=lv_plain hr h4 hc r;rw [tlevelP,if_neg h2,h1]
theorem lvsLoop_back:∀ (ls:List Lv) (acc:List Lv) (k:Nat) (r:Toks),(∀ l∈ls,rightL l=true∧l.p.length=4)→ls.length≤k→nx r≠[44]→nx r≠[124]→nx r≠[43]→lvsLoop k acc (((ls.map lvK).flatMap fun y=>[[44]]++y)++r)=.ok (acc++ls) r
 |[],acc,k,r,_,_,h0,_,_=>by
  rw [List.append_nil];show lvsLoop k acc r=_;cases k with
  |zero=>rfl
  |succ k=>rw [lvsLoop,if_neg h0]
 |l::ls,acc,k,r,hl,hk,h0,h1,h2=>by
  obtain ⟨k,rfl⟩:∃ g,k=g+1:=⟨k-1,by simp at hk;omega⟩;rw [List.map_cons,List.flatMap_cons,List.append_assoc,List.append_assoc];show lvsLoop (k+1) acc ([44]::(lvK l++(((ls.map lvK).flatMap fun y=>[[44]]++y)++r)))=_
  have hne:∀ s:List UInt8,s=[124]∨s=[43]→nx (((ls.map lvK).flatMap fun y=>[[44]]++y)++r)≠s:=fun s hs=>by
   cases ls with
   |nil=>rcases hs with rfl|rfl;exact h1;exact h2
   |cons y ys=>rcases hs with rfl|rfl;exact (by decide:([44]:List UInt8)≠[124]);exact (by decide:([44]:List UInt8)≠[43])
  rw [lvsLoop,nx_cons,if_pos rfl,List.tail_cons,levelQ_back (hl l (by simp)).1 (hl l (by simp)).2 _ (hne _ (.inl rfl)) (hne _ (.inr rfl)),PR.bind_ok,lvsLoop_back ls (acc++[l]) k r (fun x hx=>hl x (List.mem_cons_of_mem _ hx)) (by simp at hk;omega) h0 h1 h2,List.append_assoc]
  rfl
theorem levels_back {ls:List Lv} (hl:∀ l∈ls,rightL l=true∧l.p.length=4) (hn:ls.length≠0) (h4:ls.length≤4) (r:Toks):levelsQ (jnK [[44]] (ls.map lvK)++([125]::r))=.ok ls r:=by
 cases ls with
 |nil=>exact absurd rfl hn
 |cons l ls=>
  rw [List.map_cons,jnK,List.append_assoc];have hne:∀ s:List UInt8,s=[124]∨s=[43]→nx (((ls.map lvK).flatMap fun y=>[[44]]++y)++([125]::r))≠s:=fun s hs=>by
   cases ls with
   |nil=>rcases hs with rfl|rfl;exact (by decide:([125]:List UInt8)≠[124]);exact (by decide:([125]:List UInt8)≠[43])
   |cons y ys=>rcases hs with rfl|rfl;exact (by decide:([44]:List UInt8)≠[124]);exact (by decide:([44]:List UInt8)≠[43])
  rw [levelsQ,levelQ_back (hl l (by simp)).1 (hl l (by simp)).2 _ (hne _ (.inl rfl)) (hne _ (.inr rfl)),PR.bind_ok,lvsLoop_back ls [l] 3 _ (fun x hx=>hl x (List.mem_cons_of_mem _ hx)) (by simp at h4;omega) (by rw [nx_cons];decide) (by rw [nx_cons];decide) (by rw [nx_cons];decide),PR.bind_ok,exP,nx_cons,if_pos rfl,PR.bind_ok]
  rfl
end Go.Proofs.YtmceocgddaaohaaGreatDoor
namespace Go.Proofs.YtmceocgddaaohaaGreatDoor
open Go Go.RowKit
set_option maxRecDepth 100000
mutual
def fmR:Tm→Rw→Prop
 |.mk k n s l a,r=>if k=1 then r.kind=4∧r.levels=[]∧r.args=[] else (r.kind:Int)=k∧(r.n:Int)=n∧r.levels=l∧(s≠[]→r.name=s)∧fmRs a r.args
def fmRs:List Tm→List Rw→Prop
 |[],rs=>rs=[]
 |t::ts,rs=>∃ x xs,rs=x::xs∧fmR t x∧fmRs ts xs
end
def GdR (t:Tm) (x:Rw):Prop:=fmR t x∧nodesR x=nodesT t
def TlK (r:Toks):Prop:=begA (nx r)=false∧nx r≠[123]
theorem kw_fun:begA [102,117,110]=false:=by kernel_rfl
theorem kw_all:begA [97,108,108]=false:=by kernel_rfl
theorem kw_let:begA [108,101,116]=false:=by kernel_rfl
theorem tf_app {n:Nat} {l:Toks} (h:begA (nx l)=true):tf (n+1) true l=appG (tf n false) l:=by
 rw [tf,termG,if_neg,if_neg,if_neg]
 ·intro e;rw [e,kw_let] at h;cases h
 ·intro e;rw [e,kw_all] at h;cases h
 ·intro e;rw [e,kw_fun] at h;cases h
theorem app_stop {A:Toks→PR Rw} {p g:Nat} {x:Rw} {r:Toks} (h:begA (nx r)=false) (hg:1≤g):appLoop A p g x r=.ok x r:=by
 obtain ⟨g,rfl⟩:∃ k,g=k+1:=⟨g-1,by omega⟩;rw [appLoop,if_neg (by rw [h];exact Bool.false_ne_true)]
theorem word_begs {s:List UInt8} (h:wordB s=true):begA s=true:=by rw [begA,h,Bool.or_true]
theorem word_notX {s x:List UInt8} (h:wordB s=true) (hx:wordB x=false):s≠x:=fun e=>by rw [e,hx] at h;cases h
theorem nw_prop:wordB [80,114,111,112]=false:=by kernel_rfl
theorem nw_type:wordB [84,121,112,101]=false:=by kernel_rfl
theorem nw_sq:wordB [91]=false:=by kernel_rfl
theorem nw_par:wordB [40]=false:=by kernel_rfl
theorem nameP_of {s:List UInt8} (h:wordB s=true) (r:Toks):namP (s::r)=.ok s r:=by rw [namP,nx_cons,if_pos h];rfl
theorem exP_of (s:List UInt8) (r:Toks):exP s (s::r)=.ok () r:=by rw [exP,nx_cons,if_pos rfl];rfl
theorem atom_word {T A:Toks→PR Rw} {s:List UInt8} (h:wordB s=true) (r:Toks):atomG T A (s::r)=if nx r=[123] then (levelsQ r.tail).bind fun c r'=>.ok (.mk 4 0 (some (s::r).length) s c []) r' else .ok (.mk 4 0 (some (s::r).length) s [] []) r:=by
 rw [atomG,nx_cons,if_neg (word_notX h nw_prop),if_neg (word_notX h nw_type),if_neg (word_notX h nw_sq),if_neg (word_notX h nw_par),nameP_of h,PR.bind_ok]
structure PX (ns:List (List UInt8)) (d:Nat) (t:Tm):Prop where
 hA:∀ r,begA (nx (atY t.kind (tkX ns d t)++r))=true
 hP:∀ r,begA (nx (apY t.kind (tkX ns d t)++r))=true
 T:∀ n r,3*nodesT t≤n→TlK r→∃ x,GdR t x∧tf n true (tkX ns d t++r)=.ok x r
 A:∀ n r,3*nodesT t+1≤n→nx r≠[123]→∃ x,GdR t x∧tf n false (atY t.kind (tkX ns d t)++r)=.ok x r
 S:∀ n r g p,3*nodesT t+1≤n→nx r≠[123]→nodesT t≤g→∃ x g',GdR t x∧g≤g'+nodesT t∧(tf n false (apY t.kind (tkX ns d t)++r)).bind (fun a r'=>appLoop (tf n false) p g a r')=appLoop (tf n false) p g' x r
theorem nodes_pos (t:Tm):1≤nodesT t:=by
 obtain ⟨k,n,s,l,a⟩:=t;rw [nodesT];omega
theorem PX.atom {ns : List (List UInt8)} {d : Nat} {t : Tm} (hk : ¬ (t.kind = 5 ∨ t.kind = 6 ∨ t.kind = 7 ∨ t.kind = 8)) (hb : ∀ r, begA (nx (tkX ns d t ++ r)) = true)
    (L:∀ n r,3*nodesT t≤n+1→nx r≠[123]→∃ x,GdR t x∧tf n false (tkX ns d t++r)=.ok x r):PX ns d t:=by
 have hp:=nodes_pos t;have e1:atY t.kind (tkX ns d t)=tkX ns d t:=if_neg hk;have e2:apY t.kind (tkX ns d t)=tkX ns d t:=if_neg (fun h=>hk (.inr h))
 refine ⟨fun r=>by rw [e1];exact hb r,fun r=>by rw [e2];exact hb r,fun n r hn hr=>?_,fun n r hn hr=>by rw [e1];exact L n r (by omega) hr,fun n r g p hn hr hg=>?_⟩
 ·obtain ⟨n,rfl⟩:∃ m,n=m+1:=⟨n-1,by omega⟩
  obtain ⟨x,hx,e⟩:=L n r (by omega) hr.2;exact ⟨x,hx,by rw [tf_app (hb r),appG,e,PR.bind_ok,app_stop hr.1 (by unfold FU;omega)]⟩
 ·obtain ⟨x,hx,e⟩:=L n r (by omega) hr
  exact ⟨x,g,hx,by omega,by rw [e2,e,PR.bind_ok]⟩
theorem paren_A {ns:List (List UInt8)} {d:Nat} {t:Tm} (T:∀ n r,3*nodesT t≤n→TlK r→∃ x,GdR t x∧tf n true (tkX ns d t++r)=.ok x r) (n:Nat) (r:Toks) (hn:3*nodesT t+1≤n):∃ x,GdR t x∧tf n false ([40]::(tkX ns d t++[[41]])++r)=.ok x r:=by
 obtain ⟨n,rfl⟩:∃ m,n=m+1:=⟨n-1,by omega⟩;obtain ⟨x,hx,e⟩:=T n ([41]::r) (by omega) ⟨by kernel_rfl,by rw [nx_cons];decide⟩;refine ⟨x,hx,?_⟩;rw [List.cons_append,List.append_assoc];show tf (n+1) false ([40]::(tkX ns d t++([41]::r)))=_;rw [tf,atomG,nx_cons,if_neg (by decide),if_neg (by decide),if_neg (by decide),if_pos rfl,List.tail_cons,e,PR.bind_ok,exP_of,PR.bind_ok]
theorem beg_par (x r:Toks):begA (nx ([40]::x++r))=true:=by
 rw [List.cons_append,nx_cons]
 kernel_rfl
theorem PX.binder {ns:List (List UInt8)} {d:Nat} {t:Tm} (hk:t.kind=6∨t.kind=7∨t.kind=8) (T:∀ n r,3*nodesT t≤n→TlK r→∃ x,GdR t x∧tf n true (tkX ns d t++r)=.ok x r):PX ns d t:=by
 have e1:atY t.kind (tkX ns d t)=[40]::(tkX ns d t++[[41]]):=if_pos (.inr hk);have e2:apY t.kind (tkX ns d t)=[40]::(tkX ns d t++[[41]]):=if_pos hk;refine ⟨fun r=>by rw [e1];exact beg_par _ _,fun r=>by rw [e2];exact beg_par _ _,T,fun n r hn _=>by rw [e1];exact paren_A T n r hn,fun n r g p hn hr hg=>?_⟩
 obtain ⟨x,hx,e⟩:=paren_A T n r hn;exact ⟨x,g,hx,by omega,by rw [e2,e,PR.bind_ok]⟩
theorem PX.app {ns:List (List UInt8)} {d:Nat} {n:Int} {t0 t1:Tm} (h0:PX ns d t0) (h1:PX ns d t1) (n0:n=0) (hF:nodesT (.mk 5 n [] [] [t0,t1])<FU):PX ns d (.mk 5 n [] [] [t0,t1]):=by
 have hn:nodesT (.mk 5 n [] [] [t0,t1])=1+(nodesT t0+nodesT t1):=(by rw [nodesT,nodesTs,nodesTs,nodesTs];simp);have e0:tkX ns d (.mk 5 n [] [] [t0,t1])=apY t0.kind (tkX ns d t0)++atY t1.kind (tkX ns d t1):=rfl;have hp0:=nodes_pos t0;have hp1:=nodes_pos t1;have hb:∀ r,begA (nx (tkX ns d (.mk 5 n [] [] [t0,t1])++r))=true:=fun r=>by
  rw [e0,List.append_assoc];exact h0.hP _
 have S:∀ m r g p,3*nodesT (.mk 5 n [] [] [t0,t1])≤m+1→nx r≠[123]→nodesT (.mk 5 n [] [] [t0,t1])≤g→∃ x g',GdR (.mk 5 n [] [] [t0,t1]) x∧g≤g'+nodesT (.mk 5 n [] [] [t0,t1])∧(tf m false (tkX ns d (.mk 5 n [] [] [t0,t1])++r)).bind (fun a r'=>appLoop (tf m false) p g a r')=appLoop (tf m false) p g' x r:=by
  intro m r g p hm hr hg;rw [hn] at hm hg;have hne:nx (atY t1.kind (tkX ns d t1)++r)≠[123]:=fun e=>by
   have:=h1.hA r;rw [e] at this;exact absurd this (by rw [show begA [123]=false by kernel_rfl];exact Bool.false_ne_true)
  obtain ⟨x0,g0,q0,l0,s0⟩:=h0.S m (atY t1.kind (tkX ns d t1)++r) g p (by omega) hne (by omega);obtain ⟨x1,q1,s1⟩:=h1.A m r (by omega) hr;obtain ⟨g0,rfl⟩:∃ k,g0=k+1:=⟨g0-1,by omega⟩;refine ⟨.mk 5 0 (some p) [] [] [x0,x1],g0,⟨?_,?_⟩,by rw [hn];omega,?_⟩
  ·rw [fmR,if_neg (by omega)]
   exact ⟨rfl,by rw [n0];rfl,rfl,fun h=>absurd rfl h,x0,[x1],rfl,q0.1,x1,[],rfl,q1.1,rfl⟩
  ·rw [hn,nodesR,nodesRs,nodesRs,nodesRs,q0.2,q1.2]
   simp
  ·rw [e0,List.append_assoc,s0,appLoop,if_pos (h1.hA r),s1,PR.bind_ok]
 have T:∀ m r,3*nodesT (.mk 5 n [] [] [t0,t1])≤m→TlK r→∃ x,GdR (.mk 5 n [] [] [t0,t1]) x∧tf m true (tkX ns d (.mk 5 n [] [] [t0,t1])++r)=.ok x r:=by
  intro m r hm hr;obtain ⟨m,rfl⟩:∃ k,m=k+1:=⟨m-1,by omega⟩;obtain ⟨x,g',q,l,s⟩:=S m r FU (tkX ns d (.mk 5 n [] [] [t0,t1])++r).length (by omega) hr.2 (by omega);exact ⟨x,q,by rw [tf_app (hb r),appG,s,app_stop hr.1 (by omega)]⟩
 refine ⟨fun r=>?_,hb,T,fun m r hm _=>?_,fun m r g p hm hr hg=>S m r g p (by omega) hr hg⟩
 ·show begA (nx ([40]::(tkX ns d (.mk 5 n [] [] [t0,t1])++[[41]])++r))=true
  exact beg_par _ _
 ·exact paren_A T m r hm
theorem PX.bind6 {ns:List (List UInt8)} {d:Nat} {t0 t1:Tm} (hw:wordB (ns.getD d [])=true) (h0:PX ns d t0) (h1:PX ns (d+1) t1):PX ns d (.mk 6 0 [] [] [t0,t1]):=by
 have hn:nodesT (.mk 6 0 [] [] [t0,t1])=1+(nodesT t0+nodesT t1):=(by rw [nodesT,nodesTs,nodesTs,nodesTs];simp);have e0:tkX ns d (.mk 6 0 [] [] [t0,t1])=[102,117,110]::[40]::ns.getD d []::[58]::(tkX ns d t0++([41]::[44]::tkX ns (d+1) t1)):=rfl;refine PX.binder (show (6:Int)=6∨(6:Int)=7∨(6:Int)=8 by decide) fun m r hm hr=>?_;rw [hn] at hm;obtain ⟨m,rfl⟩:∃ k,m=k+1:=⟨m-1,by omega⟩;obtain ⟨x0,q0,s0⟩:=h0.T m ([41]::[44]::(tkX ns (d+1) t1++r)) (by omega) ⟨by kernel_rfl,by rw [nx_cons];decide⟩;obtain ⟨x1,q1,s1⟩:=h1.T m r (by omega) hr;rw [e0];simp only [List.cons_append,List.append_assoc];refine ⟨.mk 6 0 (some (([102,117,110]:List UInt8)::[40]::ns.getD d []::[58]::(tkX ns d t0++([41]::[44]::(tkX ns (d+1) t1++r)))).length) (ns.getD d []) [] [x0,x1],⟨?_,?_⟩,?_⟩
 ·rw [fmR,if_neg (by omega)]
  exact ⟨rfl,rfl,rfl,fun h=>absurd rfl h,x0,[x1],rfl,q0.1,x1,[],rfl,q1.1,rfl⟩
 ·rw [hn,nodesR,nodesRs,nodesRs,nodesRs,q0.2,q1.2]
  simp
 ·rw [tf,termG,nx_cons,if_pos rfl,bindG,List.tail_cons,exP_of,PR.bind_ok,nameP_of hw,PR.bind_ok,exP_of,PR.bind_ok,s0,PR.bind_ok,exP_of,PR.bind_ok,exP_of,PR.bind_ok,s1,PR.bind_ok]
theorem PX.bind7 {ns:List (List UInt8)} {d:Nat} {t0 t1:Tm} (hw:wordB (ns.getD d [])=true) (h0:PX ns d t0) (h1:PX ns (d+1) t1):PX ns d (.mk 7 0 [] [] [t0,t1]):=by
 have hn:nodesT (.mk 7 0 [] [] [t0,t1])=1+(nodesT t0+nodesT t1):=(by rw [nodesT,nodesTs,nodesTs,nodesTs];simp);have e0:tkX ns d (.mk 7 0 [] [] [t0,t1])=[97,108,108]::[40]::ns.getD d []::[58]::(tkX ns d t0++([41]::[44]::tkX ns (d+1) t1)):=rfl;refine PX.binder (show (7:Int)=6∨(7:Int)=7∨(7:Int)=8 by decide) fun m r hm hr=>?_;rw [hn] at hm;obtain ⟨m,rfl⟩:∃ k,m=k+1:=⟨m-1,by omega⟩;obtain ⟨x0,q0,s0⟩:=h0.T m ([41]::[44]::(tkX ns (d+1) t1++r)) (by omega) ⟨by kernel_rfl,by rw [nx_cons];decide⟩;obtain ⟨x1,q1,s1⟩:=h1.T m r (by omega) hr;rw [e0];simp only [List.cons_append,List.append_assoc];refine ⟨.mk 7 0 (some (([97,108,108]:List UInt8)::[40]::ns.getD d []::[58]::(tkX ns d t0++([41]::[44]::(tkX ns (d+1) t1++r)))).length) (ns.getD d []) [] [x0,x1],⟨?_,?_⟩,?_⟩
 ·rw [fmR,if_neg (by omega)]
  exact ⟨rfl,rfl,rfl,fun h=>absurd rfl h,x0,[x1],rfl,q0.1,x1,[],rfl,q1.1,rfl⟩
 ·rw [hn,nodesR,nodesRs,nodesRs,nodesRs,q0.2,q1.2]
  simp
 ·rw [tf,termG,nx_cons,if_neg (by decide),if_pos rfl,bindG,List.tail_cons,exP_of,PR.bind_ok,nameP_of hw,PR.bind_ok,exP_of,PR.bind_ok,s0,PR.bind_ok,exP_of,PR.bind_ok,exP_of,PR.bind_ok,s1,PR.bind_ok]
theorem PX.let8 {ns:List (List UInt8)} {d:Nat} {t0 t1 t2:Tm} (hw:wordB (ns.getD d [])=true) (h0:PX ns d t0) (h1:PX ns d t1) (h2:PX ns (d+1) t2):PX ns d (.mk 8 0 [] [] [t0,t1,t2]):=by
 have hn:nodesT (.mk 8 0 [] [] [t0,t1,t2])=1+(nodesT t0+(nodesT t1+nodesT t2)):=(by rw [nodesT,nodesTs,nodesTs,nodesTs,nodesTs];simp);have e0:tkX ns d (.mk 8 0 [] [] [t0,t1,t2])=[108,101,116]::ns.getD d []::[58]::(tkX ns d t0++([58,61]::(tkX ns d t1++([105,110]::tkX ns (d+1) t2)))):=rfl;refine PX.binder (show (8:Int)=6∨(8:Int)=7∨(8:Int)=8 by decide) fun m r hm hr=>?_;rw [hn] at hm;obtain ⟨m,rfl⟩:∃ k,m=k+1:=⟨m-1,by omega⟩;obtain ⟨x0,q0,s0⟩:=h0.T m ([58,61]::(tkX ns d t1++([105,110]::(tkX ns (d+1) t2++r)))) (by omega) ⟨by kernel_rfl,by rw [nx_cons];decide⟩;obtain ⟨x1,q1,s1⟩:=h1.T m ([105,110]::(tkX ns (d+1) t2++r)) (by omega) ⟨by kernel_rfl,by rw [nx_cons];decide⟩;obtain ⟨x2,q2,s2⟩:=h2.T m r (by omega) hr;rw [e0];simp only [List.cons_append,List.append_assoc];refine ⟨.mk 8 0 (some (([108,101,116]:List UInt8)::ns.getD d []::[58]::(tkX ns d t0++([58,61]::(tkX ns d t1++([105,110]::(tkX ns (d+1) t2++r)))))).length) (ns.getD d []) [] [x0,x1,x2],⟨?_,?_⟩,?_⟩
 ·rw [fmR,if_neg (by omega)]
  exact ⟨rfl,rfl,rfl,fun h=>absurd rfl h,x0,[x1,x2],rfl,q0.1,x1,[x2],rfl,q1.1,x2,[],rfl,q2.1,rfl⟩
 ·rw [hn,nodesR,nodesRs,nodesRs,nodesRs,nodesRs,q0.2,q1.2,q2.2]
  simp
 ·rw [tf,termG,nx_cons,if_neg (by decide),if_neg (by decide),if_pos rfl,letG,List.tail_cons,nameP_of hw,PR.bind_ok,exP_of,PR.bind_ok,s0,PR.bind_ok,exP_of,PR.bind_ok,s1,PR.bind_ok,exP_of,PR.bind_ok,s2,PR.bind_ok]
theorem PX.proj {ns:List (List UInt8)} {d:Nat} {n:Int} {s:List UInt8} {t0:Tm} (n0:0≤n) (n1:n≤31) (hw:wordB s=true) (h0:PX ns d t0):PX ns d (.mk 9 n s [] [t0]):=by
 have hn:nodesT (.mk 9 n s [] [t0])=1+nodesT t0:=(by rw [nodesT,nodesTs,nodesTs];simp);have e0:tkX ns d (.mk 9 n s [] [t0])=[91]::Lib.itoa n::[111,102]::s::(atY t0.kind (tkX ns d t0)++[[93]]):=rfl;refine PX.atom (show ¬ ((9:Int)=5∨(9:Int)=6∨(9:Int)=7∨(9:Int)=8) by decide) (fun r=>by rw [e0,List.cons_append,nx_cons];kernel_rfl) fun m r hm hr=>?_;rw [hn] at hm;have hp0:=nodes_pos t0;obtain ⟨m,rfl⟩:∃ k,m=k+1:=⟨m-1,by omega⟩;obtain ⟨x0,q0,s0⟩:=h0.A m ([93]::r) (by omega) (by rw [nx_cons];decide);rw [e0];simp only [List.cons_append,List.append_assoc,List.nil_append];refine ⟨.mk 9 n.toNat (some (([91]:List UInt8)::Lib.itoa n::[111,102]::s::(atY t0.kind (tkX ns d t0)++([93]::r))).length) s [] [x0],⟨?_,?_⟩,?_⟩
 ·rw [fmR,if_neg (by omega)]
  exact ⟨rfl,Int.toNat_of_nonneg n0,rfl,fun _=>rfl,x0,[],rfl,q0.1,rfl⟩
 ·rw [hn,nodesR,nodesRs,nodesRs,q0.2]
  simp
 ·rw [tf,atomG,nx_cons,if_neg (by decide),if_neg (by decide),if_pos rfl,List.tail_cons,numTo_itoa n0 (by omega) (by omega),PR.bind_ok,exP_of,PR.bind_ok,nameP_of hw,PR.bind_ok,s0,PR.bind_ok,exP_of,PR.bind_ok]
theorem PX.leaf1 {ns:List (List UInt8)} {d:Nat} {n:Int} (hw:wordB (ns.getD (d-1-n.toNat) [])=true):PX ns d (.mk 1 n [] [] []):=by
 have hn:nodesT (.mk 1 n [] [] [])=1:=(by rw [nodesT,nodesTs];rfl);have e0:tkX ns d (.mk 1 n [] [] [])=[ns.getD (d-1-n.toNat) []]:=rfl;generalize ns.getD (d-1-n.toNat) []=s at hw e0;refine PX.atom (show ¬ ((1:Int)=5∨(1:Int)=6∨(1:Int)=7∨(1:Int)=8) by decide) (fun r=>by rw [e0,List.cons_append,nx_cons];exact word_begs hw) fun m r hm hr=>?_;rw [hn] at hm;obtain ⟨m,rfl⟩:∃ k,m=k+1:=⟨m-1,by omega⟩;refine ⟨.mk 4 0 (some (s::r).length) s [] [],⟨?_,by rw [hn,nodesR,nodesRs];rfl⟩,?_⟩
 ·rw [fmR,if_pos rfl]
  exact ⟨rfl,rfl,rfl⟩
 ·rw [e0]
  show tf (m+1) false (s::r)=_;rw [tf,atom_word hw,if_neg hr]
theorem PX.leaf2 {ns:List (List UInt8)} {d:Nat}:PX ns d (.mk 2 0 [] [] []):=by
 have hn:nodesT (.mk 2 0 [] [] [])=1:=(by rw [nodesT,nodesTs];rfl);have e0:tkX ns d (.mk 2 0 [] [] [])=[[80,114,111,112]]:=rfl;refine PX.atom (show ¬ ((2:Int)=5∨(2:Int)=6∨(2:Int)=7∨(2:Int)=8) by decide) (fun r=>by rw [e0,List.cons_append,nx_cons];kernel_rfl) fun m r hm hr=>?_;rw [hn] at hm;obtain ⟨m,rfl⟩:∃ k,m=k+1:=⟨m-1,by omega⟩;refine ⟨.mk 2 0 (some (([80,114,111,112]:List UInt8)::r).length) [] [] [],⟨?_,by rw [hn,nodesR,nodesRs];rfl⟩,?_⟩
 ·rw [fmR,if_neg (by omega)]
  exact ⟨rfl,rfl,rfl,fun h=>absurd rfl h,rfl⟩
 ·rw [e0]
  show tf (m+1) false ([80,114,111,112]::r)=_;rw [tf,atomG,nx_cons,if_pos rfl]
  rfl
theorem PX.leaf3 {ns:List (List UInt8)} {d:Nat} {x:Lv} (hr3:rightL x=true) (h4:x.p.length=4):PX ns d (.mk 3 0 [] [x] []):=by
 have hn:nodesT (.mk 3 0 [] [x] [])=2:=(by rw [nodesT,nodesTs];rfl);have e0:tkX ns d (.mk 3 0 [] [x] [])=[84,121,112,101]::tlK x:=rfl;refine PX.atom (show ¬ ((3:Int)=5∨(3:Int)=6∨(3:Int)=7∨(3:Int)=8) by decide) (fun r=>by rw [e0,List.cons_append,nx_cons];kernel_rfl) fun m r hm hr=>?_;rw [hn] at hm;obtain ⟨m,rfl⟩:∃ k,m=k+1:=⟨m-1,by omega⟩;refine ⟨.mk 3 0 (some (([84,121,112,101]:List UInt8)::(tlK x++r)).length) [] [x] [],⟨?_,by rw [hn,nodesR,nodesRs];rfl⟩,?_⟩
 ·rw [fmR,if_neg (by omega)]
  exact ⟨rfl,rfl,rfl,fun h=>absurd rfl h,rfl⟩
 ·rw [e0,List.cons_append]
  rw [tf,atomG,nx_cons,if_neg (by decide),if_pos rfl,List.tail_cons,tlevel_back hr3 h4,PR.bind_ok]
theorem PX.leaf4 {ns:List (List UInt8)} {d:Nat} {s:List UInt8} {l:List Lv} (hw:wordB s=true) (hl:∀ x∈l,rightL x=true∧x.p.length=4) (h4:l.length≤4):PX ns d (.mk 4 0 s l []):=by
 have hn:nodesT (.mk 4 0 s l [])=1+l.length:=(by rw [nodesT,nodesTs];rfl);have e0:tkX ns d (.mk 4 0 s l [])=s::lvsK l:=rfl;refine PX.atom (show ¬ ((4:Int)=5∨(4:Int)=6∨(4:Int)=7∨(4:Int)=8) by decide) (fun r=>by rw [e0,List.cons_append,nx_cons];exact word_begs hw) fun m r hm hr=>?_;rw [hn] at hm;obtain ⟨m,rfl⟩:∃ k,m=k+1:=⟨m-1,by omega⟩;refine ⟨.mk 4 0 (some (s::(lvsK l++r)).length) s l [],⟨?_,by rw [hn,nodesR,nodesRs];rfl⟩,?_⟩
 ·rw [fmR,if_neg (by omega)]
  exact ⟨rfl,rfl,rfl,fun _=>rfl,rfl⟩
 ·rw [e0,List.cons_append,tf,atom_word hw]
  by_cases h0:l.length=0
  ·obtain rfl:=List.eq_nil_of_length_eq_zero h0
   show (if nx r=[123] then _ else _)=_;rw [if_neg hr]
   rfl
  ·have e1:lvsK l++r=[123]::(jnK [[44]] (l.map lvK)++([125]::r)):=by
    rw [lvsK,if_neg h0,List.cons_append,List.append_assoc]
    rfl
   rw [e1,nx_cons,if_pos rfl,List.tail_cons,levels_back hl h0 h4,PR.bind_ok]
theorem PX_all (ns:List (List UInt8)) (hns:NsW ns):∀ (t:Tm) (d:Nat),rightT wordB 4 d d t=true→Lv4 t→nodesT t<FU→PX ns d t:=by
 refine Tm.byParts fun k n s l a ih d hr h4 hF=>?_;obtain ⟨k1,k9,hdeep,hargs,hlevels,hlvr,hword,n0,hnum,hvar,hparts⟩:=right_node hr;rw [Lv4] at h4;obtain ⟨h4,h4a⟩:=h4;have hkk:k=1∨k=2∨k=3∨k=4∨k=5∨k=6∨k=7∨k=8∨k=9:=(by omega);have hF':=hF;rw [nodesT] at hF';rcases hkk with rfl|rfl|rfl|rfl|rfl|rfl|rfl|rfl|rfl
 ·obtain rfl:=hword.2 (by decide)
  obtain rfl:=List.eq_nil_of_length_eq_zero (hlevels.2.2 (by decide) (by decide));obtain rfl:=List.eq_nil_of_length_eq_zero (hargs.trans (by decide));exact PX.leaf1 (hns _ (by have:=hvar rfl;omega))
 ·obtain rfl:=hword.2 (by decide)
  obtain rfl:=List.eq_nil_of_length_eq_zero (hlevels.2.2 (by decide) (by decide));obtain rfl:=List.eq_nil_of_length_eq_zero (hargs.trans (by decide));obtain rfl:=hnum.2 (by decide) (by decide);exact PX.leaf2
 ·obtain rfl:=hword.2 (by decide)
  obtain ⟨x,rfl⟩:=len1 (hlevels.1 rfl);obtain rfl:=List.eq_nil_of_length_eq_zero (hargs.trans (by decide));obtain rfl:=hnum.2 (by decide) (by decide);exact PX.leaf3 (hlvr x (by simp)) (h4 x (by simp))
 ·obtain rfl:=List.eq_nil_of_length_eq_zero (hargs.trans (by decide))
  obtain rfl:=hnum.2 (by decide) (by decide);exact PX.leaf4 (hword.1 (.inl rfl)) (fun x hx=>⟨hlvr x hx,h4 x hx⟩) (hlevels.2.1 rfl)
 ·obtain rfl:=hword.2 (by decide)
  obtain rfl:=List.eq_nil_of_length_eq_zero (hlevels.2.2 (by decide) (by decide));obtain ⟨t0,t1,rfl⟩:=len2 (hargs.trans (by decide));simp only [rightTs,Bool.and_eq_true,show moreT 5 0=0 by decide,show moreT 5 1=0 by decide,Nat.zero_add,Int.add_zero] at hparts;rw [nodesTs,nodesTs,nodesTs] at hF';exact PX.app (ih t0 (by simp) d hparts.1 (h4a.mem t0 (by simp)) (by omega)) (ih t1 (by simp) d hparts.2.1 (h4a.mem t1 (by simp)) (by omega)) (hnum.2 (by decide) (by decide)) hF
 ·obtain rfl:=hword.2 (by decide)
  obtain rfl:=List.eq_nil_of_length_eq_zero (hlevels.2.2 (by decide) (by decide));obtain ⟨t0,t1,rfl⟩:=len2 (hargs.trans (by decide));obtain rfl:=hnum.2 (by decide) (by decide);simp only [rightTs,Bool.and_eq_true,show moreT 6 0=0 by decide,show moreT 6 1=1 by decide,Nat.zero_add,Int.add_zero] at hparts;rw [nodesTs,nodesTs,nodesTs] at hF';have r1:rightT wordB 4 ((d+1:Nat):Int) ((d+1:Nat):Int) t1=true:=(by rw [show ((d+1:Nat):Int)=(d:Int)+1 by omega];exact hparts.2.1);exact PX.bind6 (hns d (by have:=right_deepK r1;omega)) (ih t0 (by simp) d hparts.1 (h4a.mem t0 (by simp)) (by omega)) (ih t1 (by simp) (d+1) r1 (h4a.mem t1 (by simp)) (by omega))
 ·obtain rfl:=hword.2 (by decide)
  obtain rfl:=List.eq_nil_of_length_eq_zero (hlevels.2.2 (by decide) (by decide));obtain ⟨t0,t1,rfl⟩:=len2 (hargs.trans (by decide));obtain rfl:=hnum.2 (by decide) (by decide);simp only [rightTs,Bool.and_eq_true,show moreT 7 0=0 by decide,show moreT 7 1=1 by decide,Nat.zero_add,Int.add_zero] at hparts;rw [nodesTs,nodesTs,nodesTs] at hF';have r1:rightT wordB 4 ((d+1:Nat):Int) ((d+1:Nat):Int) t1=true:=(by rw [show ((d+1:Nat):Int)=(d:Int)+1 by omega];exact hparts.2.1);exact PX.bind7 (hns d (by have:=right_deepK r1;omega)) (ih t0 (by simp) d hparts.1 (h4a.mem t0 (by simp)) (by omega)) (ih t1 (by simp) (d+1) r1 (h4a.mem t1 (by simp)) (by omega))
 ·obtain rfl:=hword.2 (by decide)
  obtain rfl:=List.eq_nil_of_length_eq_zero (hlevels.2.2 (by decide) (by decide));obtain ⟨t0,t1,t2,rfl⟩:=len3 (hargs.trans (by decide));obtain rfl:=hnum.2 (by decide) (by decide);simp only [rightTs,Bool.and_eq_true,show moreT 8 0=0 by decide,show moreT 8 1=0 by decide,show moreT 8 2=1 by decide,Nat.zero_add,Int.add_zero,Nat.reduceAdd] at hparts;rw [nodesTs,nodesTs,nodesTs,nodesTs] at hF';have r1:rightT wordB 4 ((d+1:Nat):Int) ((d+1:Nat):Int) t2=true:=(by rw [show ((d+1:Nat):Int)=(d:Int)+1 by omega];exact hparts.2.2.1);exact PX.let8 (hns d (by have:=right_deepK r1;omega)) (ih t0 (by simp) d hparts.1 (h4a.mem t0 (by simp)) (by omega)) (ih t1 (by simp) d hparts.2.1 (h4a.mem t1 (by simp)) (by omega)) (ih t2 (by simp) (d+1) r1 (h4a.mem t2 (by simp)) (by omega))
 ·obtain rfl:=List.eq_nil_of_length_eq_zero (hlevels.2.2 (by decide) (by decide))
  obtain ⟨t0,rfl⟩:=len1 (hargs.trans (by decide));simp only [rightTs,Bool.and_eq_true,show moreT 9 0=0 by decide,Int.add_zero] at hparts;rw [nodesTs,nodesTs] at hF';exact PX.proj n0 (hnum.1 rfl) (hword.1 (.inr rfl)) (ih t0 (by simp) d hparts.1 (h4a.mem t0 (by simp)) (by omega))
end Go.Proofs.YtmceocgddaaohaaGreatDoor
