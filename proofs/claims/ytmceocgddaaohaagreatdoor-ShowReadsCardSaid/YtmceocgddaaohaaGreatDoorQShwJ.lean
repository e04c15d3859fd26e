import Derived.Test.YtmceocgddaaohaaGreatDoorQGenT
import Derived.Test.YtmceocgddaaohaaGreatDoorQShwH
import Derived.Test.YtmceocgddaaohaaGreatDoorQShwI
namespace Go.Proofs.YtmceocgddaaohaaGreatDoor
open Go Go.RowKit
set_option maxRecDepth 100000
def tkT (t:Tm):List (List UInt8):=Lib.compact (sortedS (nmL (walkT t 0)))
def nsT (t:Tm):List (List UInt8):=freL (tkT t) 200
def wlT (t:Tm):List UInt8:=txT (nsT t) 0 t
theorem compact_sub {l:List (List UInt8)} {x:List UInt8} (h:x∈Lib.compact l):x∈l:=by
 unfold Lib.compact Lib.compactUpTo at h;obtain ⟨j,hj,rfl⟩:=List.mem_map.1 h;have hl:=List.mem_range.1 (List.mem_filter.1 hj).1;simp only [List.getElem!_toArray];rw [getElem!_pos l j hl];exact List.getElem_mem hl
theorem tk_words {t:Tm} (h:rightP 4 0 t=true):∀ s∈tkT t,wordB s=true:=by
 intro s hs;have h1:=List.mem_mergeSort.1 (compact_sub hs);unfold nmL at h1;obtain ⟨l,hl,hsl⟩:=List.mem_flatten.1 h1;obtain ⟨x,hx,rfl⟩:=List.mem_map.1 hl;unfold nmX at hsl
 split at hsl
 ·next hk=>
  obtain rfl:=List.mem_singleton.1 hsl;rw [rightP_list 4 0 t (by omega)] at h;simp only [Bool.and_eq_true,List.all_eq_true] at h;have h2:=h.2 x hx;obtain ⟨⟨k,n,s,l,a⟩,d⟩:=x;rw [head_fits] at h2;simp only [headT,Bool.and_eq_true] at h2;have h3:=h2.1.1.1.2;dsimp only [Tm.kind] at hk;rw [if_pos hk] at h3;exact h3
 ·cases hsl
theorem wordB_len {s:List UInt8} (h:wordB s=true):s.length≤32:=by
 simp only [wordB,Bool.and_eq_true,decide_eq_true_eq] at h;exact h.1.1
theorem nmL_len {t:Tm} (hn:nodesT t≤3000):(nmL (walkT t 0)).length≤3000:=by
 have key:∀ l:List (Tm × Int),(nmL l).length≤wsum l:=fun l=>by
  induction l with
  |nil=>simp [nmL]
  |cons x r ih=>
   have:(nmX x).length≤1:=by unfold nmX;split<;>simp
   simp [nmL,wsum] at ih ⊢
   omega
 have h2:=key (walkT t 0);rw [wsum_walk] at h2;omega
theorem tk_len {t:Tm} (hn:nodesT t≤3000):(tkT t).length≤3000:=by
 have h1:=compact_le (sortedS (nmL (walkT t 0)));have h2:(sortedS (nmL (walkT t 0))).length=(nmL (walkT t 0)).length:=List.length_mergeSort ..;have h3:=nmL_len hn;unfold tkT;omega
theorem tk_at {w:World} {v:Value} {t:Tm} (h:(nmL (walkT t 0)=[]∧∃ a c,v=.slice a 0 c)∨StrsAt w v (tkT t)):TkAt w v (tkT t):=by
 rcases h with ⟨h1,a,c,rfl⟩|⟨b,o,c,rfl,h2⟩
 ·have e:tkT t=[]:=by
   unfold tkT;rw [h1,sortedS,List.mergeSort_nil]
   decide
  rw [e];exact ⟨a,c,rfl,fun hp=>by simp at hp⟩
 ·refine ⟨_,_,rfl,fun hp=>⟨b,o,rfl,?_,h2⟩⟩
  obtain ⟨s,hs⟩:∃ s,(tkT t)[0]?=some s:=⟨_,List.getElem?_eq_getElem hp⟩;exact block_lt_of_cell (StrsAt.cell h2 hs)
theorem Wb.open {B b:Nat} {nv:Value} {bs:List UInt8} {w:World} (h:Wb B b nv bs w):∃ p v,Blk w b 69 [p,v,nv]∧∀ (nv':Value) (w':World),Blk w' b 69 [p,v,nv']→Upd b w w'→Wb B b nv' bs w':=by
 obtain ⟨p,v,h1,h2,h3,h4⟩:=h;exact ⟨p,v,h1,fun nv' w' hb hu=>⟨p,v,hb,ownF_upd h2 hu h3,h3,h4⟩⟩
theorem NmR.of {m b:Nat} {w w':World} {v:Value} {l:List (List UInt8)} {cs:List Value} (h:RowS m w v l) (hl:l≠[]) (hb:Blk w b 69 cs) (hu:Upd b w w'):NmR w' v l:=by
 rcases h with ⟨-,rfl⟩|⟨g,cap,cur,rfl,-,hg,-,-,-,ht,-⟩
 ·exact absurd rfl hl
 ·refine ⟨g,cap,cur,rfl,?_,ht⟩
  rw [hu.block g (Array.getElem?_eq_some_iff.1 hg).1 (fun e=>?_)]
  ·exact hg
  ·subst e
   unfold Blk at hb;rw [hb] at hg;exact absurd (Obj.cells.inj (Option.some.inj hg)).2.1 (by decide)
theorem sizeStrs:(Tryz.prog.info? 62).map (·.size)=some 1:=by kernel_rfl
mutual
def Lv4:Tm→Prop
 |.mk _ _ _ l a=>(∀ x∈l,x.p.length=4)∧Lv4s a
def Lv4s:List Tm→Prop
 |[]=>True
 |t::ts=>Lv4 t∧Lv4s ts
end
theorem Lv4s.mem:∀ {ts:List Tm},Lv4s ts→∀ t∈ts,Lv4 t
 |[],_,t,h=>by cases h
 |x::ts,hx,t,h=>by
  rw [Lv4s] at hx;rcases List.mem_cons.1 h with rfl|h
  ·exact hx.1
  ·exact Lv4s.mem hx.2 t h
set_option maxHeartbeats 4000000 in
theorem whole_walkH (B:Nat) (w0:World) (hB:w0.heap.size=B) (hT:TabW w0) (b:Nat) (nv:Value) (t:Tm) (cs:List Value) (ht:TmAt [] w0 t cs) (hs:SmT t) (hr:rightP 4 0 t=true) (bs:List UInt8) (w:World) (hb:Below B w0 w) (hw:Wb B b nv bs w) (hm:bs.length+(wlT t).length≤MB):Calls Tryz.prog 24 #[.pointer (some ⟨b,0,none⟩),.agg cs.toArray] w fun e w'=>e=.returned (.tuple #[])∧∃ nv',Wb B b nv' (bs++wlT t) w'∧WS B b w w':=by
 have BE0:Hid (Below B w0 w):=hb;have WB:=hZ hw;have HM:=hZ hm;have WW:Hid (WS B b w w):=WS.refl _ _ _;have SW:Hid (B≤w.heap.size):=Nat.le_trans hw.ge (Nat.le_of_lt hw.lt);have C5:=hZ ht.len;have HT0:=hZ ht;have SM:=hZ hs;have RP:=hZ hr;have ND:Hid (nodesT t≤3000):=(by have h9:=hr;simp only [rightP,Bool.and_eq_true,decide_eq_true_eq] at h9;exact h9.2.1);have RT:Hid (rightT wordB 4 ((0:Nat):Int) ((0:Nat):Int) t=true):=(by have h9:=hr;simp only [rightP,Bool.and_eq_true] at h9;exact h9.2.2);obtain ⟨X,hX⟩:∃ y,Hid (wlT t=y):=⟨_,rfl⟩;rw [hX.out] at HM ⊢;clear hb hw hm ht hs hr
 go_enter Tryz.func24,Tryz.ntmps24
 go_upto_region 0 with (fail);refine lbeg (opsOf Tryz.f24 0) ?_;obtain ⟨q1,hq1⟩:∃ y,Hid (w.heap.size=y):=⟨_,rfl⟩;refine lbox 0 25 (.tmp 1) (cs) q1 (some 3) hq1 ?_;intro w2 b1 e1 s1;rw [← hq1.out] at e1;replace WB:=hZ (WB.out.below e1);replace WW:=hZ (WW.out.trans (WS.of_below e1 SW.out));replace SW:Hid (B≤w2.heap.size):=Nat.le_trans SW.out e1.size;have BX:=hZ b1;clear b1 e1 s1 hq1;refine ldq 1 ?_;go_upto_region 1 with (fail);refine lbeg (opsOf Tryz.f24 1) ?_;refine lnow 0 (.pointer (some ⟨b,0,none⟩)) (some 4) ?_;refine lrl 1 (cs) (some 5) 25 3 q1 0 BX.out.whole Tryz.underlying25 (t5Size C5.out) ?_;refine lcal 2 47 #[.agg cs.toArray] (some 6) _ (consts_all t cs w2 (TmAt.step (Step.of_below (BE0.out.trans WW.out.low) (by rw [hB];exact Nat.le_refl _):Step [] w0 [] w2) t cs HT0.out) SM.out ND.out) ?_;rintro e w3 ⟨v,rfl,hv,hb⟩;refine ⟨_,rfl,?_⟩;have TK:=hZ (tk_at hv);clear hv;replace WB:=hZ (WB.out.below hb);replace WW:=hZ (WW.out.trans (WS.of_below hb SW.out));replace SW:Hid (B≤w3.heap.size):=Nat.le_trans SW.out hb.size;replace BX:=hZ (BX.out.below hb BX.out.lt);clear hb;refine lcal 3 22 #[.int .i64 200,v] (some 7) _ (fresh_walk 200 (by omega) (by omega) (tkT t) v w3 TK.out (by have:=tk_len ND.out;omega) (fun x hx=>by have:=wordB_len (tk_words RP.out x hx);omega) (hT.below (by rw [hB];exact BE0.out.trans WW.out.low))) ?_;rintro e w4 ⟨r,rfl,hrow,hb⟩;refine ⟨_,rfl,?_⟩;have RW:=hZ hrow;clear hrow TK
 replace WB:=hZ (WB.out.below hb);replace WW:=hZ (WW.out.trans (WS.of_below hb SW.out));replace SW:Hid (B≤w4.heap.size):=Nat.le_trans SW.out hb.size;replace BX:=hZ (BX.out.below hb BX.out.lt);clear hb;obtain ⟨va,vc,hve⟩:=RW.out.slice_of;rw [freL_len] at hve;subst hve;refine lnow 4 (.pointer (some ⟨b,0,none⟩)) (some 8) ?_;refine lnow 5 (.pointer (some ⟨b,2,none⟩)) (some 9) ?_;obtain ⟨p0,v0,hblk,hopen⟩:=WB.out.open;refine lin_putF 6 2 62 (.tmp 9) (.tmp 7) b 69 [p0,v0,nv] (.slice va 200 vc) (by kernel_rfl) (by kernel_rfl) (by kernel_rfl) (by kernel_rfl) (by kernel_rfl) hblk (by simp) sizeStrs rfl rfl ?_;intro w5 b4 u4;refine ldq 7 ?_;have NM:Hid (NmR w5 (.slice va 200 vc) (nsT t)):=NmR.of RW.out (by intro h;have:=freL_len (tkT t) 200;rw [show freL (tkT t) 200=[] from h] at this;cases this) hblk u4;have WS4:WS B b w4 w5:=u4.ws WB.out.ge SW.out;replace BX:=hZ (u4.blk BX.out (WB.out.ne BX.out (by decide)));replace WB:=hZ (hopen (.slice va 200 vc) w5 b4 u4);replace WW:=hZ (WW.out.trans WS4);replace SW:Hid (B≤w5.heap.size):=Nat.le_trans SW.out WS4.low.size;clear RW hblk hopen b4 u4 WS4;have WA:=(writes_all B w0 hB hT b (.slice va 200 vc) (nsT t) (freL_len _ _) t cs 0 HT0.out RT.out).term;rw [show txT (nsT t) 0 t=X from hX.out] at WA;go_upto_region 2 with (fail);refine lbeg (opsOf Tryz.f24 2) ?_;refine lnow 0 (.pointer (some ⟨b,0,none⟩)) (some 10) ?_
 refine lrl 1 (cs) (some 11) 25 3 q1 0 BX.out.whole Tryz.underlying25 (t5Size C5.out) ?_;refine lcal 2 48 #[.pointer (some ⟨b,0,none⟩),.agg cs.toArray,.int .i64 0] (some 12) _ (WA _ w5 (BE0.out.trans WW.out.low) WB.out NM.out (by have:=HM.out;(try simp only [List.length_append,List.length_cons,List.length_nil] at this ⊢);omega)) ?_;rintro e w6 ⟨rfl,hw,hs⟩;refine ⟨_,rfl,?_⟩;replace BX:=hZ (hs.blk BX.out (WB.out.ne BX.out (by decide)) (by decide));replace NM:=hZ (NM.out.ws WB.out hs);replace WB:=hZ hw;replace WW:=hZ (WW.out.trans hs);replace SW:Hid (B≤w6.heap.size):=Nat.le_trans SW.out hs.low.size;clear hw hs;refine ldq 3 ?_;have FIN:Hid (Wb B b (.slice va 200 vc) (bs++X) w6∧WS B b w w6):=⟨WB.out,WW.out⟩;clear WB NM;go_wp2
 go_end0
 exact ⟨rfl,_,FIN.out⟩
theorem xN_len {n:Nat} (h:n≤100000):(xN n).length≤22:=by
 have:=itoa_le (n:=(n:Int)) (by omega) (by omega);show (_::_).length≤22;rw [List.length_cons];omega
theorem frL_mem (tk:List (List UInt8)):∀ (i:Nat) (s:List UInt8),s∈frL tk i→∃ j,j<i∧s=xN j
 |0,_,h=>by cases h
 |i+1,s,h=>by
  rw [frL] at h
  split at h
  ·obtain ⟨j,hj,e⟩:=frL_mem tk i s h
   exact ⟨j,by omega,e⟩
  ·rcases List.mem_append.1 h with h|h
   ·obtain ⟨j,hj,e⟩:=frL_mem tk i s h
    exact ⟨j,by omega,e⟩
   ·exact ⟨i,by omega,List.mem_singleton.1 h⟩
theorem frN_is {tk:List (List UInt8)} {k:Nat}:∃ j,j≤k+tk.length∧frN tk k=xN j:=by
 have h1:=frL_more tk (k+1+tk.length);have hk:k<(frL tk (k+1+tk.length)).length:=(by omega);obtain ⟨j,hj,e⟩:=frL_mem tk _ _ (List.getElem_mem hk);refine ⟨j,by omega,?_⟩;rw [frN,List.getD_eq_getElem?_getD,List.getElem?_eq_getElem hk];exact e
theorem freL_getD {tk:List (List UInt8)} {n i:Nat} (h:i<n):(freL tk n).getD i []=frN tk i:=by
 rw [freL,List.getD_eq_getElem?_getD,List.getElem?_map,List.getElem?_range h]
 rfl
theorem nsT_len {t:Tm} (hn:nodesT t≤3000) (i:Nat):((nsT t).getD i []).length≤22:=by
 by_cases h:i<200
 ·rw [nsT,freL_getD h]
  obtain ⟨j,hj,e⟩:=frN_is (tk:=tkT t) (k:=i);rw [e];have:=tk_len hn;exact xN_len (by omega)
 ·rw [List.getD_eq_getElem?_getD,List.getElem?_eq_none (by rw [nsT,freL_len];omega)]
  exact Nat.zero_le _
theorem atX_le (k:Int) (x:List UInt8):(atX k x).length≤x.length+2:=by
 unfold atX
 split
 ·simp
 ·omega
theorem apX_le (k:Int) (x:List UInt8):(apX k x).length≤x.length+2:=by
 unfold apX
 split
 ·simp
 ·omega
theorem tlT_le {l:Lv} (hl:l.p.length=4):(tlT l).length≤267:=by
 have:=textL_len hl;unfold tlT
 split
 ·simp;omega
 ·omega
theorem lvsT_le {ls:List Lv} (h:∀ l∈ls,l.p.length=4):(lvsT ls).length≤2+267*ls.length:=by
 have h1:=joinC_le (ls.map textL) (fun x hx=>by obtain ⟨l,hl,rfl⟩:=List.mem_map.1 hx;exact textL_len (h l hl))
 rw [List.length_map] at h1;unfold lvsT
 split
 ·simp
 ·simp;omega
theorem txT_len (ns:List (List UInt8)) (hns:∀ i,(ns.getD i []).length≤22):∀ (t:Tm) (d:Nat),rightT wordB 4 d d t=true→Lv4 t→(txT ns d t).length≤400*nodesT t:=by
 refine Tm.byParts fun k n s l a ih d hr h4=>?_;obtain ⟨k1,k9,hdeep,hargs,hlevels,hlvr,hword,n0,hnum,hvar,hparts⟩:=right_node hr;rw [Lv4] at h4;obtain ⟨h4,h4a⟩:=h4;have hkk:k=1∨k=2∨k=3∨k=4∨k=5∨k=6∨k=7∨k=8∨k=9:=(by omega);rw [nodesT,txT];rcases hkk with rfl|rfl|rfl|rfl|rfl|rfl|rfl|rfl|rfl
 ·rw [ndX,if_pos rfl]
  have:=hns (d-1-n.toNat);omega
 ·rw [ndX,if_neg (by omega),if_pos rfl]
  simp
  omega
 ·obtain ⟨x,rfl⟩:=len1 (hlevels.1 rfl)
  rw [ndX,if_neg (by omega),if_neg (by omega),if_pos rfl,List.length_append];have:=tlT_le (h4 x (by simp));simp only [List.headD_cons,List.length_cons,List.length_nil];omega
 ·rw [ndX,if_neg (by omega),if_neg (by omega),if_neg (by omega),if_pos rfl,List.length_append]
  have:=lvsT_le h4;have:=wordB_len (hword.1 (.inl rfl));omega
 ·obtain ⟨t0,t1,rfl⟩:=len2 (hargs.trans (by decide))
  simp only [rightTs,Bool.and_eq_true,show moreT 5 0=0 by decide,show moreT 5 1=0 by decide,Nat.zero_add,Int.add_zero] at hparts;have i0:=ih t0 (by simp) d hparts.1 (h4a.mem t0 (by simp));have i1:=ih t1 (by simp) d hparts.2.1 (h4a.mem t1 (by simp));rw [ndX,if_neg (by omega),if_neg (by omega),if_neg (by omega),if_neg (by omega),if_pos rfl,nodesTs,nodesTs,nodesTs];show (apX t0.kind (txT ns d t0)++([32]++atX t1.kind (txT ns d t1))).length≤_;have:=apX_le t0.kind (txT ns d t0);have:=atX_le t1.kind (txT ns d t1);simp only [List.length_append,List.length_cons,List.length_nil];omega
 ·obtain ⟨t0,t1,rfl⟩:=len2 (hargs.trans (by decide))
  simp only [rightTs,Bool.and_eq_true,show moreT 6 0=0 by decide,show moreT 6 1=1 by decide,Nat.zero_add,Int.add_zero] at hparts;have i0:=ih t0 (by simp) d hparts.1 (h4a.mem t0 (by simp));have i1:=ih t1 (by simp) (d+1) (by rw [show ((d+1:Nat):Int)=(d:Int)+1 by omega];exact hparts.2.1) (h4a.mem t1 (by simp));rw [ndX,if_neg (by omega),if_neg (by omega),if_neg (by omega),if_neg (by omega),if_neg (by omega),if_neg (by omega),if_neg (by omega),nodesTs,nodesTs,nodesTs];show ([102,117,110]++([32,40]++(ns.getD d []++([32,58,32]++(txT ns d t0++([41,44,32]++txT ns (d+1) t1)))))).length≤_;have:=hns d;simp only [List.length_append,List.length_cons,List.length_nil];omega
 ·obtain ⟨t0,t1,rfl⟩:=len2 (hargs.trans (by decide))
  simp only [rightTs,Bool.and_eq_true,show moreT 7 0=0 by decide,show moreT 7 1=1 by decide,Nat.zero_add,Int.add_zero] at hparts;have i0:=ih t0 (by simp) d hparts.1 (h4a.mem t0 (by simp));have i1:=ih t1 (by simp) (d+1) (by rw [show ((d+1:Nat):Int)=(d:Int)+1 by omega];exact hparts.2.1) (h4a.mem t1 (by simp));rw [ndX,if_neg (by omega),if_neg (by omega),if_neg (by omega),if_neg (by omega),if_neg (by omega),if_neg (by omega),if_neg (by omega),nodesTs,nodesTs,nodesTs];show ([97,108,108]++([32,40]++(ns.getD d []++([32,58,32]++(txT ns d t0++([41,44,32]++txT ns (d+1) t1)))))).length≤_;have:=hns d;simp only [List.length_append,List.length_cons,List.length_nil];omega
 ·obtain ⟨t0,t1,t2,rfl⟩:=len3 (hargs.trans (by decide))
  simp only [rightTs,Bool.and_eq_true,show moreT 8 0=0 by decide,show moreT 8 1=0 by decide,show moreT 8 2=1 by decide,Nat.zero_add,Int.add_zero,Nat.reduceAdd] at hparts;have i0:=ih t0 (by simp) d hparts.1 (h4a.mem t0 (by simp));have i1:=ih t1 (by simp) d hparts.2.1 (h4a.mem t1 (by simp));have i2:=ih t2 (by simp) (d+1) (by rw [show ((d+1:Nat):Int)=(d:Int)+1 by omega];exact hparts.2.2.1) (h4a.mem t2 (by simp));rw [ndX,if_neg (by omega),if_neg (by omega),if_neg (by omega),if_neg (by omega),if_neg (by omega),if_pos rfl,nodesTs,nodesTs,nodesTs,nodesTs];show ([108,101,116,32]++(ns.getD d []++([32,58,32]++(txT ns d t0++([32,58,61,32]++(txT ns d t1++([32,105,110,32]++txT ns (d+1) t2))))))).length≤_;have:=hns d;simp only [List.length_append,List.length_cons,List.length_nil];omega
 ·obtain ⟨t0,rfl⟩:=len1 (hargs.trans (by decide))
  simp only [rightTs,Bool.and_eq_true,show moreT 9 0=0 by decide,Int.add_zero] at hparts;have i0:=ih t0 (by simp) d hparts.1 (h4a.mem t0 (by simp));rw [ndX,if_neg (by omega),if_neg (by omega),if_neg (by omega),if_neg (by omega),if_neg (by omega),if_neg (by omega),if_pos rfl,nodesTs,nodesTs];show ([91]++(Lib.itoa n++([32,111,102,32]++(s++([32]++(atX t0.kind (txT ns d t0)++[93])))))).length≤_;have:=atX_le t0.kind (txT ns d t0);have:=wordB_len (hword.1 (.inr rfl));have:=itoa_le (n:=n) n0 (by have:=hnum.1 rfl;omega);simp only [List.length_append,List.length_cons,List.length_nil];omega
theorem wlT_len {t:Tm} (hr:rightP 4 0 t=true) (h4:Lv4 t):(wlT t).length≤1200000:=by
 simp only [rightP,Bool.and_eq_true,decide_eq_true_eq] at hr;have:=txT_len (nsT t) (nsT_len hr.2.1) t 0 hr.2.2 h4;unfold wlT;omega
mutual
theorem TmAt.lv4 {F:List Nat} {w:World}:∀ (t:Tm) (cs:List Value),TmAt F w t cs→Lv4 t
 |.mk k n s l a,cs,h=>by
  rw [TmAt] at h;obtain ⟨lv,av,-,h2,h3⟩:=h;rw [Lv4];obtain ⟨_,_,_,_,_,h4,_⟩:=h2;exact ⟨h4,TmsAt.lv4 a av h3⟩
theorem TmsAt.lv4 {F:List Nat} {w:World}:∀ (ts:List Tm) (v:Value),TmsAt F w ts v→Lv4s ts
 |[],_,_=>by rw [Lv4s];trivial
 |t::ts,v,h=>by
  rw [TmsAt] at h;obtain ⟨cap,pb,po,-,-,-,-,h5⟩:=h;exact TmRow.lv4 (t::ts) pb po h5
theorem TmRow.lv4 {F:List Nat} {w:World}:∀ (ts:List Tm) (pb po:Nat),TmRow F w ts pb po→Lv4s ts
 |[],_,_,_=>by rw [Lv4s];trivial
 |t::ts,pb,po,h=>by
  rw [TmRow] at h;obtain ⟨⟨cs,-,h2⟩,h3⟩:=h;rw [Lv4s];exact ⟨TmAt.lv4 t cs h2,TmRow.lv4 ts pb (po+5) h3⟩
end
theorem zeroWtr:(Tryz.prog.info? 69).map (·.zero)=some (some (.agg ([.pointer none,.slice none 0 0,.slice none 0 0]:List Value).toArray)):=by kernel_rfl
theorem Wb.new {B b:Nat} {w:World} (h:Blk w b 69 [.pointer none,.slice none 0 0,.slice none 0 0]) (hB:B≤b):Wb B b (.slice none 0 0) [] w:=⟨_,_,h,⟨rfl,.inl ⟨rfl,rfl⟩⟩,by simp [Value.ownBlock],hB,.inl rfl,fun _=>rfl⟩
set_option maxHeartbeats 4000000 in
theorem showTerm_walk {F:List Nat} (t:Tm) (cs:List Value) (w:World) (hT:TabW w) (ht:TmAt F w t cs) (hs:SmT t) (hn:nodesT t≤100000000000):Calls Tryz.prog 8 #[.agg cs.toArray] w fun e w'=>e=.returned (.tuple #[sT (if rightP 4 0 t=true then wlT t else []),.bool (rightP 4 0 t)])∧Below w.heap.size w w':=by
 obtain ⟨B,hB⟩:∃ B,Hid (w.heap.size=B):=⟨_,rfl⟩;have C5:=hZ ht.len;have HT0:Hid (TmAt [] w t cs):=TmAt.sub (fun k hk=>by cases hk) t cs ht
 have SM:=hZ hs;have BN:=hZ hn;have L4:=hZ (TmAt.lv4 t cs HT0.out);obtain ⟨rb,hrb⟩:∃ y,Hid (rightP 4 0 t=y):=⟨_,rfl⟩;rw [hrb.out,hB.out];clear ht hs hn
 go_enter Tryz.func8,Tryz.ntmps8
 go_upto_region 0 with (fail);refine lbeg (opsOf Tryz.f8 0) ?_;refine lbox 0 25 (.tmp 0) cs B (some 1) hB ?_;intro w1 b1 e1 s1;refine lnow 1 (sT []) (some 2) ?_;refine lnow 2 (.bool false) (some 3) ?_;refine ldq 3 ?_;have BX:=hZ b1;have BE:Hid (Below B w w1):=e1;have SZ:Hid (B<w1.heap.size):=(by have:=s1.out;rw [Hid];omega);clear b1 e1 s1;go_upto_region 1 with (fail);refine lbeg (opsOf Tryz.f8 1) ?_;refine lrl 0 (cs) (some 5) 25 1 B 0 BX.out.whole Tryz.underlying25 (t5Size C5.out) ?_;refine lcal 1 23 #[.agg cs.toArray,.int .i64 4,.int .i64 0] (some 6) _ (right_walk8 t cs 4 0 w1 (TmAt.step (Step.of_below BE.out (by rw [hB.out];exact Nat.le_refl _):Step [] w [] w1) t cs HT0.out) SM.out BN.out) ?_;rintro e w2 ⟨rfl,hb2⟩;refine ⟨_,rfl,?_⟩;rw [hrb.out];replace BX:=hZ (BX.out.below hb2 BX.out.lt);replace BE:Hid (Below B w w2):=BE.out.trans (hb2.mono (Nat.le_of_lt SZ.out));replace SZ:Hid (B<w2.heap.size):=Nat.lt_of_lt_of_le SZ.out hb2.size;clear hb2;cases rb with
 |false=>
  refine lnow 2 (.bool true) (some 7) ?_;refine ldq 3 ?_;go_upto_region 2 with (fail);refine lbeg (opsOf Tryz.f8 2) ?_;refine lnow 0 (sT []) (some 2) ?_;refine lnow 1 (.bool false) (some 3) ?_;refine ldq 2 ?_;go_wp2;refine bodyPost_ret (v:=.tuple #[sT [],.bool false]) (by kernel_rfl) rfl ⟨rfl,BE.out⟩
 |true=>
  refine lnow 2 (.bool false) (some 7) ?_;refine ldq 3 ?_;obtain ⟨b,hbz⟩:∃ y,Hid (w2.heap.size=y):=⟨_,rfl⟩;go_upto_region 3 with (fail);refine lbeg (opsOf Tryz.f8 3) ?_;refine lin_alloc 0 69 [.pointer none,.slice none 0 0,.slice none 0 0] b (some 4) (by kernel_rfl) (by kernel_rfl) (by kernel_rfl) zeroWtr hbz ?_;intro w3 b3 e3 s3;refine ldq 1 ?_;have WB:Hid (Wb B b (.slice none 0 0) [] w3):=Wb.new b3 (by have:=SZ.out;have:=hbz.out;omega);replace BX:=hZ (BX.out.below e3 (by have:=SZ.out;have:=hbz.out;omega));replace BE:Hid (Below B w w3):=BE.out.trans (e3.mono (by have:=SZ.out;have:=hbz.out;omega));have LX:=wlT_len hrb.out L4.out;clear b3 e3 s3;go_upto_region 4 with (fail);refine lbeg (opsOf Tryz.f8 4) ?_;refine lrl 0 (cs) (some 8) 25 1 B 0 BX.out.whole Tryz.underlying25 (t5Size C5.out) ?_;refine lcal 1 24 #[.pointer (some ⟨b,0,none⟩),.agg cs.toArray] (some 9) _ (whole_walkH B w hB.out hT b (.slice none 0 0) t cs HT0.out SM.out hrb.out [] w3 BE.out WB.out (by unfold MB;simp;omega)) ?_;rintro e w4 ⟨rfl,nv',hw4,hs4⟩;refine ⟨_,rfl,?_⟩;refine ldq 2 ?_;have WB4:=hZ hw4;replace BE:Hid (Below B w w4):=BE.out.trans hs4.low;clear hw4 hs4 WB BX;rw [List.nil_append] at WB4
  skip
  go_upto_region 5 with (fail);refine lbeg (opsOf Tryz.f8 5) ?_;refine lnow 0 (.pointer (some ⟨b,0,none⟩)) (some 10) ?_;refine lcal 1 25 #[.pointer (some ⟨b,0,none⟩)] (some 11) _ (wstring_walk B b nv' (wlT t) w4 WB4.out) ?_;rintro e w5 ⟨rfl,hb5⟩;refine ⟨_,rfl,?_⟩;replace BE:Hid (Below B w w5):=BE.out.trans hb5;clear hb5 WB4;refine lnow 2 (sT (wlT t)) (some 2) ?_;refine lnow 3 (.bool true) (some 3) ?_;refine ldq 4 ?_;go_wp2;refine bodyPost_ret (v:=.tuple #[sT (wlT t),.bool true]) (by kernel_rfl) rfl ⟨rfl,BE.out⟩
end Go.Proofs.YtmceocgddaaohaaGreatDoor
