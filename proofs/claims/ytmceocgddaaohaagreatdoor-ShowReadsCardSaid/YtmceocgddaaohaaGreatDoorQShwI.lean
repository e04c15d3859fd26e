import Derived.Test.YtmceocgddaaohaaGreatDoorQGenT
import Derived.Test.YtmceocgddaaohaaGreatDoorQShwH
namespace Go.Proofs.YtmceocgddaaohaaGreatDoor
open Go Go.RowKit
set_option maxRecDepth 100000
theorem FrE.lts {mb mq:Nat} {tk:List (List UInt8)} {w:World} (h:FrE mb mq tk w):mb<w.heap.size∧mq<w.heap.size∧0<w.heap.size:=⟨h.box.lt,h.set.lt,block_lt_of_cell (h.tab.cell gPow 0 (by decide))⟩
theorem FrE.same {mb mq:Nat} {tk:List (List UInt8)} {w w':World} (h:FrE mb mq tk w) (h1:w'.heap[mb]?=w.heap[mb]?) (h2:w'.heap[mq]?=w.heap[mq]?) (h3:w'.heap[0]?=w.heap[0]?):FrE mb mq tk w':=by
 refine ⟨?_,h.set.same h2,?_⟩
 ·have:=h.box
  unfold Blk at this ⊢;rw [h1,this]
 ·have ht:=h.tab
  unfold TabW Lib.TabIs at ht ⊢;rw [← ht];unfold World.var?;rw [gPow];simp only [Option.bind];rw [h3]
theorem FrE.put {mb mq l B:Nat} {tk:List (List UInt8)} {w:World} {o:Obj} (h:FrE mb mq tk w) (hb:mb<B∧mq<B∧0<B) (hl:B≤l):FrE mb mq tk (w.putObj l o):=
 h.same (World.putObj_heap_other (by omega)) (World.putObj_heap_other (by omega)) (World.putObj_heap_other (by omega))
theorem FrE.ne {mb mq b:Nat} {tk:List (List UInt8)} {w:World} (h:FrE mb mq tk w) {t:TypeId} {cs:Array Value} (hb:w.heap[b]?=some (.cells cs t (0,0))) (ht:t=9∨t=62) (hc:∀ u∈cs,(∃ s,u=sT s)∨∃ a n c,u=.slice a n c):b≠mb∧b≠mq∧b≠0:=by
 refine ⟨fun e=>?_,fun e=>?_,fun e=>?_⟩
 ·subst e
  have h1:=h.box;unfold Blk at h1;rw [hb] at h1;have h2:=(Obj.cells.inj (Option.some.inj h1)).2.1;rcases ht with rfl|rfl<;>exact absurd h2 (by decide)
 ·subst e
  obtain ⟨es,clock,kset,h1,-⟩:=h.set;rw [hb] at h1;cases h1
 ·subst e
  have h1:=h.tab.cell gPow 0 (by decide);rw [cell_of_row w _ 0 cs t (0,0) hb] at h1;rcases hc _ (Array.mem_of_getElem? h1) with ⟨s,hs⟩|⟨a,n,c,hs⟩
  ·cases hs
  ·cases hs
theorem str_of_strV {u:Value} (h:strV u=true):∃ s,u=sT s:=by
 cases u<;>first|(cases h;done)|skip
 rename_i s
 exact ⟨s.data.toList,rfl⟩
theorem FrE.grown {mb mq m:Nat} {tk:List (List UInt8)} {w w':World} {v:Value} {l:List (List UInt8)} (h:FrE mb mq tk w) (hv:RowS m w v l) (hg:w.grownBy w' v.ownBlock):FrE mb mq tk w':=by
 have key:∀ b,b<w.heap.size→(b=mb∨b=mq∨b=0)→w'.heap[b]?=w.heap[b]?:=fun b hb hm=>hg.block b hb (fun e=>by
  obtain ⟨-,-,cur,hc,hs⟩:=hv.own b e.symm;have:=h.ne hc (.inl rfl) (fun u hu=>.inl (str_of_strV (hs u hu)))
  omega)
 obtain ⟨l1,l2,l3⟩:=h.lts;exact h.same (key _ l1 (.inl rfl)) (key _ l2 (.inr (.inl rfl))) (key _ l3 (.inr (.inr rfl)))
theorem FrE.upd {mb mq b:Nat} {tk:List (List UInt8)} {w w':World} {a:Option Addr} {n c:Nat} (h:FrE mb mq tk w) (hb:Blk w b 62 [.slice a n c]) (hu:Upd b w w'):FrE mb mq tk w':=by
 have hn:=h.ne (b:=b) hb (.inr rfl) (fun u hu=>.inr ⟨a,n,c,by simpa using hu⟩)
 obtain ⟨l1,l2,l3⟩:=h.lts;exact h.same (hu.block _ l1 (by omega)) (hu.block _ l2 (by omega)) (hu.block _ l3 (by omega))
theorem RowS.slice_of {m:Nat} {w:World} {v:Value} {l:List (List UInt8)} (h:RowS m w v l):∃ a c,v=.slice a l.length c:=by
 rcases h with ⟨rfl,rfl⟩|⟨g,cap,cur,rfl,-⟩
 ·exact ⟨_,_,rfl⟩
 ·exact ⟨_,_,rfl⟩
theorem RowS.ne_blk {m b:Nat} {w:World} {v:Value} {l:List (List UInt8)} {cs:List Value} (h:RowS m w v l) (hb:Blk w b 62 cs):v.ownBlock≠some b:=fun e=>by
 obtain ⟨-,-,cur,hc,-⟩:=h.own b e;unfold Blk at hb;rw [hb] at hc;exact absurd (Obj.cells.inj (Option.some.inj hc)).2.1 (by decide)
theorem RowS.ne_int {m b:Nat} {w:World} {v:Value} {l:List (List UInt8)} {cs:List Value} (h:RowS m w v l) (hb:Blk w b 3 cs):v.ownBlock≠some b:=fun e=>by
 obtain ⟨-,-,cur,hc,-⟩:=h.own b e;unfold Blk at hb;rw [hb] at hc;exact absurd (Obj.cells.inj (Option.some.inj hc)).2.1 (by decide)
theorem RowS.updN {m b:Nat} {w w':World} {v:Value} {l:List (List UInt8)} (h:RowS m w v l) (hu:Upd b w w') (hb:v.ownBlock≠some b):RowS m w' v l:=h.kept fun g hg=>hu.block g (h.own g hg).2.1 (fun e=>hb (by rw [hg,e]))
theorem RowS.made {m g n:Nat} {w:World} (hb:Blk w g 9 (List.replicate n (sT []))) (hm:m≤g) (hn:n≤1000000):RowS m w (.slice (some ⟨g,0,none⟩) 0 n) []:=by
 refine .inr ⟨g,n,(List.replicate n (sT [])).toArray,rfl,hm,hb,Nat.zero_le _,by unfold maxLen;omega,by simp,rfl,fun u hu=>?_⟩
 have:=(List.mem_replicate.1 (by simpa using hu)).2;rw [this]
 rfl
structure FrI (q m mb mq N:Nat) (tk:List (List UInt8)) (u:World) (k:Nat) (W:World):Prop where
 row:∃ v,Blk W (q+2) 62 [v]∧RowS m W v (freL tk k)
 num:Blk W q 3 [.int .i64 (N:Int)]
 fre:FrE mb mq tk W
 low:Below q u W
 size:q+3≤W.heap.size
theorem FrI.own {q m mb mq N B:Nat} {tk:List (List UInt8)} {u:World} (hB:mb<B∧mq<B∧0<B) (hq:q≤B):OwnFrom B (FrI q m mb mq N tk u):=fun k A W row h hg hr=>by
 obtain ⟨⟨v,h1,h2⟩,h3,h4,h5,h6⟩:=h;have key:∀ b,b<A.heap.size→b<B→W.heap[b]?=A.heap[b]?:=fun b hb hB=>hg.block b hb (fun e=>by have:=(hr b e.symm).1;omega)
 obtain ⟨l1,l2,l3⟩:=h4.lts;exact ⟨⟨v,own_blk_any (β:=Unit) _ _ _ _ () A W row h1 hg hr,RowS.own_from _ _ h2 hg hr⟩,own_blk_any (β:=Unit) _ _ _ _ () A W row h3 hg hr,h4.same (key _ l1 hB.1) (key _ l2 hB.2.1) (key _ l3 hB.2.2),h5.grown hg (by omega) (fun r e=>by have:=(hr r e).1;omega),Nat.le_trans h6 hg.size⟩
theorem RowS.mono' {m n:Nat} {w:World} {v:Value} {l:List (List UInt8)} (h:RowS m w v l) (hn:n≤m):RowS n w v l:=by
 rcases h with h|⟨k,cap,cur,rfl,hb,h⟩
 ·exact .inl h
 ·exact .inr ⟨k,cap,cur,rfl,Nat.le_trans hn hb,h⟩
set_option maxHeartbeats 8000000 in
theorem fresh_walk (N:Nat) (h1:1≤N) (h2:N≤1000) (tk:List (List UInt8)) (v:Value) (w:World) (h:TkAt w v tk) (hn:tk.length≤80000) (hs:∀ s∈tk,s.length≤1000000) (hT:TabW w):Calls Tryz.prog 22 #[.int .i64 (N:Int),v] w fun e w'=>∃ r,e=.returned r∧RowS w.heap.size w' r (freL tk N)∧Below w.heap.size w w':=by
 have HI:=hZ h;have HN:=hZ hn;have HS:=hZ hs;have HT:=hZ hT;obtain ⟨q,hq⟩:∃ q,Hid (w.heap.size=q):=⟨_,rfl⟩;clear h hs hT hn;rw [hq.out];refine calls_of_marks Tryz.func22 rfl ?_;simp only [Tryz.ntmps22,List.size_toArray,List.length_cons,List.length_nil,Nat.reduceAdd,Nat.reduceSub,Array.replicate_succ,Array.replicate_zero,List.push_toArray,List.append_toArray,List.nil_append,List.cons_append];go_upto_region 0 with (fail);refine lbeg (opsOf Tryz.f22 0) ?_;refine lin_box1 0 3 (.tmp 0) (.int .i64 (N:Int)) q (some 2) (by kernel_rfl) (by kernel_rfl) (by kernel_rfl) (by kernel_rfl) (by rfl) hq ?_;intro w1 b1 e1 s1;refine lnow 1 (.slice none 0 0) (some 4) ?_;refine ldq 2 ?_;go_upto_region 1 with (fail);refine lbeg (opsOf Tryz.f22 1) ?_;refine lcl 0 (.int .i64 (N:Int)) (some 7) 3 2 (q) 0 (b1.cell rfl) Tryz.underlying3 ?_;refine lnow 1 (.bool (decide ((N:Int)≤0))) (some 8) ?_;rw [decide_eq_false (by omega:¬ (N:Int)≤0)];refine lnow 2 (.bool false) (some 9) ?_;refine lcl 3 (.int .i64 (N:Int)) (some 10) 3 2 (q) 0 (b1.cell rfl) Tryz.underlying3 ?_;refine lnow 4 (.bool (decide ((N:Int)>1000))) (some 11) ?_;rw [decide_eq_false (by omega:¬ (N:Int)>1000)];refine lnow 5 (.bool false) (some 12) ?_;refine ldq 6 ?_;go_upto_region 3 with (fail);refine lbeg (opsOf Tryz.f22 3) ?_;refine lcl 0 (.int .i64 (N:Int)) (some 13) 3 2 (q) 0 (b1.cell rfl) Tryz.underlying3 ?_
 refine lin_makes 1 0 N (q+1) .i64 .i64 (some 14) (by kernel_rfl) (by kernel_rfl) (by kernel_rfl) (Nat.zero_le _) (by omega) s1 ?_;intro w2 b2 e2 s2;refine lin_alloc1 2 62 (.slice none 0 0) (q+1+1) (some 5) (by kernel_rfl) (by kernel_rfl) (by kernel_rfl) (by kernel_rfl) (by rfl) s2 ?_;intro w3 bw3 bew3 hsw3;refine lin_put1 3 62 (.tmp 5) (.tmp 14) (q+1+1) _ (.slice none 0 0) (.slice (some ⟨q+1,0,none⟩) 0 N) (by kernel_rfl) (by kernel_rfl) (by kernel_rfl) (by kernel_rfl) (by kernel_rfl) bw3 (by kernel_rfl) (by rfl) (by rfl) ?_;intro w4 bw4 uw4;refine ldq 4 ?_;have SZ3:=hsw3.out;have SZ2:=s2.out;have SZ1:=s1.out;have B1:Hid (Blk w4 q 3 [.int .i64 (N:Int)]):=uw4.blk ((b1.below e2 (by omega)).below bew3 (by omega)) (by omega);have B2:Hid (Blk w4 (q+1) 9 (List.replicate N (sT []))):=uw4.blk (b2.below bew3 (by omega)) (by omega);have B3:Hid (Blk w4 (q+2) 62 [.slice (some ⟨q+1,0,none⟩) 0 N]):=bw4;have S4:Hid (q+3≤w4.heap.size):=(by have:=uw4.size;rw [Hid];omega);have BE:Hid (Below q w w4):=uw4.below ((e1.trans (e2.mono (by omega))).trans (bew3.mono (by omega))) (by omega) (by omega);have HI4:=hZ (HI.out.below (by rw [hq.out];exact BE.out));have HT4:=hZ (HT.out.below (by rw [hq.out];exact BE.out));clear b1 e1 s1 b2 e2 s2 bw3 bew3 hsw3 bw4 uw4 SZ1 SZ2 SZ3 HI HT;go_upto_region 4 with (fail);refine lbeg (opsOf Tryz.f22 4) ?_;refine lnow 0 (v) (some 15) ?_
 refine lcal 1 43 #[v] (some 16) _ (free_walk tk v w4 HI4.out (by have:=HN.out;omega) HS.out) ?_;rintro e w5 ⟨mb,mq,rfl,hmb,hmq,hb5,hlb,hlq⟩;refine ⟨_,rfl,?_⟩;refine ldq 2 ?_;have S5:Hid (q+3≤w5.heap.size):=Nat.le_trans S4.out hb5.size;have FE:Hid (FrE mb mq tk w5):=⟨hmb,hmq,HT4.out.below hb5⟩;have LT:=FE.out.lts;have I0:Hid (FrI q (q+1) mb mq N tk w 0 w5):=⟨⟨_,B3.out.below hb5 B3.out.lt,(RowS.made B2.out (Nat.le_refl _) (by omega)).below hb5⟩,B1.out.below hb5 B1.out.lt,FE.out,BE.out.trans (hb5.mono (by have:=S4.out;omega)),S5.out⟩;have TL:=HN.out;clear hmb hmq hb5 hlb hlq B1 B2 B3 BE HI4 HT4 S4 HS;go_wp2
 refine range_endless 71 #[.pointer (some ⟨mb,0,none⟩)] (by kernel_rfl) (enters_of Tryz.func71 (by kernel_rfl) rfl) N (fun k=>sT (frN tk k)) (fun A B=>FrE mb mq tk A→FrE mb mq tk B) (fun h k x=>k (h x)) (fun W l o o' hl _ _ hf=>hf.put LT hl) (fun l J Jx W hW hJ hY h0=>free1_walk tk mb mq l N J Jx (by omega) h2 TL hJ hY W h0 (FE.out.below hW)) (FrI q (q+1) mb mq N tk w) (fun c k W=>c=.exit 0∧k=N∧FrI q (q+1) mb mq N tk w k W) (FrI.own LT (by have:=S5.out;omega)) (fun c k A B row h hg hr=>⟨h.1,h.2.1,FrI.own LT (by have:=S5.out;omega) k A B row h.2.2 hg hr⟩) I0.out (fun k=>{ tmps:=#[.int .i64 (N:Int),v,.pointer (some ⟨q,0,none⟩),undef,.slice none 0 0,.pointer (some ⟨q+1+1,0,none⟩),sT (frN tk k),.int .i64 (N:Int),.bool false,.bool false,.int .i64 (N:Int),.bool false,.bool false,.int .i64 (N:Int),.slice (some ⟨q+1,0,none⟩) 0 N,v,.func (.func 71) #[] #[.pointer (some ⟨mb,0,none⟩)],sT (frN tk k),undef,undef,undef,undef,undef,undef,undef,undef,undef],defers:=[] }) ?_ ?_ ?_
 ·intro l k W K hK
  refine rin_lin (opsOf Tryz.f22 5) (by kernel_rfl) (by kernel_rfl) (fun ⟨_,_,h⟩=>h) ?_;refine lnow 0 (sT (frN tk k)) (some 6) ?_;refine ldq 1 ?_;exact hK
 ·rintro l k W hk ⟨⟨v1,hv1,hv2⟩,hi2,hi3,hi4,hi5⟩
  obtain ⟨va,vc,hve⟩:=hv2.slice_of;rw [freL_len] at hve;subst hve;obtain ⟨nm,hnm⟩:∃ y,Hid (frN tk k=y):=⟨_,rfl⟩;have NX:Hid (freL tk (k+1)=freL tk k++[nm]):=(by rw [Hid,freL_succ,hnm.out]);rw [hnm.out];have V1:=hZ hv1;have V2:=hZ hv2;have V3:=hZ hi2;have V4:=hZ hi3;have V5:=hZ hi4;have V6:=hZ hi5;clear hv1 hv2 hi2 hi3 hi4 hi5;refine wpIn_block ?_;refine wpIn_seq ?_;obtain ⟨q9,hq9⟩:∃ z,Hid (W.heap.size=z):=⟨_,rfl⟩;refine rin_lin (opsOf Tryz.f22 6) (by kernel_rfl) (by kernel_rfl) (fun ⟨_,_,h⟩=>h) ?_;refine lcl 0 (.slice va k vc) (some 18) 62 5 (q+1+1) 0 (V1.out.cell rfl) Tryz.underlying62 ?_;refine lnow 1 (sT nm) (some 19) ?_;refine lin_row 2 9 [sT nm] q9 1 (some 20) (by kernel_rfl) (by kernel_rfl) hq9 (exec_of (Instr.buildSlice 62 1 #[(0,sT nm)]) _ (by kernel_rfl) (run_build_str1 _ _)) ?_;intro w8 bw8 bew8 hsw8;rw [← hq9.out] at bew8;have RS8:=V2.out.below bew8;obtain ⟨v',w9,hrun,RS9,hg9⟩:=RS8.append (s:=nm) bw8 (by rw [freL_len];omega) (by have:=V6.out;have:=bew8.size;omega);refine lin_value 3 v' (some 21) w9 (by kernel_rfl) (by kernel_rfl) (exec_of _ _ (by kernel_rfl) hrun) ?_;obtain ⟨wa,wc,hwe⟩:=RS9.slice_of;rw [List.length_append,freL_len,List.length_singleton] at hwe;subst hwe;have B8:=V1.out.below bew8 V1.out.lt;have G1:Blk w9 (q+2) 62 [.slice va k vc]:=grown_blk hg9 B8 (RS8.ne_blk B8);have N8:=V3.out.below bew8 V3.out.lt
  have G2:Blk w9 q 3 [.int .i64 (N:Int)]:=grown_blk hg9 N8 (RS8.ne_int N8);have F9:=(V4.out.below bew8).grown RS8 hg9;have L9:Below q w w9:=(V5.out.trans (bew8.mono (by have:=V6.out;omega))).trans (grown_below hg9 (by have:=V6.out;have:=bew8.size;omega) (fun g e=>by have:=(RS8.own g e).1;omega))
  refine lin_put1 4 62 (.tmp 5) (.tmp 21) (q+1+1) _ (.slice va k vc) (.slice wa (k+1) wc) (by kernel_rfl) (by kernel_rfl) (by kernel_rfl) (by kernel_rfl) (by kernel_rfl) G1 (by kernel_rfl) (by rfl) (by rfl) ?_;intro w10 bw10 uw10;refine ldq 5 ?_;have T1:Hid (Blk w10 (q+2) 62 [.slice wa (k+1) wc]):=bw10;have T2:Hid (Blk w10 q 3 [.int .i64 (N:Int)]):=uw10.blk G2 (by omega);have TI:Hid (FrI q (q+1) mb mq N tk w (k+1) w10):=⟨⟨_,bw10,by rw [NX.out];exact RS9.updN uw10 (RS9.ne_blk G1)⟩,T2.out,F9.upd G1 uw10,uw10.below L9 (by omega) (by have:=L9.size;have:=hq.out;omega),by have:=uw10.size;have:=hg9.size;have:=bew8.size;have:=V6.out;omega⟩;have KF:Hid (KeepsFrom w5.heap.size W w10):=((keepsFrom_below bew8).trans (RS8.from _ hg9)).trans ((Keeps.upd (Keeps.refl [q+2] w9) uw10 (.inl (by simp))).from (fun g hg=>by have:=S5.out;simp at hg;omega))
  clear bw8 bew8 hsw8 RS8 hrun RS9 hg9 B8 G1 N8 G2 F9 L9 bw10 uw10 V1 V2 V3 V5 V6 hq9;refine then_normal ?_;refine wpIn_seq ?_;refine rin_lin (opsOf Tryz.f22 7) (by kernel_rfl) (by kernel_rfl) (fun ⟨_,_,h⟩=>h) ?_;refine lcl 0 (.slice wa (k+1) wc) (some 22) 62 5 (q+1+1) 0 (T1.out.cell rfl) Tryz.underlying62 ?_;refine lnow 1 (.int .i64 ((k+1:Nat):Int)) (some 23) ?_;refine lcl 2 (.int .i64 (N:Int)) (some 24) 3 2 (q) 0 (T2.out.cell rfl) Tryz.underlying3 ?_;refine lnow 3 (.bool (decide (((k+1:Nat):Int)=(N:Int)))) (some 25) ?_;by_cases hl:k+1=N
  ·rw [decide_eq_true (by omega:((k+1:Nat):Int)=(N:Int))]
   refine ldq 4 ?_;refine then_normal ?_;refine wpIn_cond_true (by kernel_rfl) ?_;refine wpIn_exit ?_;exact ⟨KF.out,rfl,hl,TI.out⟩
  rw [decide_eq_false (by omega:¬ ((k+1:Nat):Int)=(N:Int))];refine ldq 4 ?_;refine then_normal ?_;refine wpIn_cond_false (by kernel_rfl) ?_;refine wpIn_skip ?_;exact ⟨KF.out,fun _=>TI.out.fre,by omega,TI.out⟩
 ·rintro D c k W hk ⟨rfl,rfl,⟨v1,hv1,hv2⟩,hi2,hi3,hi4,hi5⟩ hD hK
  obtain ⟨va,vc,hve⟩:=hv2.slice_of;rw [freL_len] at hve;subst hve;have V1:=hZ hv1;have V2:=hZ hv2;have V5:=hZ hi4;have KK:=hZ hK;have DD:Hid (q≤D):=(by have:=S5.out;rw [Hid];omega);clear hv1 hv2 hi2 hi3 hi4 hi5 hD hK;dsimp only [Act.marked];go_upto_region 8 with (fail);refine lbeg (opsOf Tryz.f22 8) ?_;refine lcl 0 (.slice va k vc) (some 26) 62 5 (q+1+1) 0 (V1.out.cell rfl) Tryz.underlying62 ?_;refine lnow 1 (.slice va k vc) (some 4) ?_;refine ldq 2 ?_;go_wp2;refine ret_marks rfl KK.out (by rw [results_tmp Tryz.results22];rfl) ⟨_,rfl,(V2.out.mono' (by omega)).kept (fun g hg=>World.putObj_heap_other (fun e=>by obtain ⟨-,-,cur,hc,-⟩:=V2.out.own g hg;rw [e,KK.out] at hc;cases hc)),below_put V5.out DD.out (Array.getElem?_eq_some_iff.1 KK.out).1⟩
end Go.Proofs.YtmceocgddaaohaaGreatDoor
