import Derived.Test.YtmceocgddaaohaaGreatDoorQPrsJ
import Derived.Deep.CutBlock
import Derived.Test.YtmceocgddaaohaaGreatDoorQGenT
import Derived.Recover
namespace Go.Proofs.YtmceocgddaaohaaGreatDoor
open Go Go.RowKit
set_option maxRecDepth 100000
section
variable {K:Nat→Nat} {k ps fx p:Nat} {s:List UInt8} {tc vc:List Value} {cv:Value}
end
section
variable {K:Nat→Nat} {m q:Nat} {w w':World} {v:Value} {xs:List Dl}
end
end Go.Proofs.YtmceocgddaaohaaGreatDoor
namespace Go.Proofs.YtmceocgddaaohaaGreatDoor
open Go Go.RowKit
set_option maxRecDepth 100000
set_option maxHeartbeats 4000000 in
theorem fT_walk (K:Nat→Nat) (q:Nat) (w:World) (l:List (List UInt8)) (h:PAt K q w l):Calls Tryz.prog 28 #[.pointer (some ⟨q,0,none⟩)] w (PP K q (topP l) (RRw K) w):=by
 obtain ⟨oo,hoo⟩:∃ oo,Hid (topP l=oo):=⟨_,rfl⟩;rw [hoo.out];have EQ:=hoo;clear hoo;unfold topP at EQ;obtain ⟨B,hB⟩:∃ B,Hid (w.heap.size=B):=⟨_,rfl⟩;have RD:=hZ h;have QB:Hid (q<B):=(by rw [← hB.out];exact h.lt);have BB:Hid (Bel [q] B w w):=Bel.refl _ _ _;have SZ:Hid (B≤w.heap.size):=(by rw [Hid,hB.out];exact Nat.le_refl _);clear h
 go_enter Tryz.func28,Tryz.ntmps28
 go_upto_region 0 with (fail);refine lbeg (opsOf Tryz.f28 0) ?_;refine lin_alloc 0 33 (z6R) (B) (some 2) (by kernel_rfl) (by kernel_rfl) (by kernel_rfl) zeroRw hB ?_;intro w1 bx ex sx;replace RD:=hZ (RD.out.below ex QB.out);replace BB:Hid (Bel [q] B w w1):=Bel.of ex;replace SZ:Hid (B≤w1.heap.size):=Nat.le_of_lt bx.lt;have BR:=hZ bx;clear bx ex sx;refine ldq 1 ?_;go_upto_region 1 with (fail);refine lbeg (opsOf Tryz.f28 1) ?_;refine lnow 0 (.pointer (some ⟨q,0,none⟩)) (some 4) ?_;refine lin_callPP 1 29 #[.pointer (some ⟨q,0,none⟩)] (some 5) (by kernel_rfl) (by kernel_rfl) (by kernel_rfl) (whole_walk K q w1 l RD.out) EQ (fun p c w' hb ho=>⟨rfl,PP.no (by rw [hB.out];exact BB.out.trans (hb.mono SZ.out)) ho⟩) ?_;intro x l2 vv w2 hx EQ1 hb hv hp;replace EQ:=EQ1;clear EQ1;obtain ⟨ca,rfl,hct⟩:=hv;have TA:=hZ (hct.range (BR.out.lt:B+1≤_));clear hct hx;replace BR:=hZ (bel_keep hb BR.out (by have:=QB.out;omega) BR.out.lt);replace BB:=hZ (BB.out.trans (hb.mono SZ.out));replace SZ:=hZ (Nat.le_trans SZ.out hb.size);replace RD:=hZ hp;clear hb hp;obtain ⟨z,hz⟩:∃ z,Hid (w2.heap.size=z):=⟨_,rfl⟩;have oz:Hid (B≤z):=(by rw [Hid,← hz.out];exact SZ.out);have ozBR:Hid (B<z):=(by rw [Hid,← hz.out];exact BR.out.lt);refine lin_alloc 2 33 (z6R) (z) (some 3) (by kernel_rfl) (by kernel_rfl) (by kernel_rfl) zeroRw hz ?_;intro w3 ba ea sa
 refine lput 3 33 (.tmp 3) (.tmp 5) (z) _ (z6R) (ca) ba (TA.out.len.trans z6_len.symm) (rwSize TA.out.len) (by simpa using TA.out.one) ?_;intro w4 bb ub;have eb:Below z w2 w4:=ub.below ea (Nat.le_refl _) (by have:=ba.lt;omega);have BX:=hZ bb;rw [← hz.out] at eb;replace BR:=hZ (BR.out.below eb BR.out.lt);replace TA:=hZ (RwAt.low TA.out eb);replace RD:=hZ (RD.out.below eb RD.out.lt);replace BB:=hZ (BB.out.trans (Bel.of (eb.mono SZ.out)));replace SZ:=hZ (Nat.le_trans SZ.out eb.size);clear ba ea sa bb ub eb hz;refine ldq 4 ?_;go_upto_region 2 with (fail);refine lbeg (opsOf Tryz.f28 2) ?_;refine lnow 0 (.pointer (some ⟨q,0,none⟩)) (some 6) ?_;refine lnow 1 (.pointer (some ⟨q,0,none⟩)) (some 7) ?_;refine lcal 2 31 #[.pointer (some ⟨q,0,none⟩)] (some 8) _ (ended_walk K q w4 l2 RD.out) ?_;rintro e w' ⟨rfl,hw'⟩;obtain rfl:=hw'.symm;refine ⟨_,rfl,?_⟩;by_cases c:l2=[]
 rotate_left
 ·skip
  rw [decide_eq_false c];rw [if_neg c] at EQ;refine lin_callP 3 30 #[.pointer (some ⟨q,0,none⟩),.bool false] (some 9) _ (by kernel_rfl) (by kernel_rfl) (by kernel_rfl) (need_noP K q w4 l2 RD.out) ?_;rintro e w' ⟨rfl,hw'⟩;obtain rfl:=hw'.symm;exact .inr ⟨_,rfl,rfl,PP.no (by rw [hB.out];exact BB.out) EQ.out⟩
 rw [decide_eq_true c];rw [if_pos c] at EQ;clear c;refine lcal 3 30 #[.pointer (some ⟨q,0,none⟩),.bool true] (some 9) _ (need_yesP q w4) ?_;rintro e w' ⟨rfl,hw'⟩;obtain rfl:=hw'.symm;refine ⟨_,rfl,?_⟩;refine ldq 4 ?_;go_upto_region 3 with (fail);refine lbeg (opsOf Tryz.f28 3) ?_;refine lrl 0 (ca) (some 10) 33 3 z 0 BX.out.whole Tryz.underlying33 (rwSize TA.out.len) ?_;refine lput 1 33 (.tmp 2) (.tmp 10) (B) _ z6R (ca) BR.out (TA.out.len.trans z6_len.symm) (rwSize TA.out.len) (by simpa using TA.out.one) ?_;intro w99 b99 u99;refine ldq 2 ?_;have C6:=hZ TA.out.len;have FIN:Hid (PP K q oo (RRw K) w (.returned (.agg (ca).toArray)) w99):=PP.yes (by rw [hB.out];exact BB.out.newBlk u99 (Nat.le_refl _) SZ.out) EQ.out ⟨ca,rfl,by rw [hB.out];exact TA.out.fin u99⟩ (RD.out.upd u99 QB.out);have HB:=hZ b99;clear b99 u99 TA;go_wp2;refine bodyPost_ret (v:=.agg (ca).toArray) ?_ rfl FIN.out;exact results_cell_row (g:=B) (t:=33) (cs:=(ca).toArray) (fr:=(0,0)) Tryz.results28 _ _ _ rfl HB.out Tryz.underlying33 rfl (rwSize C6.out)
end Go.Proofs.YtmceocgddaaohaaGreatDoor
namespace Go.Proofs.YtmceocgddaaohaaGreatDoor
open Go Go.RowKit
set_option maxRecDepth 100000
def lookT (ts:List Tk) (N p:Nat):Nat:=if p=0 then N else ((ts[ts.length-p]?).map (·.p)).getD 0
def lookK (s:List UInt8):Nat→Nat:=lookT (scanR s).1 s.length
def readA {β:Type} (f:List (List UInt8)→PR β) (s:List UInt8):Except (Nat × Nat) β:=
 if (scanR s).2.2=0 then (match f (textsOf (scanR s).1) with
  |.ok x _=>.ok x
  |.err p c=>.error (lookK s p,c))
 else .error ((scanR s).2.1,(scanR s).2.2)
def RdPost {β:Type} (f:List (List UInt8)→PR β) (z:Value) (R:β→Value→World→World→Prop) (s:List UInt8) (w:World) (e:Ending) (w':World):Prop:=
 Below w.heap.size w w'∧match readA f s with
 |.ok x=>∃ v,e=.returned (.tuple #[v,.int .i64 0,.int .i64 0])∧R x v w w'
 |.error (p,c)=>e=.returned (.tuple #[z,.int .i64 (p:Int),.int .i64 (c:Int)])
section
variable {β:Type} {f:List (List UInt8)→PR β} {z:Value} {R:β→Value→World→World→Prop} {s:List UInt8} {w w':World} {ts:List Tk}
theorem RdPost.scan {p c:Nat} (hb:Below w.heap.size w w') (hs:scanR s=(ts,p,c)) (hc:¬ c=0):RdPost f z R s w (.returned (.tuple #[z,.int .i64 (p:Int),.int .i64 (c:Int)])) w':=by
 refine ⟨hb,?_⟩;rw [readA,hs,if_neg hc]
theorem RdPost.no {p c:Nat} (hb:Below w.heap.size w w') (hs:scanR s=(ts,0,0)) (hf:f (textsOf ts)=.err p c):RdPost f z R s w (.returned (.tuple #[z,.int .i64 (lookK s p:Int),.int .i64 (c:Int)])) w':=by
 refine ⟨hb,?_⟩;rw [readA,hs,if_pos rfl,hf]
theorem RdPost.yes {x:β} {l:List (List UInt8)} {v:Value} (hb:Below w.heap.size w w') (hs:scanR s=(ts,0,0)) (hf:f (textsOf ts)=.ok x l) (hR:R x v w w'):RdPost f z R s w (.returned (.tuple #[v,.int .i64 0,.int .i64 0])) w':=by
 refine ⟨hb,?_⟩;rw [readA,hs,if_pos rfl,hf];exact ⟨v,rfl,hR⟩
end
theorem scanR_inv {s:List UInt8} {ts:List Tk} {p:Nat} (h:scanR s=(ts,p,0)):p=0∧s.length≤65536∧scanS s 0=.ok ts:=by
 unfold scanR at h;by_cases hl:65536<s.length
 ·rw [if_pos hl] at h
  simp at h
 ·rw [if_neg hl] at h
  cases hs:scanS s 0 with
  |ok us=>
   rw [hs] at h;simp only [Prod.mk.injEq] at h;exact ⟨h.2.1.symm,by omega,by rw [h.1]⟩
  |error e=>
   rw [hs] at h
   simp at h
theorem sum_mem:∀ {ts:List Tk} {x:Tk},x∈ts→x.t.length≤(ts.map (·.t.length)).sum
 |y::ts,x,h=>by
  rw [List.map_cons,List.sum_cons];rcases List.mem_cons.1 h with rfl|h
  ·omega
  ·have:=sum_mem h
   omega
theorem PAt.start {s:List UInt8} {ts:List Tk} {w w':World} {v:Value} {q m:Nat} (hs:scanR s=(ts,0,0)) (ho:OwnX 116 m w v (ts++[⟨0,[],s.length⟩])) (hq:w.heap.size=q) (hb:Blk w' q 118 [v]) (hw:Below q w w'):PAt (lookK s) q w' (textsOf ts):=by
 obtain ⟨-,hl,hsc⟩:=scanR_inv hs;obtain ⟨h1,h2,h3,-⟩:=scan_toks _ s 0 ts (Nat.le_refl _) hsc;subst hq;obtain ⟨a,c,e1,e2,e3⟩:=ho.read;have hk:lookK s=lookT ts s.length:=(by rw [lookK,hs]);have htk:TkLt w.heap.size w v (ts++[⟨0,[],s.length⟩]):=⟨a,c,e1,e2,fun hp=>by
  obtain ⟨g,u,g1,g2,g3⟩:=e3 hp;exact ⟨g,u,g1,g2,g2,g3⟩⟩
 refine ⟨v,ts,hb,?_,rfl,fun i x hi=>?_,fun t ht=>?_,by unfold textsOf;rw [List.length_map];omega⟩
 ·have:=htk.keep (w':=w') (fun k hk1 _=>hw.block k hk1) hw.size
  rw [hk,show lookT ts s.length 0=s.length from if_pos rfl];exact this
 ·have hil:=(List.getElem?_eq_some_iff.1 hi).1
  rw [hk,lookT,if_neg (by omega),show ts.length-(ts.length-i)=i by omega,hi]
  rfl
 ·obtain ⟨x,hx,rfl⟩:=List.mem_map.1 ht
  have h4:=tokAt_pos (h1 x hx);have h5:=sum_mem hx;exact ⟨fun e=>by rw [e] at h4;simp at h4,by omega⟩
theorem infoErr:(Tryz.prog.info? 34).map (·.zero)=some (some (.int .i64 0)):=by kernel_rfl
theorem infoIntZ:(Tryz.prog.info? 3).map (·.zero)=some (some (.int .i64 0)):=by kernel_rfl
set_option maxHeartbeats 8000000 in
theorem read_catchR (q1 q2:Nat) (hq:q1≠q2) (v1 v2:Value) (pl c:Int) (older:List PanicEntry) (w:World) (h1:Blk w q1 3 [v1]) (h2:Blk w q2 34 [v2]):CallsD Tryz.prog 54 #[.pointer (some ⟨q1,0,none⟩),.pointer (some ⟨q2,0,none⟩)] (.panicking ({ v:=.iface 113 (.agg #[.int .i64 pl,.int .i64 c]),recovered:=false }::older)) w fun e u' w'=>e=.returned (.tuple #[])∧u'=.panicking ({ v:=.iface 113 (.agg #[.int .i64 pl,.int .i64 c]),recovered:=true }::older)∧Blk w' q1 3 [.int .i64 pl]∧Blk w' q2 34 [.int .i64 c]∧Bel [q1,q2] w.heap.size w w':=by
 refine callsD_of_wpS Tryz.func54 rfl fun c₀ cs hu=>?_
 apply wpS_seq
 apply wpS_region
 simp [wpOpsS,go_sem,recoverD,hu,Tryz.ntmps54,Exit.thenS]
 refine wpS_of_wp ?_;simp only [Array.replicate_succ,Array.replicate_zero,List.push_toArray,List.append_toArray,List.nil_append,List.cons_append,List.setIfInBounds_toArray,List.set_cons_succ,List.set_cons_zero];go_upto_region 1 with (fail);refine lbeg (opsOf Tryz.f54 1) ?_;refine lnow 0 (.iface 113 (.agg #[.int .i64 pl,.int .i64 c])) (some 6) ?_;refine lnow 1 (.bool false) (some 7) ?_;refine ldq 2 ?_;go_upto_region 2 with (fail);refine lbeg (opsOf Tryz.f54 2) ?_;refine lnow 0 (.iface 113 (.agg #[.int .i64 pl,.int .i64 c])) (some 9) ?_;refine lnow 1 (.tuple #[.agg ([.int .i64 pl,.int .i64 c]:List Value).toArray,.bool true]) (some 10) ?_;refine lnow 2 (.tuple #[.agg ([.int .i64 pl,.int .i64 c]:List Value).toArray,.bool true]) (some 8) ?_;refine lnow 3 (.agg ([.int .i64 pl,.int .i64 c]:List Value).toArray) (some 11) ?_;refine lnow 4 (.bool true) (some 12) ?_;obtain ⟨z,hz⟩:∃ z,Hid (w.heap.size=z):=⟨_,rfl⟩;refine lall 5 113 [.int .i64 0,.int .i64 0] z (some 3) hz ?_;intro w1 b1 e1 s1;refine lput 6 113 (.tmp 3) (.tmp 11) z _ [.int .i64 0,.int .i64 0] [.int .i64 pl,.int .i64 c] b1 rfl (by kernel_rfl) (by exact ints_oneCell .i64 [pl,c]) ?_;intro w2 b2 u2;refine lnow 7 (.bool true) (some 4) ?_;refine ldq 8 ?_;have E2:Below z w w2:=u2.below e1 (Nat.le_refl _) (by have:=b1.lt;omega);have z1:q1<z:=(by rw [← hz.out];exact h1.lt);have z2:q2<z:=(by rw [← hz.out];exact h2.lt);have H1:=hZ (h1.below E2 z1);have H2:=hZ (h2.below E2 z2)
 have BZ:=hZ b2;have BB:Hid (Bel [q1,q2] z w w2):=Bel.of E2;have Z12:Hid (q1<z∧q2<z):=⟨z1,z2⟩;clear b1 e1 s1 b2 u2 E2 h1 h2 z1 z2;go_upto_region 3 with (fail);refine lbeg (opsOf Tryz.f54 3) ?_;refine lnow 0 (.bool true) (some 13) ?_;refine lnow 1 (.bool false) (some 14) ?_;refine ldq 2 ?_;go_upto_region 5 with (fail);refine region_beginP (opsOf Tryz.f54 5) (fun w'=>w'.cell? ⟨z,0,none⟩=some (.int .i64 pl)∧w'.cell? ⟨z,1,none⟩=some (.int .i64 c)) (by kernel_rfl) (by kernel_rfl) 6 (by kernel_rfl) ?_;intro Q' hQN hN hP;have HD:Below w2.heap.size w2 (World.drew w2):=(Below.refl _ _).drew;replace BB:=hZ (BB.out.trans (Bel.of (HD.mono (Nat.le_of_lt BZ.out.lt))));replace H1:=hZ (H1.out.below HD H1.out.lt);replace H2:=hZ (H2.out.below HD H2.out.lt);replace BZ:=hZ (BZ.out.below HD BZ.out.lt);clear HD;generalize World.drew w2=wd at H1 H2 BZ BB ⊢;have HS:Hid (wd.cell? ⟨z,0,none⟩=some (.int .i64 pl)∧wd.cell? ⟨z,1,none⟩=some (.int .i64 c)):=⟨BZ.out.cell rfl,BZ.out.cell rfl⟩;refine reg_now 0 (.pointer (some ⟨z,0,none⟩)) (some 16) hQN HS.out (by kernel_rfl) (by kernel_rfl) (fun w=>by kernel_rfl) ?_;refine reg_now 2 (.pointer (some ⟨z,1,none⟩)) (some 18) hQN HS.out (by kernel_rfl) (by kernel_rfl) (fun w=>by kernel_rfl) ?_;refine reg_nowIf 1 (.int .i64 pl) (some 17) hQN HS.out (by kernel_rfl) (by kernel_rfl) (fun w' hw=>exec_load_cell 3 (.tmp 16) (by kernel_rfl) z 0 (by kernel_rfl) _ hw.1 _ Tryz.underlying3 rfl) ?_
 refine reg_nowIf 3 (.int .i64 c) (some 19) hQN HS.out (by kernel_rfl) (by kernel_rfl) (fun w' hw=>exec_load_cell 34 (.tmp 18) (by kernel_rfl) z 1 (by kernel_rfl) _ hw.2 _ Tryz.underlying34 rfl) ?_;have z12:=Z12.out;have SZ:Hid (z≤wd.heap.size):=Nat.le_of_lt BZ.out.lt;refine reg_put1 4 3 (.tmp 0) (.tmp 17) q1 _ v1 (.int .i64 pl) (by kernel_rfl) (by kernel_rfl) (by kernel_rfl) (by kernel_rfl) (by kernel_rfl) H1.out (by kernel_rfl) (by rfl) (by rfl) ?_;intro w3 b3 u3;refine ⟨⟨(u3.blk BZ.out (by omega)).cell rfl,(u3.blk BZ.out (by omega)).cell rfl⟩,?_⟩;replace H2:=hZ (u3.blk H2.out (by omega));replace BZ:=hZ (u3.blk BZ.out (by omega));replace BB:Hid (Bel [q1,q2] z w w3):=BB.out.upd u3 (.inl (by simp)) SZ.out;replace H1:=hZ b3;replace SZ:Hid (z≤w3.heap.size):=Nat.le_trans SZ.out u3.size;clear b3 u3;refine reg_put1 5 34 (.tmp 1) (.tmp 19) q2 _ v2 (.int .i64 c) (by kernel_rfl) (by kernel_rfl) (by kernel_rfl) (by kernel_rfl) (by kernel_rfl) H2.out (by kernel_rfl) (by rfl) (by rfl) ?_;intro w4 b4 u4;refine ⟨⟨(u4.blk BZ.out (by omega)).cell rfl,(u4.blk BZ.out (by omega)).cell rfl⟩,?_⟩;replace BB:Hid (Bel [q1,q2] z w w4):=BB.out.upd u4 (.inl (by simp)) SZ.out;replace H1:=hZ (u4.blk H1.out (by omega));have BZ4:=u4.blk BZ.out (by omega);replace H2:=hZ b4;clear b4 u4 HS;refine reg_done (by kernel_rfl) (hN _ _ (lq ?_));clear hQN hN hP BZ4 BZ;go_wp2
 simp [bodyPostS,results,Tryz.results54]
 exact ⟨H1.out,H2.out,by rw [hz.out];exact BB.out⟩
set_option maxHeartbeats 4000000 in
theorem read_idleR (q1 q2:Nat) (w:World):CallsD Tryz.prog 54 #[.pointer (some ⟨q1,0,none⟩),.pointer (some ⟨q2,0,none⟩)] .returning w fun e u' w'=>e=.returned (.tuple #[])∧u'=.returning∧w'=w:=by
 refine callsD_of_wpS Tryz.func54 rfl fun c₀ cs hu=>?_
 apply wpS_seq
 apply wpS_region
 simp [wpOpsS,go_sem,recoverD,hu,Tryz.ntmps54,Exit.thenS]
 refine wpS_of_wp ?_;simp only [Array.replicate_succ,Array.replicate_zero,List.push_toArray,List.append_toArray,List.nil_append,List.cons_append,List.setIfInBounds_toArray,List.set_cons_succ,List.set_cons_zero];go_upto_region 1 with (fail);refine lbeg (opsOf Tryz.f54 1) ?_;refine lnow 0 (.nilIface) (some 6) ?_;refine lnow 1 (.bool true) (some 7) ?_;refine ldq 2 ?_;go_wp2;cases c₀
 simp_all [bodyPostS,results,Tryz.results54]
end Go.Proofs.YtmceocgddaaohaaGreatDoor
