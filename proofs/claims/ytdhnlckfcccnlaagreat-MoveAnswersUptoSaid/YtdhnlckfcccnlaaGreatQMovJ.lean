import Derived.Test.YtdhnlckfcccnlaaGreatQGenT
import Derived.Test.YtdhnlckfcccnlaaGreatQMovF
import Derived.Test.YtdhnlckfcccnlaaGreatQMovH
import Derived.Test.YtdhnlckfcccnlaaGreatQTrmP
import Derived.Test.YtdhnlckfcccnlaaGreatQTrmZ
namespace Go.Proofs.YtdhnlckfcccnlaaGreat
open Go Go.RowKit
set_option maxRecDepth 100000
section
variable {ops:Array Oper} {Q:Exit→Act→World→Prop} {a:Act} {w:World} {K:Act→World→Prop}
theorem op_allocT (i b : Nat) (d : Option Tmp) (hi : (ops[i]?.isSome && Region.wanted (opAt ops i) (yielded ops a.tmps)) = true) (hd : (opAt ops i).dst = d) (ho : (opAt ops i).op = .alloc 25) (hb : Hid (w.heap.size = b))
    (h:∀ w',Blk w' b 25 z5T→Below w.heap.size w w'→K (a.put d (.pointer (some ⟨b,0,none⟩))) w'):wpOp Tryz.prog ops Q i K a w:=by
 obtain rfl:=hb.out;exact op_value i _ d _ hi hd (exec_alloc 25 ho (.agg z5T.toArray) (by kernel_rfl)) (h _ (Blk.new w 25 z5T) ((Below.refl _ _).alloc (Nat.le_refl _) _))
theorem op_row (i b n : Nat) (t : TypeId) (cs : List Value) (d : Option Tmp) (hi : (ops[i]?.isSome && Region.wanted (opAt ops i) (yielded ops a.tmps)) = true) (hd : (opAt ops i).dst = d) (hb : Hid (w.heap.size = b))
    (hrun:(execOp a.eval (opAt ops i)).run Tryz.prog w=.ok (.value (.slice (some ⟨w.heap.size,0,none⟩) n n)) (w.alloc (.cells cs.toArray t)))
    (h:∀ w',Blk w' b t cs→Below w.heap.size w w'→K (a.put d (.slice (some ⟨b,0,none⟩) n n)) w'):wpOp Tryz.prog ops Q i K a w:=by
 obtain rfl:=hb.out;exact op_value i _ d _ hi hd hrun (h _ (Blk.new w t cs) ((Below.refl _ _).alloc (Nat.le_refl _) _))
end
theorem nms_high {w:World} {na:Option Addr} {M nc i:Nat} {ns:List (List UInt8)} (h:NmsAt w (.slice na M nc) ns) (hM:ns.length=M) (hi:i≤M) (hc:M≤nc) (w':World):∃ a',(Instr.sliceAt 26 (.slice na M nc) none (some (.int .i64 (i:Int))) none).run Tryz.prog w'=.ok (.slice a' i nc) w'∧NmsAt w (.slice a' i nc) (ns.take i):=by
 have hz:(sizeOf (Tryz.prog.elem 26)).run Tryz.prog w'=.ok 1 w':=(by kernel_rfl);rw [run_sliceAt_slice w' 26 _ _ _ _ elemStrs,run_slice_h w' 26 _ _ nc elemStrs .i64 (i:Int) (by omega) (by omega),hz];simp only [Result.andThen_ok,sliced,Int.toNat_natCast,Nat.sub_zero,Nat.zero_mul];refine ⟨_,rfl,?_⟩;have hl:(ns.take i).length=i:=(by rw [List.length_take];omega);refine ⟨_,nc,by rw [hl],fun hp=>?_⟩
 obtain ⟨x,b,o,-,rfl,hb,-⟩:=h.get hM (i:=0) (by omega);simp only [Option.map_some,Addr.add_mid,Nat.add_zero,ite_self];refine ⟨b,o,rfl,hb,fun j u hu=>?_⟩
 rw [List.getElem?_map] at hu;cases hs:(ns.take i)[j]? with
 |none=>rw [hs] at hu;cases hu
 |some s=>
  rw [hs] at hu;cases hu
  have hj:=(List.getElem?_eq_some_iff.1 hs).1;rw [List.getElem?_take,if_pos (by omega)] at hs;obtain ⟨x,b2,o2,hx,e,-,hc⟩:=h.get hM (i:=j) (by omega);cases e
  rw [hs] at hx;cases hx
  exact hc
set_option maxHeartbeats 4000000 in
theorem contains_walk (l:List (List UInt8)) (s:List UInt8) (v:Value) (w:World) (h:NmsAt w v l) (hl:l.length≤2000000000000):Calls Tryz.prog 80 #[v,strT s] w fun e w'=>e=.returned (.bool (decide (idxFrom s 0 l≥0)))∧w'=w:=by
 have IW:=index_walk l s v w h hl;obtain ⟨z,hz⟩:∃ z,Hid (idxFrom s 0 l=z):=⟨_,rfl⟩;rw [hz.out] at IW ⊢
 go_enter Tryz.func80,Tryz.ntmps80
 go_upto_region 0 with (fail);refine lbeg (opsOf Tryz.f80 0) ?_;refine lnow 0 (.bool false) (some 4) ?_;refine ldq 1 ?_;go_upto_region 1 with (fail);refine lbeg (opsOf Tryz.f80 1) ?_;refine lnow 0 (v) (some 5) ?_;refine lnow 1 (strT s) (some 6) ?_;refine lcal 2 62 #[v,strT s] (some 7) _ (IW) ?_;rintro e w' ⟨rfl,hw'⟩;obtain rfl:=hw'.symm;refine ⟨_,rfl,?_⟩;refine lnow 3 (.bool (decide (z≥0))) (some 8) ?_;refine lnow 4 (.bool (decide (z≥0))) (some 4) ?_;refine ldq 5 ?_;go_wp2;go_ret;exact ⟨rfl,rfl⟩
def NamesOk (ns:List (List UInt8)):Prop:=∀ (i:Nat) (s:List UInt8),ns[i]?=some s→wordB s=true∧s.length≤140737488351232∧idxFrom s 0 (ns.take i)=-1
theorem con_cells (F:List Nat) (w:World):∀ (l:List (List UInt8)),TmCells F w (l.map conT) (l.map conC)
 |[]=>trivial
 |s::l=>⟨con_at F w s,con_cells F w l⟩
theorem con_len (s:List UInt8):(conC s).length=5:=rfl
set_option maxHeartbeats 8000000 in
theorem consts_walk9 (ns:List (List UInt8)) (M:Nat) (na:Option Addr) (nc:Nat) (w:World) (hM:ns.length=M) (hMb:M≤1000000000) (hcap:M≤nc) (hm:NmsAt w (.slice na M nc) ns) (hok:NamesOk ns):Calls Tryz.prog 52 #[.slice na M nc] w fun e w'=>∃ v,e=.returned v∧TmsAt (List.range w.heap.size) w' (ns.map conT) v∧Below w.heap.size w w':=by
 have HN:=hZ hm;have OK:=hZ hok;obtain ⟨q,hq⟩:∃ q,Hid (w.heap.size=q):=⟨_,rfl⟩;rw [hq.out];clear hm hok
 go_enter Tryz.func52,Tryz.ntmps52
 go_upto_region 0 with (fail);refine lbeg (opsOf Tryz.f52 0) ?_;refine lnow 0 (.slice none 0 0) (some 2) ?_;refine ldq 1 ?_;go_upto_region 1 with (fail);refine lbeg (opsOf Tryz.f52 1) ?_;refine lnow 0 (.slice na M nc) (some 6) ?_;refine lnow 1 (.int .i64 (M:Int)) (some 7) ?_;refine lin_makeT 2 M q .i64 .i64 (some 8) (by kernel_rfl) (by kernel_rfl) (by kernel_rfl) (by omega) hq ?_;intro w1 X hX bw1 bew1 hsw1;refine lnow 3 (.slice (some ⟨q,0,none⟩) M M) (some 3) ?_;refine ldq 4 ?_;have BX:=hZ bw1;have BE:=hZ bew1;have LX:=hZ hX;have S1:Hid (q+1≤w1.heap.size):=(by have:=hsw1.out;rw [Hid];omega);clear bw1 bew1 hX hsw1;go_upto_region 2 with (fail);refine lbeg (opsOf Tryz.f52 2) ?_;refine lnow 0 (.slice na M nc) (some 9) ?_;refine lnow 1 (.int .i64 (M:Int)) (some 10) ?_;refine lnow 2 (.int .i64 0) (some 11) ?_;refine ldq 3 ?_;go_wp2
 go_loopw [11] (fun iv wr=>∃ (i:Nat) (X:List Value),i≤M∧iv=.int .i64 (i:Int)∧Hid (X.length=5*M)∧Hid (X.take (5*i)=((ns.take i).map conC).flatten)∧Hid (Blk wr q 25 X)∧Hid (Below q w wr)∧Hid (q+1≤wr.heap.size)) (fun iv _=>M-(intOf iv).toNat)
 case atStart=>exact ⟨0,X,Nat.zero_le _,rfl,LX,by rw [Hid];simp,BX,BE,S1⟩
 case round=>
  obtain ⟨i,X,hi,rfl,LX,TX,BX,BE,SR⟩:=hrel;by_cases hlt:i<M
  rotate_left
  ·skip
   have rlt:¬ (i:Int)<(M:Int):=(by omega);obtain rfl:i=M:=(by omega);have hXd:=TX.out;rw [List.take_of_length_le (by have:=LX.out;omega),List.take_of_length_le (by omega)] at hXd;have FIN:Hid (TmsAt (List.range q) wr (ns.map conT) (.slice (some ⟨q,0,none⟩) i i)):=TmCells.tms (con_cells _ _ ns) (by rw [List.length_map];exact hM) BX.out hXd (by simp);clear hXd;go_upto_region 8 with (fail);refine lbeg (opsOf Tryz.f52 8) ?_;refine lnow 0 (.slice (some ⟨q,0,none⟩) i i) (some 33) ?_;refine lnow 1 (.slice (some ⟨q,0,none⟩) i i) (some 2) ?_;refine ldq 2 ?_;go_wp2;go_ret;exact ⟨_,rfl,FIN.out,BE.out⟩
  have rlt:(i:Int)<(M:Int):=(by omega);have NR:Hid (NmsAt wr (.slice na M nc) ns):=HN.out.below (by rw [hq.out];exact BE.out);obtain ⟨s,b,po,hs,hna,-,hc⟩:=NR.out.get hM hlt;have SOK:=OK.out i s hs;have HC:=hZ hc;obtain ⟨a2,hrun,hn2⟩:=nms_high NR.out hM (Nat.le_of_lt hlt) hcap wr;have HN2:=hZ hn2;have TK:Hid (ns.take (i+1)=ns.take i++[s]):=(by rw [Hid,List.take_add_one,hs];rfl);have WW:=word_walk s SOK.2.1 wr;rw [SOK.1] at WW;have CW:=contains_walk (ns.take i) s _ wr HN2.out (by rw [List.length_take];omega);rw [SOK.2.2] at CW;subst hna;clear hs hc hn2 SOK;go_upto_region 4 with (fail);refine lbeg (opsOf Tryz.f52 4) ?_;refine lnow 0 (.int .i64 (i:Int)) (some 13) ?_;refine lix 1 (.pointer (some ⟨b,po+i,none⟩)) (some 14) 26 9 11 (run_at_str b po M nc i hlt _) ?_;refine lcl 2 (strT s) (some 15) 9 14 b (po+i) HC.out Tryz.underlying9 ?_;refine lnow 3 (.int .i64 (i:Int)) (some 4) ?_;refine lnow 4 (strT s) (some 5) ?_;refine ldq 5 ?_;go_upto_region 5 with (fail);refine lbeg (opsOf Tryz.f52 5) ?_;refine lnow 0 (strT s) (some 16) ?_;refine lcal 1 43 #[strT s] (some 17) _ (WW) ?_;rintro e w' ⟨rfl,hw'⟩;obtain rfl:=hw'.symm;refine ⟨_,rfl,?_⟩;refine lnow 2 (.bool true) (some 18) ?_;refine lnow 3 (.slice (some ⟨b,po,none⟩) M nc) (some 19) ?_;refine lnow 4 (.int .i64 (i:Int)) (some 20) ?_;refine lin_value 5 (.slice a2 i nc) (some 21) wr (by kernel_rfl) (by kernel_rfl) (exec_of _ _ (by kernel_rfl) hrun) ?_
  refine lnow 6 (strT s) (some 22) ?_;refine lcal 7 80 #[.slice a2 i nc,strT s] (some 23) _ (CW) ?_;rintro e w' ⟨rfl,hw'⟩;obtain rfl:=hw'.symm;refine ⟨_,rfl,?_⟩;refine lnow 8 (.bool true) (some 24) ?_;refine lnow 9 (.bool true) (some 25) ?_;refine lcal 10 29 #[.bool true,.int .i64 10] (some 26) _ (need_yes 10 wr) ?_;rintro e w' ⟨rfl,hw'⟩;obtain rfl:=hw'.symm;refine ⟨_,rfl,?_⟩;refine ldq 11 ?_;go_upto_region 6 with (fail);refine lbeg (opsOf Tryz.f52 6) ?_;refine lnow 0 (.slice (some ⟨q,0,none⟩) M M) (some 27) ?_;refine lnow 1 (.int .i64 (i:Int)) (some 28) ?_;refine lnow 2 (strT s) (some 29) ?_;refine lnow 3 (.agg (conC s).toArray) (some 30) ?_;refine lix 4 (.pointer (some ⟨q,0+5*i,none⟩)) (some 31) 23 27 28 (run_at_tm q 0 M M i hlt _) ?_;refine lin_putM 5 (0+5*i) 25 (.tmp 31) (.tmp 30) q 25 X (conC s) (by kernel_rfl) (by kernel_rfl) (by kernel_rfl) (by kernel_rfl) (by kernel_rfl) BX.out (by have:=LX.out;rw [con_len];omega) (t5Size (con_len s)) (by simpa using ones_con s) ?_;intro w6 bw6 uw6;refine ldq 6 ?_;have NX:Hid ((splice X (0+5*i) (conC s)).length=5*M):=(by rw [Hid,splice_length (by have:=LX.out;rw [con_len];omega)];exact LX.out);have NT:Hid ((splice X (0+5*i) (conC s)).take (5*(i+1))=((ns.take (i+1)).map conC).flatten):=by
   have h1:=splice_take (X:=X) (c:=conC s) (n:=0+5*i) (by have:=LX.out;rw [con_len];omega);rw [con_len,Nat.zero_add,TX.out] at h1;rw [Hid,Nat.zero_add,show 5*(i+1)=5*i+5 by omega,h1,TK.out];simp
  have NB:Hid (Blk w6 q 25 (splice X (0+5*i) (conC s))):=bw6;have NE:Hid (Below q w w6):=uw6.below BE.out (Nat.le_refl _) (by have:=BE.out.size;have:=hq.out;omega);have NS:Hid (q+1≤w6.heap.size):=(by have:=SR.out;have:=uw6.size;rw [Hid];omega);clear bw6 uw6 BX BE SR TX LX hrun HN2 NR WW CW HC;go_wp2;go_roundw
  case rel=>exact ⟨i+1,splice X (0+5*i) (conC s),by omega,by go_num,NX,NT,NB,NE,NS⟩
  case measure=>simp [intOf];omega
theorem tms_low {F:List Nat} {w:World} {ts1 ts2:List Tm} {v:Value} (h:TmsAt F w (ts1++ts2) v) (w':World):∃ v',(Instr.sliceAt 23 v (some (.int .i64 (ts1.length:Int))) none none).run Tryz.prog w'=.ok v' w'∧TmsAt F w ts2 v':=by
 obtain ⟨a,c,rfl⟩:=h.slice;have hz:(sizeOf (Tryz.prog.elem 23)).run Tryz.prog w'=.ok 5 w':=(by kernel_rfl);rw [run_sliceAt_slice w' 23 _ _ _ _ elemTms,run_slice_l w' 23 _ _ c elemTms .i64 (ts1.length:Int) (by omega) (by simp;omega),hz];simp only [Result.andThen_ok,sliced,Int.toNat_natCast];refine ⟨_,rfl,?_⟩;cases ts2 with
 |nil=>
  rw [List.append_nil,Nat.sub_self];exact TmsAt.nil _ _ _ _
 |cons t ts=>
  obtain ⟨x,pb,po,cs,-,-,rfl,hF,hb,hc,-,-⟩:=h.get rfl (i:=ts1.length) (by simp);have hlen:(ts1++t::ts).length-ts1.length=(t::ts).length:=(by simp);rw [hlen,if_neg (by simp at hc;omega)];simp only [Option.map_some,Addr.add_mid,Nat.mul_comm ts1.length 5];refine TmsAt.of (by simp at hc ⊢;omega) hF hb fun i y hy=>?_;have hi:=(List.getElem?_eq_some_iff.1 hy).1;obtain ⟨x,pb2,po2,cs,hx,-,e,-,-,-,hr,ht⟩:=h.get rfl (i:=ts1.length+i) (by simp at hi ⊢;omega);cases e
  rw [List.getElem?_append_right (by omega),Nat.add_sub_cancel_left,hy] at hx;cases hx
  exact ⟨cs,by rw [show po+5*ts1.length+5*i=po+5*(ts1.length+i) by omega];exact hr,ht⟩
theorem tms_high {F:List Nat} {w:World} {ts1 ts2:List Tm} {v:Value} (h:TmsAt F w (ts1++ts2) v) (w':World):∃ v',(Instr.sliceAt 23 v none (some (.int .i64 (ts1.length:Int))) none).run Tryz.prog w'=.ok v' w'∧TmsAt F w ts1 v':=by
 obtain ⟨a,c,rfl⟩:=h.slice;have hz:(sizeOf (Tryz.prog.elem 23)).run Tryz.prog w'=.ok 5 w':=(by kernel_rfl);have hle:ts1.length≤c:=by
  by_cases h0:0<(ts1++ts2).length
  ·obtain ⟨x,pb,po,cs,-,-,-,-,-,hc,-,-⟩:=h.get rfl (i:=0) h0
   simp at hc
   omega
  ·rw [Nat.not_lt,Nat.le_zero,List.length_append] at h0
   omega
 rw [run_sliceAt_slice w' 23 _ _ _ _ elemTms,run_slice_h w' 23 _ _ c elemTms .i64 (ts1.length:Int) (by omega) (by omega),hz];simp only [Result.andThen_ok,sliced,Int.toNat_natCast,Nat.sub_zero,Nat.zero_mul];refine ⟨_,rfl,?_⟩;cases ts1 with
 |nil=>exact TmsAt.nil _ _ _ _
 |cons t ts=>
  obtain ⟨x,pb,po,cs,-,-,rfl,hF,hb,hc,-,-⟩:=h.get rfl (i:=0) (by simp);simp only [Option.map_some,Addr.add_mid,Nat.add_zero,ite_self];refine TmsAt.of hle hF hb fun i y hy=>?_;have hi:=(List.getElem?_eq_some_iff.1 hy).1;obtain ⟨x,pb2,po2,cs,hx,-,e,-,-,-,hr,ht⟩:=h.get rfl (i:=i) (by simp at hi ⊢;omega);cases e
  rw [List.getElem?_append_left hi,hy] at hx;cases hx
  exact ⟨cs,hr,ht⟩
end Go.Proofs.YtdhnlckfcccnlaaGreat
