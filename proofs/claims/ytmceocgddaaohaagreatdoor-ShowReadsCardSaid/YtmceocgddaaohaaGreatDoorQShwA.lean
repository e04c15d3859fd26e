import Derived.Test.YtmceocgddaaohaaGreatDoorQGenT
import Derived.Test.YtmceocgddaaohaaGreatDoorQLexH
import Derived.Test.YtmceocgddaaohaaGreatDoorQLevC
import Derived.Test.YtmceocgddaaohaaGreatDoorQTrmQ
namespace Go.Proofs.YtmceocgddaaohaaGreatDoor
open Go Go.RowKit
set_option maxRecDepth 100000
def Wb (B b:Nat) (nv:Value) (bs:List UInt8) (w:World):Prop:=∃ p v,Blk w b 69 [p,v,nv]∧w.ownsRowF B 5 1 v bs.length (Lib.byteCells bs)∧v.ownBlock≠some b∧B≤b∧(p=.pointer none∨p=.pointer (some ⟨b,0,none⟩))∧(bs=[]→v=.slice none 0 0)
structure WS (B b:Nat) (w w':World):Prop where
 low:Below B w w'
 same:Lib.OthersKept 5 (some b) w w'
theorem WS.refl (B b:Nat) (w:World):WS B b w w:=⟨Below.refl _ _,Lib.OthersKept.refl _ _ _⟩
theorem WS.trans {B b:Nat} {u v w:World} (h:WS B b u v) (k:WS B b v w):WS B b u w:=⟨h.low.trans k.low,h.same.trans k.same⟩
theorem others_below {e:TypeId} {bo:Option Nat} {w w':World} (hb:Below w.heap.size w w'):Lib.OthersKept e bo w w':=fun k o hk _ _=>by
 rw [hb.block k (Array.getElem?_eq_some_iff.1 hk).1];exact hk
theorem WS.of_below {B b:Nat} {w w':World} (hb:Below w.heap.size w w') (hB:B≤w.heap.size):WS B b w w':=⟨hb.mono hB,others_below hb⟩
theorem WS.blk {B b k:Nat} {t:TypeId} {cs:List Value} {w w':World} (h:WS B b w w') (hk:Blk w k t cs) (hb:k≠b) (ht:t≠5):Blk w' k t cs:=
 h.same k _ hk (fun e=>hb (Option.some.inj e)) (fun c fz e=>ht (Obj.cells.inj e).2.1)
theorem ownF_upd {base b:Nat} {e:TypeId} {v:Value} {n:Nat} {xs:List Value} {w w':World} (h:w.ownsRowF base e 1 v n xs) (hu:Upd b w w') (hne:v.ownBlock≠some b):w'.ownsRowF base e 1 v n xs:=by
 refine ⟨h.1,?_⟩;rcases h.2 with h2|⟨g,cap,cur,fz,h1,h2,h3,h4⟩
 ·exact .inl h2
 ·refine .inr ⟨g,cap,cur,fz,h1,h2,?_,h4⟩
  rw [hu.block g (Array.getElem?_eq_some_iff.1 h3).1 (fun e=>hne (by rw [h1,← e];rfl))]
  exact h3
theorem Wb.lt {B b:Nat} {nv:Value} {bs:List UInt8} {w:World} (h:Wb B b nv bs w):b<w.heap.size:=by
 obtain ⟨p,v,hb,-⟩:=h;exact hb.lt
theorem Wb.ge {B b:Nat} {nv:Value} {bs:List UInt8} {w:World} (h:Wb B b nv bs w):B≤b:=by
 obtain ⟨p,v,-,-,-,h,-⟩:=h;exact h
theorem Wb.below {B b:Nat} {nv:Value} {bs:List UInt8} {w w':World} (h:Wb B b nv bs w) (hb:Below w.heap.size w w'):Wb B b nv bs w':=by
 obtain ⟨p,v,h1,h2,h3⟩:=h;exact ⟨p,v,h1.below hb h1.lt,ownF_keep h2 (fun k hk=>hb.block k hk),h3⟩
theorem Upd.ws {B b:Nat} {w w':World} (h:Upd b w w') (hB:B≤b) (hs:B≤w.heap.size):WS B b w w':=
 ⟨h.below (Below.refl B w) hB hs,fun k o hk hb _=>by
  rw [h.block k (Array.getElem?_eq_some_iff.1 hk).1 (fun e=>hb (by rw [e]))]
  exact hk⟩
theorem liesWr:liesAt Tryz.prog Tryz.prog.depth 69 (3 / Tryz.prog.cellsOf 69) 0 67 1=true:=by kernel_rfl
set_option maxHeartbeats 2000000 in
theorem wcheck_fresh (b:Nat) (v nv:Value) (w:World) (hb:Blk w b 69 [.pointer none,v,nv]):Calls Tryz.prog 95 #[.pointer (some ⟨b,0,none⟩)] w fun e w'=>e=.returned (.tuple #[])∧∃ p,(p=.pointer none∨p=.pointer (some ⟨b,0,none⟩))∧Upd b w w'∧Blk w' b 69 [p,v,nv]:=by
 obtain ⟨j,hj,hjs⟩:=Option.map_eq_some_iff.1 sizeBd;have SH:Hid (w.shape? b=some (69,3)):=(by rw [Hid,World.shape?,show w.heap[b]?=_ from hb];rfl);have BL:=hZ hb;clear hb
 go_enter Tryz.func95,Tryz.ntmps95
 go_upto_region 0 with (fail);refine lbeg (opsOf Tryz.f95 0) ?_;refine lnow 0 (.pointer (some ⟨b,0,none⟩)) (some 2) ?_;refine lnow 1 (.pointer (some ⟨b,0,none⟩)) (some 3) ?_;refine lnow 2 (.pointer (some ⟨b,0,none⟩)) (some 4) ?_;refine lcl 3 (.pointer none) (some 5) 64 4 (b) 0 (BL.out.cell rfl) Tryz.underlying64 ?_;refine lnow 4 (.bool true) (some 6) ?_;refine ldq 5 ?_;go_upto_region 1 with (fail);refine lbeg (opsOf Tryz.f95 1) ?_;refine lnow 0 (.pointer (some ⟨b,0,none⟩)) (some 7) ?_;refine lnow 1 (.pointer (some ⟨b,0,none⟩)) (some 8) ?_;refine lnowP 2 (.pointer (some ⟨b,0,none⟩)) (some 9) (exec_of (convert 64 156 (.pointer (some ⟨b,0,none⟩))) _ (by kernel_rfl) (Lib.run_to_unsafe w ⟨b,0,none⟩ Tryz.underlying64 Tryz.underlying156 hj (by rw [hjs];decide) SH.out (Nat.zero_lt_succ 2))) ?_;refine lin_now 3 (.pointer (some ⟨b,0,none⟩)) (some 10) (by kernel_rfl) (by kernel_rfl) ((congrArg (fun z:Sem Next=>z.run Tryz.prog w) (show execOp _ _=callFunc 118 #[.pointer (some ⟨b,0,none⟩)] by kernel_rfl)).trans ((run_callFunc_extern Tryz.func118 (by kernel_rfl) (by kernel_rfl) (by kernel_rfl) (e:=Extern.AbiNoEscape.same) (by kernel_rfl) _ _).trans (by rw [Lib.run_noEscape];rfl))) ?_;refine lnowP 4 (.pointer (some ⟨b,0,none⟩)) (some 11) (exec_of (convert 156 64 (.pointer (some ⟨b,0,none⟩))) _ (by kernel_rfl) (Lib.run_from_unsafe w ⟨b,0,none⟩ Tryz.underlying156 Tryz.underlying64 hj SH.out liesWr)) ?_;refine lnow 5 (.pointer (some ⟨b,0,none⟩)) (some 12) ?_
 refine lnow 6 (.pointer (some ⟨b,0,none⟩)) (some 13) ?_;refine lin_putF 7 0 64 (.tmp 13) (.tmp 11) b 69 [.pointer none,v,nv] (.pointer (some ⟨b,0,none⟩)) (by kernel_rfl) (by kernel_rfl) (by kernel_rfl) (by kernel_rfl) (by kernel_rfl) BL.out (by simp) sizePBd rfl rfl ?_;intro w1 b1 u1;refine ldq 8 ?_;have FIN:Hid (Upd b w w1∧Blk w1 b 69 [.pointer (some ⟨b,0,none⟩),v,nv]):=⟨u1,b1⟩;clear b1 u1;go_wp2
 go_end0
 exact ⟨rfl,_,.inr rfl,FIN.out⟩
set_option maxHeartbeats 2000000 in
theorem wcheck_used (b:Nat) (v nv:Value) (w:World) (hb:Blk w b 69 [.pointer (some ⟨b,0,none⟩),v,nv]):Calls Tryz.prog 95 #[.pointer (some ⟨b,0,none⟩)] w fun e w'=>e=.returned (.tuple #[])∧∃ p,(p=.pointer none∨p=.pointer (some ⟨b,0,none⟩))∧Upd b w w'∧Blk w' b 69 [p,v,nv]:=by
 have BL:=hZ hb;clear hb
 go_enter Tryz.func95,Tryz.ntmps95
 go_upto_region 0 with (fail);refine lbeg (opsOf Tryz.f95 0) ?_;refine lnow 0 (.pointer (some ⟨b,0,none⟩)) (some 2) ?_;refine lnow 1 (.pointer (some ⟨b,0,none⟩)) (some 3) ?_;refine lnow 2 (.pointer (some ⟨b,0,none⟩)) (some 4) ?_;refine lcl 3 (.pointer (some ⟨b,0,none⟩)) (some 5) 64 4 (b) 0 (BL.out.cell rfl) Tryz.underlying64 ?_;refine lnow 4 (.bool false) (some 6) ?_;refine ldq 5 ?_;go_upto_region 2 with (fail);refine lbeg (opsOf Tryz.f95 2) ?_;refine lnow 0 (.pointer (some ⟨b,0,none⟩)) (some 14) ?_;refine lnow 1 (.pointer (some ⟨b,0,none⟩)) (some 15) ?_;refine lnow 2 (.pointer (some ⟨b,0,none⟩)) (some 16) ?_;refine lcl 3 (.pointer (some ⟨b,0,none⟩)) (some 17) 64 16 (b) 0 (BL.out.cell rfl) Tryz.underlying64 ?_;refine lnow 4 (.pointer (some ⟨b,0,none⟩)) (some 18) ?_;refine lnowP 5 (.bool false) (some 19) (exec_pNe 64 (.tmp 17) (.tmp 18) ⟨b,0,none⟩ (by kernel_rfl) (by kernel_rfl) (by kernel_rfl) (fun _=>rfl)) ?_;refine ldq 6 ?_;go_wp2
 go_end0
 exact ⟨rfl,_,.inr rfl,Upd.refl _ _,BL.out⟩
theorem wcheck_walk (b:Nat) (p v nv:Value) (w:World) (hb:Blk w b 69 [p,v,nv]) (hp:p=.pointer none∨p=.pointer (some ⟨b,0,none⟩)):Calls Tryz.prog 95 #[.pointer (some ⟨b,0,none⟩)] w fun e w'=>e=.returned (.tuple #[])∧∃ p,(p=.pointer none∨p=.pointer (some ⟨b,0,none⟩))∧Upd b w w'∧Blk w' b 69 [p,v,nv]:=by
 rcases hp with rfl|rfl
 ·exact wcheck_fresh b v nv w hb
 ·exact wcheck_used b v nv w hb
theorem byteCells_app (xs ys:List UInt8):Lib.byteCells (xs++ys)=Lib.byteCells xs++Lib.byteCells ys:=by simp [Lib.byteCells]
set_option maxHeartbeats 2000000 in
theorem wwstr_walk (B b:Nat) (nv:Value) (bs s:List UInt8) (w:World) (h:Wb B b nv bs w) (hn:bs.length+s.length≤100000000000):Calls Tryz.prog 64 #[.pointer (some ⟨b,0,none⟩),sT s] w fun e w'=>∃ v,e=.returned v∧Wb B b nv (bs++s) w'∧WS B b w w':=by
 obtain ⟨p,v,hblk,hown,hne,hB,hp,hnil⟩:=h;have CK:=wcheck_walk b p v nv w hblk hp;have OW:=hZ hown;have NE:=hZ hne;have BB:=hZ hB;have NI:=hZ hnil;have SW:Hid (B≤w.heap.size):=Nat.le_trans hB (Nat.le_of_lt hblk.lt);clear hblk hown hne hB hp hnil
 go_enter Tryz.func64,Tryz.ntmps64
 go_upto_region 0 with (fail);refine lbeg (opsOf Tryz.f64 0) ?_;refine lnow 0 (.int .i64 0) (some 4) ?_;refine lnow 1 (.nilIface) (some 5) ?_;refine ldq 2 ?_;go_upto_region 1 with (fail);refine lbeg (opsOf Tryz.f64 1) ?_;refine lnow 0 (.pointer (some ⟨b,0,none⟩)) (some 6) ?_;refine lcal 1 95 #[.pointer (some ⟨b,0,none⟩)] (some 7) _ (CK) ?_;rintro e w1 ⟨rfl,p1,hp1,hu1,hbl⟩;refine ⟨_,rfl,?_⟩;refine ldq 2 ?_;have BL:=hZ hbl;have PP:=hZ hp1;have W1:Hid (WS B b w w1):=hu1.ws BB.out SW.out;replace OW:=hZ (ownF_upd OW.out hu1 NE.out);replace SW:Hid (B≤w1.heap.size):=Nat.le_trans SW.out hu1.size;clear hbl hp1 hu1 CK;obtain ⟨i0,hi,hz0,hz1,hz2⟩:=info_parts infoByX;go_upto_region 2 with (fail);refine lbeg (opsOf Tryz.f64 2) ?_;refine lnow 0 (.pointer (some ⟨b,0,none⟩)) (some 8) ?_;refine lnow 1 (.pointer (some ⟨b,0,none⟩)) (some 9) ?_;refine lnow 2 (.pointer (some ⟨b,0,none⟩)) (some 10) ?_;refine lnow 3 (.pointer (some ⟨b,1,none⟩)) (some 11) ?_;refine lcl 4 (v) (some 12) 65 11 (b) 1 (BL.out.cell rfl) Tryz.underlying65 ?_;refine lnow 5 (sT s) (some 13) ?_;obtain ⟨v',w2,hr,hown',hgrow,hn2⟩:=Lib.run_append_own_stringF (P:=Tryz.prog) w1 B 65 9 65 5 i0 Tryz.underlying65 Tryz.underlying9 hi hz0 hz1 hz2 v bs.length (Lib.byteCells bs) OW.out ⟨s.toArray⟩ (by show bs.length+s.length≤maxLen;unfold maxLen;omega) (by show bs.length+s.length≤_;omega) SW.out
 refine lin_value 6 v' (some 14) w2 (by kernel_rfl) (by kernel_rfl) (exec_of (Builtin.append_ #[65,9] 65 #[v,sT s]) _ (by kernel_rfl) hr) ?_;have BL2:Hid (Blk w2 b 69 [p1,v,nv]):=by have hlt:=BL.out.lt;unfold Blk;rw [hgrow.block b hlt (fun e=>NE.out e.symm)];exact BL.out
 have W2:Hid (WS B b w w2):=⟨W1.out.low.grown hgrow SW.out (fun k hk=>(OW.out.lt k hk).1),W1.out.same.grown hgrow (Lib.ownsRowF_kind OW.out)⟩
 have OW2:Hid (w2.ownsRowF B 5 1 v' (bs++s).length (Lib.byteCells (bs++s))):=(by rw [Hid,List.length_append,byteCells_app];exact hown');have NE2:Hid (v'.ownBlock≠some b):=Lib.ownBlock_neF hown' BL2.out (by decide);have NI2:Hid (bs++s=[]→v'=.slice none 0 0):=fun e=>by obtain ⟨e1,e2⟩:=List.append_eq_nil_iff.1 e;exact hn2.2 ⟨NI.out e1,by subst e2;rfl⟩
 clear hr hown' hgrow hi hz0 hz1 hz2 BL OW W1 hn2 NI NE;refine lnow 7 (.pointer (some ⟨b,0,none⟩)) (some 15) ?_;refine lnow 8 (.pointer (some ⟨b,1,none⟩)) (some 16) ?_;refine lin_putF 9 1 65 (.tmp 16) (.tmp 14) b 69 [p1,v,nv] v' (by kernel_rfl) (by kernel_rfl) (by kernel_rfl) (by kernel_rfl) (by kernel_rfl) BL2.out (by simp) sizeBys (ownF_cells OW2.out) (ownF_one OW2.out) ?_;intro w3 b3 u3;refine ldq 10 ?_;have FIN:Hid (Wb B b nv (bs++s) w3∧WS B b w w3):=⟨⟨p1,v',b3,ownF_upd OW2.out u3 NE2.out,NE2.out,BB.out,PP.out,NI2.out⟩,W2.out.trans (u3.ws BB.out (Nat.le_trans BB.out (Nat.le_of_lt BL2.out.lt)))⟩;clear OW2 W2 BL2 b3 u3 NE2 NI2;go_upto_region 3 with (fail);refine lbeg (opsOf Tryz.f64 3) ?_;refine lnow 0 (sT s) (some 17) ?_;refine lnow 1 (.int .i64 (s.length:Int)) (some 18) ?_;refine lnow 2 (.int .i64 (s.length:Int)) (some 4) ?_;refine lnow 3 (.nilIface) (some 5) ?_;refine ldq 4 ?_;go_wp2;refine bodyPost_ret (v:=.tuple #[.int .i64 (s.length:Int),.nilIface]) (by kernel_rfl) rfl ⟨_,rfl,FIN.out⟩
theorem take_flat_le (xs:List (List UInt8)) (i:Nat):(xs.take i).flatten.length≤xs.flatten.length:=by
 have h:xs.flatten=(xs.take i).flatten++(xs.drop i).flatten:=(by rw [← List.flatten_append,List.take_append_drop]);rw [h,List.length_append];omega
set_option maxHeartbeats 2000000 in
theorem put_walkW (B b g:Nat) (nv:Value) (bs:List UInt8) (xs:List (List UInt8)) (w:World) (h:Wb B b nv bs w) (hg:Blk w g 9 (xs.map sT)) (hx:xs.length≤1000) (hn:bs.length+xs.flatten.length≤100000000000):Calls Tryz.prog 35 #[.pointer (some ⟨b,0,none⟩),.slice (some ⟨g,0,none⟩) xs.length xs.length] w fun e w'=>e=.returned (.tuple #[])∧Wb B b nv (bs++xs.flatten) w'∧WS B b w w':=by
 obtain ⟨N,hN⟩:∃ N,Hid (xs.length=N):=⟨_,rfl⟩;rw [hN.out];have WB:=hZ h;have GX:=hZ hg;have BN:=hZ hn;have hN2:N≤1000:=(by have:=hN.out;omega);have GB:Hid (g≠b):=fun e=>by subst e;obtain ⟨p,v,h1,-⟩:=h;have e2:=Option.some.inj (h1.symm.trans hg);exact absurd (Obj.cells.inj e2).2.1 (by decide)
 clear h hg hn
 go_enter Tryz.func35,Tryz.ntmps35
 go_upto_region 0 with (fail);refine lbeg (opsOf Tryz.f35 0) ?_;refine lnow 0 (.slice (some ⟨g,0,none⟩) N N) (some 6) ?_;refine lnow 1 (.int .i64 (N:Int)) (some 7) ?_;refine lnow 2 (.int .i64 0) (some 8) ?_;refine ldq 3 ?_;go_wp2
 go_loopw [8] (fun iv wr=>∃ i:Nat,i≤N∧iv=.int .i64 (i:Int)∧Hid (Wb B b nv (bs++(xs.take i).flatten) wr)∧Hid (WS B b w wr)∧Hid (Blk wr g 9 (xs.map sT))) (fun iv _=>N-(intOf iv).toNat)
 case atStart=>exact ⟨0,Nat.zero_le _,rfl,by rw [List.take_zero,List.flatten_nil,List.append_nil];exact WB,WS.refl _ _ _,GX⟩
 case round=>
  obtain ⟨i,hi,rfl,WI,WW,GI⟩:=hrel;clear WB GX;by_cases hlt:i<N
  rotate_left
  ·skip
   obtain rfl:i=N:=(by omega);go_upto_region 1 with (fail);refine lbeg (opsOf Tryz.f35 1) ?_;refine lnow 0 (.bool (decide ((i:Int)<(i:Int)))) (some 9) ?_;rw [decide_eq_false (by omega:¬ (i:Int)<(i:Int))];refine ldq 1 ?_;have FIN:Hid (Wb B b nv (bs++xs.flatten) wr∧WS B b w wr):=⟨by have:=WI.out;rw [List.take_of_length_le (by rw [hN.out];exact Nat.le_refl _)] at this;exact this,WW.out⟩;go_wp2
   go_end0
   exact ⟨rfl,FIN.out⟩
  obtain ⟨s,hs⟩:∃ s,Hid (xs[i]?=some s):=⟨_,List.getElem?_eq_getElem (by have:=hN.out;omega)⟩;have TS:Hid ((xs.take (i+1)).flatten=(xs.take i).flatten++s):=(by rw [Hid,take_snoc hs.out,List.flatten_append];simp);have TB:Hid (bs.length+(xs.take (i+1)).flatten.length≤100000000000):=Nat.le_trans (Nat.add_le_add_left (take_flat_le xs (i+1)) _) BN.out;go_upto_region 1 with (fail);refine lbeg (opsOf Tryz.f35 1) ?_;refine lnow 0 (.bool (decide ((i:Int)<(N:Int)))) (some 9) ?_;rw [decide_eq_true (by omega:(i:Int)<(N:Int))];refine ldq 1 ?_;go_upto_region 2 with (fail);refine lbeg (opsOf Tryz.f35 2) ?_;refine lix 0 (.pointer (some ⟨g,0+i,none⟩)) (some 10) 62 6 8 (run_at_str g 0 N N i hlt _) ?_;refine lcl 1 (sT s) (some 11) 9 10 g (0+i) (GI.out.cell (by rw [Nat.zero_add,List.getElem?_map,hs.out];rfl)) Tryz.underlying9 ?_;refine lnow 2 (sT s) (some 5) ?_;refine ldq 3 ?_;go_upto_region 3 with (fail);refine lbeg (opsOf Tryz.f35 3) ?_;refine lnow 0 (.pointer (some ⟨b,0,none⟩)) (some 12) ?_;refine lnow 1 (.pointer (some ⟨b,0,none⟩)) (some 13) ?_;refine lnow 2 (.pointer (some ⟨b,0,none⟩)) (some 14) ?_;refine lnow 3 (sT s) (some 15) ?_;refine lcal 4 64 #[.pointer (some ⟨b,0,none⟩),sT s] (some 16) _ (wwstr_walk B b nv _ s wr WI.out (by have:=TB.out;rw [TS.out,List.length_append] at this;rw [List.length_append];omega)) ?_;rintro e w2 ⟨ev,rfl,hw2,hs2⟩;refine ⟨_,rfl,?_⟩;refine ldq 5 ?_
  have WI2:Hid (Wb B b nv (bs++(xs.take (i+1)).flatten) w2):=(by rw [Hid,TS.out,← List.append_assoc];exact hw2);have GI2:=hZ (hs2.blk GI.out GB.out (by decide));have WW2:=hZ (WW.out.trans hs2);clear hw2 hs2 WI GI WW TS TB hs;go_upto_region 4 with (fail);refine lbeg (opsOf Tryz.f35 4) ?_;refine lnow 0 (.int .i64 (IntKind.i64.wrap ((i:Int)+1))) (some 17) ?_;rw [show IntKind.i64.wrap ((i:Int)+1)=((i+1:Nat):Int) from (IntWalk.i64_in _ (by omega)).trans (by omega)];refine lnow 1 (.int .i64 ((i+1:Nat):Int)) (some 8) ?_;refine ldq 2 ?_;go_wp2;go_roundw
  case rel=>exact ⟨i+1,by omega,rfl,WI2,WW2,GI2⟩
  case measure=>simp [intOf];omega
theorem unsafe_none (w:World):(Builtin.unsafeString_ #[103,3] 9 #[.pointer none,.int .i64 0]).run Tryz.prog w=.ok (.string ⟨#[]⟩) w:=by kernel_rfl
set_option maxHeartbeats 4000000 in
theorem wstring_nil (B b:Nat) (nv:Value) (w:World) (h:Wb B b nv [] w):Calls Tryz.prog 25 #[.pointer (some ⟨b,0,none⟩)] w fun e w'=>e=.returned (sT [])∧Below B w w':=by
 obtain ⟨p,v,hblk,-,-,-,-,hv⟩:=h;obtain rfl:=hv rfl;have c1:w.drew.cell? ⟨b,1,none⟩=some (.slice none 0 0):=hblk.cell rfl;have hSD:(Builtin.unsafeSliceData_ #[65] 103 #[.slice none 0 0]).run Tryz.prog w.drew=.ok (.pointer none) w.drew:=rfl;have hUS:=unsafe_none;have FIN:Hid (Below B w w.drew):=Below.drew (Below.refl B w);have mixed:Tryz.prog.follows .mixedOrders=true:=(by kernel_rfl);clear hblk hv
 go_enter Tryz.func25,Tryz.ntmps25
 go_wp2
 go_region_o
 all_goals (go_wp2;go_ret;exact ⟨rfl,FIN.out⟩)
set_option maxHeartbeats 4000000 in
theorem wstring_some (B b:Nat) (nv:Value) (l:List UInt8) (h0:l≠[]) (w:World) (h:Wb B b nv l w):Calls Tryz.prog 25 #[.pointer (some ⟨b,0,none⟩)] w fun e w'=>e=.returned (sT l)∧Below B w w':=by
 obtain ⟨p,v,hblk,hown,hne,-⟩:=h;have hl0:l.length≠0:=(by simpa using h0);obtain ⟨g,cap,cur,fz,rfl,hbg,hg,hfz,hnc,hcm,hcs,htake⟩:∃ g cap cur fz,v=.slice (some ⟨g,0,none⟩) l.length cap∧B≤g∧w.heap[g]?=some (.cells cur 5 fz)∧fz.2≤l.length*1∧l.length≤cap∧cap≤maxLen∧cur.size=cap*1∧cur.toList.take (l.length*1)=Lib.byteCells l:=by
  rcases hown.2 with ⟨_,hz⟩|⟨g,cap,cur,fz,hv,r⟩
  ·exact absurd hz hl0
  ·exact ⟨g,cap,cur,fz,hv,r⟩
 have c1:w.drew.cell? ⟨b,1,none⟩=some (.slice (some ⟨g,0,none⟩) l.length cap):=hblk.cell rfl;have hSD:(Builtin.unsafeSliceData_ #[65] 103 #[.slice (some ⟨g,0,none⟩) l.length cap]).run Tryz.prog w.drew=.ok (.pointer (some ⟨g,0,none⟩)) w.drew:=Lib.run_unsafeSliceData_row _ _ _ _ _ _ (by omega);have hUS:(Builtin.unsafeString_ #[103,3] 9 #[.pointer (some ⟨g,0,none⟩),.int .i64 l.length]).run Tryz.prog w.drew=.ok (.string ⟨l.toArray⟩) (w.drew.freeze ⟨g,0,none⟩ l.length):=by
  refine Lib.run_unsafeString_row w.drew 103 3 9 5 Tryz.underlying103 (by kernel_rfl) g cur.size (by have hg':w.drew.heap[g]?=some (.cells cur 5 fz):=hg;simp [World.shape?,hg']) l h0 (by omega) (by unfold maxLen at hcm;omega) ?_;intro j x hx;exact hown.cells (g:=g) rfl j (.int .u8 x.toNat) (by simp [Lib.byteCells,hx])
 have FIN:Hid (Below B w (w.drew.freeze ⟨g,0,none⟩ l.length)):=Lib.below_freeze (Below.drew (Below.refl B w)) (p:=⟨g,0,none⟩) hbg _;have mixed:Tryz.prog.follows .mixedOrders=true:=(by kernel_rfl);clear hblk hown hne hg hfz hnc hcm hcs htake hbg h0 hl0
 go_enter Tryz.func25,Tryz.ntmps25
 go_wp2
 go_region_o
 all_goals (go_wp2;go_ret;exact ⟨rfl,FIN.out⟩)
theorem wstring_walk (B b:Nat) (nv:Value) (l:List UInt8) (w:World) (h:Wb B b nv l w):Calls Tryz.prog 25 #[.pointer (some ⟨b,0,none⟩)] w fun e w'=>e=.returned (sT l)∧Below B w w':=by
 by_cases h0:l=[]
 ·subst h0
  exact wstring_nil B b nv w h
 ·exact wstring_some B b nv l h0 w h
end Go.Proofs.YtmceocgddaaohaaGreatDoor
