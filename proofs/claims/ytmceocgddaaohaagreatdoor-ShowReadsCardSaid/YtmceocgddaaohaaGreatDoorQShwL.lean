import Derived.Test.YtmceocgddaaohaaGreatDoorQGenT
import Derived.Test.YtmceocgddaaohaaGreatDoorQShwK
namespace Go.Proofs.YtmceocgddaaohaaGreatDoor
open Go Go.RowKit
set_option maxRecDepth 100000
def shT (ds:List Dc):List UInt8:=ds.flatMap fun d=>dlT d++[10]
noncomputable def shOk (ds:List Dc):Bool:=decide (ds.length≤64)&&ds.all formB
theorem shT_snoc (l:List Dc) (d:Dc):shT (l++[d])=shT l++(dlT d++[10]):=by simp [shT]
structure Lv4D (d:Dc):Prop where
 ty:Lv4 d.ty
 val:Lv4 d.val
 ctors:∀ c∈d.ctors,Lv4 c.2
theorem DcAt.lv4 {F:List Nat} {w:World} {d:Dc} {cs:List Value} (h:DcAt F w d cs):Lv4D d:=by
 obtain ⟨tc,vc,cv,-,h1,h2,h3⟩:=h;refine ⟨TmAt.lv4 _ _ h1,TmAt.lv4 _ _ h2,fun c hc=>?_⟩
 obtain ⟨ca,cc,rfl⟩:=h3.slice;obtain ⟨i,hi,e⟩:=List.getElem_of_mem hc;obtain ⟨x,pb,po,xs,hx,-,-,-,-,-,ha⟩:=h3.get rfl hi;rw [List.getElem?_eq_getElem hi,e] at hx;obtain rfl:=Option.some.inj hx;exact TmAt.lv4 _ _ ha
theorem kwT_len (k:Int):(kwT k).length≤7:=by
 unfold kwT
 split
 ·decide
 split
 ·decide
 split
 ·decide
 ·decide
theorem ahT_len (i:Nat):(ahT i).length≤6:=by
 unfold ahT
 split<;>decide
theorem ctsF_len:∀ (l:List (List UInt8 × Tm)) (i:Nat),(∀ c∈l,wordB c.1=true∧rightP 4 0 c.2=true)→(∀ c∈l,Lv4 c.2)→(ctsF i l).length≤l.length*1200041
 |[],_,_,_=>by simp [ctsF]
 |c::l,i,h,h4=>by
  have ih:=ctsF_len l (i+1) (fun x hx=>h x (List.mem_cons_of_mem _ hx)) (fun x hx=>h4 x (List.mem_cons_of_mem _ hx))
  have h1:=h c (by simp);have a1:=wordB_len h1.1;have a2:=wlT_len h1.2 (h4 c (by simp));have a3:=ahT_len i;rw [ctsF,ctT];simp only [List.length_append,List.length_cons,List.length_nil];omega
theorem dlT_len {d:Dc} (h:FmD d) (h4:Lv4D d):(dlT d).length≤13000000:=by
 have a1:=kwT_len d.kind;have a2:=wordB_len h.word;have a3:(parT d.params).length≤23:=by
  unfold parT
  split
  ·simp
  ·have:=itoa_le h.p0 (by have:=h.p4;omega)
   simp only [List.length_append,List.length_cons,List.length_nil];omega
 have a4:(fixT d.kind d.fixed).length≤25:=by
  unfold fixT
  split
  ·have:=itoa_le h.fix.1 (by have:=h.fix.2;omega)
   simp only [List.length_append,List.length_cons,List.length_nil];omega
  ·simp
 have a5:=wlT_len h.ty h4.ty;have a6:(valT d.kind d.val).length≤1200004:=by
  unfold valT
  split
  ·next hk=>
   have:=wlT_len (h.val hk) h4.val;simp only [List.length_append,List.length_cons,List.length_nil];omega
  ·simp
 have a7:=ctsF_len d.ctors 0 h.ctors h4.ctors;have:=h.num;unfold dlT;simp only [List.length_append,List.length_cons,List.length_nil];omega
theorem shT_len:∀ (l:List Dc),(∀ d∈l,FmD d∧Lv4D d)→(shT l).length≤l.length*13000001
 |[],_=>by simp [shT]
 |d::l,h=>by
  have ih:=shT_len l fun x hx=>h x (List.mem_cons_of_mem _ hx)
  have h1:=h d (by simp);have:=dlT_len h1.1 h1.2;unfold shT at ih ⊢;rw [List.flatMap_cons];simp only [List.length_append,List.length_cons,List.length_nil];omega
set_option maxHeartbeats 4000000 in
theorem showDecl_walk {F:List Nat} (d:Dc) (cs:List Value) (w:World) (hT:TabW w) (hd:DcAt F w d cs) (hs:SmD d) (hbd:BigD d):Calls Tryz.prog 19 #[.agg cs.toArray] w fun e w'=>e=.returned (.tuple #[sT (if formB d=true then dlT d else []),.bool (formB d)])∧Below w.heap.size w w':=by
 obtain ⟨B,hB⟩:∃ B,Hid (w.heap.size=B):=⟨_,rfl⟩;have C15:=hZ hd.len;have ONE:=hZ hd.one;have DX:Hid (DcAt [] w d cs):=hd.sub (fun k hk=>by cases hk)
 have SM:=hZ hs;have BN:=hZ hbd;have L4:=hZ hd.lv4;obtain ⟨rb,hrb⟩:∃ y,Hid (formB d=y):=⟨_,rfl⟩;rw [hrb.out,hB.out];clear hd hs hbd
 go_enter Tryz.func19,Tryz.ntmps19
 go_upto_region 0 with (fail);refine lbeg (opsOf Tryz.f19 0) ?_;refine lbox 0 46 (.tmp 0) cs B (some 1) hB ?_;intro w1 b1 e1 s1;refine lnow 1 (sT []) (some 2) ?_;refine lnow 2 (.bool false) (some 3) ?_;refine ldq 3 ?_;have BX:=hZ b1;have BE:Hid (Below B w w1):=e1;have SZ:Hid (B<w1.heap.size):=(by have:=s1.out;rw [Hid];omega);clear b1 e1 s1;go_upto_region 1 with (fail);refine lbeg (opsOf Tryz.f19 1) ?_;refine lrl 0 (cs) (some 5) 46 1 B 0 BX.out.whole Tryz.underlying46 (dcSize C15.out) ?_;refine lcal 1 33 #[.agg cs.toArray] (some 6) _ (Formed_walk d cs w1 (DX.out.step (Step.of_below BE.out (by rw [hB.out];exact Nat.le_refl _):Step [] w [] w1)) SM.out BN.out) ?_;rintro e w2 ⟨rfl,hb2⟩;refine ⟨_,rfl,?_⟩;rw [hrb.out];replace BX:=hZ (BX.out.below hb2 BX.out.lt);replace BE:Hid (Below B w w2):=BE.out.trans (hb2.mono (Nat.le_of_lt SZ.out));replace SZ:Hid (B<w2.heap.size):=Nat.lt_of_lt_of_le SZ.out hb2.size;clear hb2;cases rb with
 |false=>
  refine lnow 2 (.bool true) (some 7) ?_;refine ldq 3 ?_;go_upto_region 2 with (fail);refine lbeg (opsOf Tryz.f19 2) ?_;refine lnow 0 (sT []) (some 2) ?_;refine lnow 1 (.bool false) (some 3) ?_;refine ldq 2 ?_;go_wp2;refine bodyPost_ret (v:=.tuple #[sT [],.bool false]) (by kernel_rfl) rfl ⟨rfl,BE.out⟩
 |true=>
  refine lnow 2 (.bool false) (some 7) ?_;refine ldq 3 ?_;obtain ⟨b,hbz⟩:∃ y,Hid (w2.heap.size=y):=⟨_,rfl⟩;go_upto_region 3 with (fail);refine lbeg (opsOf Tryz.f19 3) ?_;refine lin_alloc 0 69 [.pointer none,.slice none 0 0,.slice none 0 0] b (some 4) (by kernel_rfl) (by kernel_rfl) (by kernel_rfl) zeroWtr hbz ?_;intro w3 b3 e3 s3;refine ldq 1 ?_;have WB:Hid (Wb B b (.slice none 0 0) [] w3):=Wb.new b3 (by have:=SZ.out;have:=hbz.out;omega);replace BX:=hZ (BX.out.below e3 (by have:=SZ.out;have:=hbz.out;omega));replace BE:Hid (Below B w w3):=BE.out.trans (e3.mono (by have:=SZ.out;have:=hbz.out;omega));have FM:=hZ (formed_is hrb.out);have LX:=dlT_len FM.out L4.out;clear b3 e3 s3;go_upto_region 4 with (fail);refine lbeg (opsOf Tryz.f19 4) ?_;refine lrl 0 (cs) (some 8) 46 1 B 0 BX.out.whole Tryz.underlying46 (dcSize C15.out) ?_;refine lcal 1 34 #[.pointer (some ⟨b,0,none⟩),.agg cs.toArray] (some 9) _ (decl_walkH B w hB.out hT b (.slice none 0 0) d cs DX.out SM.out FM.out [] w3 BE.out WB.out (by unfold MB;simp;omega)) ?_;rintro e w4 ⟨rfl,nv',hw4,hs4⟩;refine ⟨_,rfl,?_⟩;refine ldq 2 ?_;have WB4:=hZ hw4;replace BE:Hid (Below B w w4):=BE.out.trans hs4.low;clear hw4 hs4 WB BX;rw [List.nil_append] at WB4;go_upto_region 5 with (fail);refine lbeg (opsOf Tryz.f19 5) ?_;refine lnow 0 (.pointer (some ⟨b,0,none⟩)) (some 10) ?_;refine lcal 1 25 #[.pointer (some ⟨b,0,none⟩)] (some 11) _ (wstring_walk B b nv' (dlT d) w4 WB4.out) ?_
  rintro e w5 ⟨rfl,hb5⟩;refine ⟨_,rfl,?_⟩;replace BE:Hid (Below B w w5):=BE.out.trans hb5;clear hb5 WB4;refine lnow 2 (sT (dlT d)) (some 2) ?_;refine lnow 3 (.bool true) (some 3) ?_;refine ldq 4 ?_;go_wp2;refine bodyPost_ret (v:=.tuple #[sT (dlT d),.bool true]) (by kernel_rfl) rfl ⟨rfl,BE.out⟩
theorem dcs_lv4 {F:List Nat} {w:World} {ds:List Dc} {v:Value} (h:DcsAt F w ds v):∀ d∈ds,Lv4D d:=by
 intro d hd;obtain ⟨a,c,rfl⟩:=h.slice;obtain ⟨i,hi,e⟩:=List.getElem_of_mem hd;obtain ⟨x,pb,po,xs,hx,-,-,-,-,-,ha⟩:=h.get rfl hi;rw [List.getElem?_eq_getElem hi,e] at hx;obtain rfl:=Option.some.inj hx;exact ha.lv4
set_option maxHeartbeats 8000000 in
theorem showLibrary_walk {F:List Nat} (ds:List Dc) (v:Value) (w:World) (hT:TabW w) (hl:DcsAt F w ds v) (hs:∀ d∈ds,SmD d) (hbd:∀ d∈ds,BigD d):Calls Tryz.prog 15 #[v] w fun e w'=>e=.returned (.tuple #[sT (if shOk ds=true then shT ds else []),.bool (shOk ds)])∧Below w.heap.size w w':=by
 obtain ⟨B,hB⟩:∃ B,Hid (w.heap.size=B):=⟨_,rfl⟩;obtain ⟨da,dc,rfl⟩:=hl.slice;have DL:Hid (DcsAt [] w ds (.slice da ds.length dc)):=hl.sub (fun k hk=>by cases hk)
 have SM:=hZ hs;have BN:=hZ hbd;obtain ⟨L,hL⟩:∃ L,Hid (ds.length=L):=⟨_,rfl⟩;rw [hL.out] at DL;obtain ⟨R,hR⟩:∃ R,Hid (shOk ds=R):=⟨_,rfl⟩;rw [hR.out,hB.out,hL.out];have LLF:Hid (∀ i,i≤L→(∀ d∈ds.take i,formB d=true)→L≤64→(shT (ds.take i)).length≤64*13000001):=fun i hi h h6=>by
  have h9:=shT_len (ds.take i) fun d hd=>⟨formed_is (h d hd),dcs_lv4 hl d (List.mem_of_mem_take hd)⟩
  have h8:(ds.take i).length≤64:=(by rw [List.length_take];have:=hL.out;omega);exact Nat.le_trans h9 (Nat.mul_le_mul_right _ h8)
 clear hl hs hbd
 go_enter Tryz.func15,Tryz.ntmps15
 go_upto_region 0 with (fail);refine lbeg (opsOf Tryz.f15 0) ?_;refine lnow 0 (sT []) (some 2) ?_;refine lnow 1 (.bool false) (some 3) ?_;refine ldq 2 ?_;go_upto_region 1 with (fail);refine lbeg (opsOf Tryz.f15 1) ?_;refine lnow 0 (.slice da L dc) (some 7) ?_;refine lnow 1 (.int .i64 (L:Int)) (some 8) ?_;refine lnow 2 (.bool (decide (64<(L:Int)))) (some 9) ?_;by_cases hgt:64<L
 ·have ER:R=false:=by rw [← hR.out,shOk,hL.out,decide_eq_false (by omega),Bool.false_and]
  rw [decide_eq_true (by omega:(64:Int)<(L:Int))];refine ldq 3 ?_;go_upto_region 2 with (fail);refine lbeg (opsOf Tryz.f15 2) ?_;refine lnow 0 (sT []) (some 2) ?_;refine lnow 1 (.bool false) (some 3) ?_;refine ldq 2 ?_;subst ER;go_wp2;refine bodyPost_ret (v:=.tuple #[sT [],.bool false]) (by kernel_rfl) rfl ⟨rfl,by have:=Below.refl w.heap.size w;rw [hB.out] at this;exact this⟩
 rw [decide_eq_false (by omega:¬ (64:Int)<(L:Int))];refine ldq 3 ?_;have L64:Hid (L≤64):=(by rw [Hid];omega);clear hgt;obtain ⟨b,hbz⟩:∃ y,Hid (w.heap.size=y):=⟨_,rfl⟩;go_upto_region 3 with (fail);refine lbeg (opsOf Tryz.f15 3) ?_;refine lin_alloc 0 69 [.pointer none,.slice none 0 0,.slice none 0 0] b (some 4) (by kernel_rfl) (by kernel_rfl) (by kernel_rfl) zeroWtr hbz ?_;intro w3 b3 e3 s3;refine ldq 1 ?_;have hbB:Hid (B≤b):=(by have h9:=hbz.out;have h8:=hB.out;rw [Hid];omega);have WB:Hid (Wb B b (.slice none 0 0) [] w3):=Wb.new b3 hbB.out;have BE:Hid (Below B w w3):=e3.mono hbB.out;clear b3 e3 s3 hbB;go_upto_region 4 with (fail);refine lbeg (opsOf Tryz.f15 4) ?_;refine lnow 0 (.slice da L dc) (some 10) ?_;refine lnow 1 (.int .i64 (L:Int)) (some 11) ?_;refine lnow 2 (.int .i64 0) (some 12) ?_;refine ldq 3 ?_;go_wp2
 go_loopw [2,12] (fun xv v wr=>∃ i:Nat,i≤L∧v=.int .i64 (i:Int)∧Hid (∃ nv,Wb B b nv (shT (ds.take i)) wr)∧Hid (Below B w wr)∧Hid (∀ d∈ds.take i,formB d=true)) (fun _ v _=>L-(intOf v).toNat)
 case atStart=>exact ⟨0,Nat.zero_le _,rfl,⟨_,WB.out⟩,BE,fun d hd=>by simp at hd⟩
 case round=>
  clear WB BE;obtain ⟨i,hi,rfl,WBX,BE0,FI⟩:=hrel;obtain ⟨nv,hwb⟩:=WBX.out;have WB:=hZ hwb;have WW:Hid (WS B b wr wr):=WS.refl _ _ _;have SW:Hid (B≤wr.heap.size):=Nat.le_trans hwb.ge (Nat.le_of_lt hwb.lt);clear WBX hwb;have l64:=L64.out;by_cases hlt:i<L
  rotate_left
  ·skip
   obtain rfl:i=L:=(by omega);rw [List.take_of_length_le (by rw [hL.out];exact Nat.le_refl _)] at WB FI;have ER:R=true:=(by rw [← hR.out,shOk,hL.out,decide_eq_true l64,Bool.true_and,List.all_eq_true];exact FI.out);subst ER;go_upto_region 5 with (fail);refine lbeg (opsOf Tryz.f15 5) ?_;refine lnow 0 (.bool (decide ((i:Int)<(i:Int)))) (some 13) ?_;rw [decide_eq_false (by omega:¬ (i:Int)<(i:Int))];refine ldq 1 ?_;go_upto_region 12 with (fail);refine lbeg (opsOf Tryz.f15 12) ?_;refine lnow 0 (.pointer (some ⟨b,0,none⟩)) (some 24) ?_;refine lcal 1 25 #[.pointer (some ⟨b,0,none⟩)] (some 25) _ (wstring_walk B b nv (shT ds) wr WB.out) ?_;rintro e w5 ⟨rfl,hb5⟩;refine ⟨_,rfl,?_⟩;have BE5:Hid (Below B w w5):=BE0.out.trans hb5;clear hb5 WB;refine lnow 2 (sT (shT ds)) (some 2) ?_;refine lnow 3 (.bool true) (some 3) ?_;refine ldq 4 ?_;go_wp2;refine bodyPost_ret (v:=.tuple #[sT (shT ds),.bool true]) (by kernel_rfl) rfl ⟨rfl,BE5.out⟩
  go_upto_region 5 with (fail);refine lbeg (opsOf Tryz.f15 5) ?_;refine lnow 0 (.bool (decide ((i:Int)<(L:Int)))) (some 13) ?_;rw [decide_eq_true (by omega:(i:Int)<(L:Int))];refine ldq 1 ?_;obtain ⟨d,pb,po,cs,hx,hxm,hda,-,hpb,hrx,hdx⟩:=DL.out.get hL.out hlt;subst hda;have C15:=hZ hdx.len;have ONE:=hZ hdx.one;have RX:=hZ (rng_low hrx BE0.out (by rw [hB.out] at hpb;exact hpb));have DX:=hZ hdx;have HXM:=hZ hxm;have TS:Hid (ds.take (i+1)=ds.take i++[d]):=take_snoc hx;have L4:=hZ hdx.lv4;clear hrx hdx hpb hxm hx;obtain ⟨z,hz⟩:∃ z,Hid (wr.heap.size=z):=⟨_,rfl⟩;go_upto_region 6 with (fail);refine lbeg (opsOf Tryz.f15 6) ?_;refine lix 0 (.pointer (some ⟨pb,po+15*i,none⟩)) (some 14) 40 10 12 (run_at_dc pb po L dc i hlt _) ?_;refine lrl 1 cs (some 15) 46 14 pb (po+15*i) RX.out Tryz.underlying46 (dcSize C15.out) ?_;refine lin_alloc 2 46 zD z (some 6) (by kernel_rfl) (by kernel_rfl) (by kernel_rfl) zeroDc hz ?_;intro w301 b3 e3 s3;refine lput 3 46 (.tmp 6) (.tmp 15) z _ zD cs b3 (C15.out.trans (rfl:15=zD.length)) (dcSize C15.out) (by simpa using ONE.out) ?_;intro w302 b4 u4;refine ldq 4 ?_;have E34:Below wr.heap.size wr w302:=(by rw [hz.out];exact u4.below e3 (Nat.le_refl _) (by have:=b3.lt;omega));replace WB:=hZ (WB.out.below E34);replace WW:=hZ (WW.out.trans (WS.of_below E34 SW.out));replace SW:Hid (B≤w302.heap.size):=Nat.le_trans SW.out E34.size;have BX:=hZ b4;clear b3 e3 s3 b4 u4 E34 hz RX
  go_upto_region 7 with (fail);refine lbeg (opsOf Tryz.f15 7) ?_;refine lrl 0 (cs) (some 16) 46 6 z 0 BX.out.whole Tryz.underlying46 (dcSize C15.out) ?_;refine lcal 1 33 #[.agg cs.toArray] (some 17) _ (Formed_walk d cs w302 (DX.out.step (Step.of_below (BE0.out.trans WW.out.low) (by rw [hB.out];exact Nat.le_refl _):Step [] w [] w302)) (SM.out d HXM.out) (BN.out d HXM.out)) ?_;rintro e w303 ⟨rfl,hb2⟩;refine ⟨_,rfl,?_⟩;replace WB:=hZ (WB.out.below hb2);replace WW:=hZ (WW.out.trans (WS.of_below hb2 SW.out));replace SW:Hid (B≤w303.heap.size):=Nat.le_trans SW.out hb2.size;replace BX:=hZ (BX.out.below hb2 BX.out.lt);clear hb2;obtain ⟨rb,hrb⟩:∃ y,Hid (formB d=y):=⟨_,rfl⟩;rw [hrb.out];cases rb with
  |false=>
   refine lnow 2 (.bool true) (some 18) ?_;refine ldq 3 ?_;have ER:R=false:=(by rw [← hR.out,shOk,show ds.all formB=false from List.all_eq_false.2 ⟨d,HXM.out,by rw [hrb.out];exact Bool.false_ne_true⟩,Bool.and_false]);subst ER;go_upto_region 8 with (fail);refine lbeg (opsOf Tryz.f15 8) ?_;refine lnow 0 (sT []) (some 2) ?_;refine lnow 1 (.bool false) (some 3) ?_;refine ldq 2 ?_;go_wp2;refine bodyPost_ret (v:=.tuple #[sT [],.bool false]) (by kernel_rfl) rfl ⟨rfl,BE0.out.trans WW.out.low⟩
  |true=>
   refine lnow 2 (.bool false) (some 18) ?_;refine ldq 3 ?_;have FM:=hZ (formed_is hrb.out);have LX:=hZ (dlT_len FM.out L4.out);obtain ⟨X,hX⟩:∃ y,Hid (dlT d=y):=⟨_,rfl⟩;have LL:Hid ((shT (ds.take i)).length≤64*13000001):=LLF.out i hi FI.out l64;rw [hX.out] at LX;go_upto_region 9 with (fail);refine lbeg (opsOf Tryz.f15 9) ?_;refine lrl 0 (cs) (some 19) 46 6 z 0 BX.out.whole Tryz.underlying46 (dcSize C15.out) ?_;refine lcal 1 34 #[.pointer (some ⟨b,0,none⟩),.agg cs.toArray] (some 20) _ (decl_walkH B w hB.out hT b nv d cs DX.out (SM.out d HXM.out) FM.out _ w303 (BE0.out.trans WW.out.low) WB.out (by rw [hX.out];have h8:=LX.out;have h9:=LL.out;unfold MB;(try simp only [List.length_append,List.length_cons,List.length_nil]);omega)) ?_;rintro e w304 ⟨rfl,nv2,hw,hs⟩;refine ⟨_,rfl,?_⟩;rw [hX.out] at hw;replace WB:=hZ hw;replace WW:=hZ (WW.out.trans hs);replace SW:Hid (B≤w304.heap.size):=Nat.le_trans SW.out hs.low.size;clear hw hs;refine ldq 2 ?_;go_upto_region 10 with (fail);refine lbeg (opsOf Tryz.f15 10) ?_;obtain ⟨q1,hq1⟩:∃ y,Hid (w304.heap.size=y):=⟨_,rfl⟩;refine lin_row 0 9 ([[10]].map sT) q1 1 (some 21) (by kernel_rfl) (by kernel_rfl) hq1 (exec_of _ _ (by kernel_rfl) (run_bs1 ([10]) _)) ?_;intro w2 b1 e1 s1;rw [← hq1.out] at e1;replace WB:=hZ (WB.out.below e1);replace WW:=hZ (WW.out.trans (WS.of_below e1 SW.out));replace SW:Hid (B≤w2.heap.size):=Nat.le_trans SW.out e1.size;have RW:=hZ b1;clear b1 e1 s1 hq1
   refine lcal 1 35 #[.pointer (some ⟨b,0,none⟩),.slice (some ⟨q1,0,none⟩) 1 1] (some 22) _ (put_here (xs:=[[10]]) 1 ([10]) WB.out RW.out rfl (by simp) (by omega) (by have h8:=LX.out;have h9:=LL.out;unfold MB;(try simp only [List.length_append,List.length_cons,List.length_nil]);omega)) ?_;rintro e w3 ⟨rfl,hw,hs⟩;refine ⟨_,rfl,?_⟩;clear RW;replace WB:=hZ hw;replace WW:=hZ (WW.out.trans hs);replace SW:Hid (B≤w3.heap.size):=Nat.le_trans SW.out hs.low.size;clear hw hs;refine ldq 2 ?_;have TL:Hid (Wb B b nv2 (shT (ds.take (i+1))) w3):=(by rw [TS.out,shT_snoc,hX.out];have h9:=WB.out;(try simp only [List.append_assoc] at h9 ⊢);exact h9);have BE9:Hid (Below B w w3):=BE0.out.trans WW.out.low;have FJ:Hid (∀ d∈ds.take (i+1),formB d=true):=(by rw [TS.out];intro x hx;rcases List.mem_append.1 hx with hx|hx;exact FI.out x hx;rw [List.mem_singleton.1 hx];exact hrb.out);clear WB WW SW BX;go_upto_region 11 with (fail);refine lbeg (opsOf Tryz.f15 11) ?_;refine lnow 0 (.int .i64 (IntKind.i64.wrap ((i:Int)+1))) (some 23) ?_;rw [show IntKind.i64.wrap ((i:Int)+1)=((i+1:Nat):Int) from (IntWalk.i64_in _ (by omega)).trans (by omega)];refine lnow 1 (.int .i64 ((i+1:Nat):Int)) (some 12) ?_;refine ldq 2 ?_;go_wp2;go_roundw
   case rel=>exact ⟨i+1,by omega,rfl,⟨_,TL.out⟩,BE9,FJ⟩
   case measure=>simp [intOf];omega
end Go.Proofs.YtmceocgddaaohaaGreatDoor
