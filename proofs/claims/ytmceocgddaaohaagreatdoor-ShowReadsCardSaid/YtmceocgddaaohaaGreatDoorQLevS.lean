import Derived.Test.YtmceocgddaaohaaGreatDoorQGenT
import Derived.Test.YtmceocgddaaohaaGreatDoorQLevC
import Derived.Test.YtmceocgddaaohaaGreatDoorQLevT
import Derived.Test.YtmceocgddaaohaaGreatDoorLevSh
import Derived.Lib.SmallJoins
import Derived.Lib.ItoaLen
import Derived.Lib.AppendIntMem
import Derived.Deep.AppendLies
namespace Go.Proofs.YtmceocgddaaohaaGreatDoor
open Go Go.RowKit
set_option maxRecDepth 100000
def TabW (w : World) : Prop := Lib.TabIs Tryz.prog w "internal/strconv.uint64pow10" .u64 Lib.pow10Tab
theorem gPow : Tryz.prog.globalNamed "internal/strconv.uint64pow10" = some 0 := by kernel_rfl
theorem TabW.below {w w':World} (h:TabW w) (hb:Below w.heap.size w w'):TabW w':=Joins.tab_stays gPow h hb (Nat.le_refl _)
def strW (l:List UInt8):Value:=.string ⟨l.toArray⟩
theorem itoa_walk (n:Int) (h0:0≤n) (h1:n≤100000) (w:World) (hT:TabW w):Calls Tryz.prog 63 #[.int .i64 n] w fun e w'=>e=.returned (strW (Lib.itoa n))∧Below w.heap.size w w':=
 (Tryz.strconv_Itoa n (by omega) (by omega) w hT).mono fun _ _ ⟨he,k,os,hw⟩=>⟨he,by rw [hw];exact Lib.below_grow _ _ (Nat.le_refl _) _ _⟩
theorem exec_cat {P:Program} {a:Act} {w:World} {op:Oper} (t t2:TypeId) (x y:Operand) (ho:op.op=.binOp .add t x y t2) (xs ys:List UInt8) (ex:a.eval x=strW xs) (ey:a.eval y=strW ys) (hx:xs.length≤1000) (hy:ys.length≤1000):(execOp a.eval op).run P w=.ok (.value (strW (xs++ys))) w:=by
 have hr:(binOp .add t (strW xs) (strW ys)).run P w=.ok (strW (xs++ys)) w:=by
  have h:=run_string_add_lists (P:=P) w xs ys (by omega) (by omega);unfold strW
  simpa [binOp] using h
 unfold execOp;simp only [ho,ex,ey,Sem.run_bind]
 first|rw [hr]|(simp only [eqGuard];simp [hr])
theorem itoa_le {n:Int} (h0:0≤n) (h1:n≤100000):(Lib.itoa n).length≤21:=Lib.itoa_length_le n (by omega) (by omega)
theorem partT_len {i:Nat} (hi:i≤100) {p:Int} (h0:0≤p) (h1:p≤100):(partT i p).length≤44:=by
 have a1:=itoa_le (n:=(i:Int)) (by omega) (by omega);have a2:=itoa_le (n:=p) h0 (by omega);unfold partT
 split<;>simp<;>omega
set_option maxHeartbeats 1000000 in
theorem ptext_walk (i:Nat) (hi:i≤100) (p:Int) (h0:0≤p) (h1:p≤100) (w:World) (hT:TabW w):Calls Tryz.prog 167 #[.int .i64 (i:Int),.int .i64 p] w fun e w'=>e=.returned (strW (partT i p))∧Below w.heap.size w w':=by
 have HT:=hZ hT;have L1:Hid ((Lib.itoa (i:Int)).length≤21):=itoa_le (by omega) (by omega);have L2:Hid ((Lib.itoa p).length≤21):=itoa_le h0 (by omega);clear hT
 go_enter Tryz.func167,Tryz.ntmps167
 go_upto_region 1 with (fail);refine lbeg (opsOf Tryz.f167 1) ?_;refine lnow 0 (.int .i64 (i:Int)) (some 6) ?_;refine lcal 1 63 #[.int .i64 (i:Int)] (some 7) _ (itoa_walk (i:Int) (by omega) (by omega) _ HT.out) ?_;rintro e w1 ⟨rfl,hb1⟩;have BE1:=hZ hb1;have T1:=hZ (HT.out.below hb1);clear hb1;refine ⟨_,rfl,?_⟩;refine lnowP 2 (strW ([117]++Lib.itoa (i:Int))) (some 8) (exec_cat 9 9 (.const (strW [117])) (.tmp 7) (by kernel_rfl) [117] (Lib.itoa (i:Int)) (by kernel_rfl) (by kernel_rfl) (by decide) (by have:=L1.out;omega)) ?_;refine lnow 3 (strW ([117]++Lib.itoa (i:Int))) (some 5) ?_;refine ldq 4 ?_;by_cases hp:p=0
 ·have E:Hid (partT i p=[117]++Lib.itoa (i:Int)):=by rw [Hid,partT,if_pos hp];rfl
  subst hp;go_wp2;go_ret;exact ⟨by rw [E.out];rfl,BE1.out⟩
 ·have E:Hid (partT i p=([117]++Lib.itoa (i:Int))++([43]++Lib.itoa p)):=by rw [Hid,partT,if_neg hp];rfl
  obtain ⟨s,hs⟩:∃ s:List UInt8,Hid (([117]:List UInt8)++Lib.itoa (i:Int)=s):=⟨([117]:List UInt8)++Lib.itoa (i:Int),rfl⟩;have LS:Hid (s.length≤22):=(by rw [Hid,← hs.out,List.length_append];have:=L1.out;simp;omega);rw [hs.out] at E ⊢;go_upto_region 3 with (fail);refine lbeg (opsOf Tryz.f167 3) ?_;refine lnow 0 (strW s) (some 11) ?_;refine lnow 1 (.int .i64 p) (some 12) ?_;refine lcal 2 63 #[.int .i64 p] (some 13) _ (itoa_walk p h0 (by omega) _ T1.out) ?_;rintro e w2 ⟨rfl,hb2⟩;have BE2:Hid (Below w.heap.size w w2):=BE1.out.trans (hb2.mono BE1.out.size);clear hb2;refine ⟨_,rfl,?_⟩;refine lnowP 3 (strW ([43]++Lib.itoa p)) (some 14) (exec_cat 9 9 (.const (strW [43])) (.tmp 13) (by kernel_rfl) [43] (Lib.itoa p) (by kernel_rfl) (by kernel_rfl) (by decide) (by have:=L2.out;omega)) ?_;refine lnowP 4 (strW (s++([43]++Lib.itoa p))) (some 15) (exec_cat 9 9 (.tmp 11) (.tmp 14) (by kernel_rfl) s ([43]++Lib.itoa p) (by kernel_rfl) (by kernel_rfl) (by have:=LS.out;omega) (by rw [List.length_append];have:=L2.out;simp;omega)) ?_;refine lnow 5 (strW (s++([43]++Lib.itoa p))) (some 5) ?_;refine ldq 6 ?_;go_wp2;go_ret;exact ⟨by rw [E.out];rfl,BE2.out⟩
theorem max_one {p:List Int} (h:p.length=4):(p.take 1).foldl max (p.getD 0 0)=p.getD 0 0:=
 match p,h with
 |[a,_,_,_],_=>Int.max_self a
theorem max_snoc {p:List Int} (h:p.length=4) {k:Nat} (hk:k<4) (x:Int):(p.take (k+1)).foldl max x=max ((p.take k).foldl max x) (p.getD k 0):=by
 rw [List.take_add_one,List.foldl_append,List.getElem?_eq_getElem (by omega),List.getD_eq_getElem?_getD,List.getElem?_eq_getElem (by omega)]
 rfl
set_option maxHeartbeats 1000000 in
theorem smax_walk (p:List Int) (hp:p.length=4) (b o c:Nat) (w:World) (hc:∀ k,k<4→w.cell? ⟨b,o+k,none⟩=some (.int .i64 (p.getD k 0))):Calls Tryz.prog 166 #[.slice (some ⟨b,o,none⟩) 4 c] w fun e w'=>e=.returned (.int .i64 (p.foldl max (p.getD 0 0)))∧w=w':=by
 have HC:=hZ hc;have HP:=hZ hp;clear hc hp;have C0:=HC.out 0 (by omega)
 go_enter Tryz.func166,Tryz.ntmps166
 go_upto_region 3 with (fail);refine lbeg (opsOf Tryz.f166 3) ?_;refine lnow 0 (.slice (some ⟨b,o,none⟩) 4 c) (some 9) ?_;refine lnowP 1 (.pointer (some ⟨b,o+0,none⟩)) (some 10) (exec_indexAt 197 (.tmp 9) (.const (.int .i64 0)) (by kernel_rfl) _ _ _ (by kernel_rfl) (by kernel_rfl) (run_at_ints b o 4 c 0 (by omega) _)) ?_;refine lcl 2 (.int .i64 (p.getD 0 0)) (some 11) 3 10 b (o+0) C0 Tryz.underlying3 ?_;refine lnow 3 (.int .i64 (p.getD 0 0)) (some 3) ?_;refine ldn 4 ?_;clear C0;generalize hact:Act.put _ (some 3) _=act;simp only [Act.put,sA,sC,sZ] at hact;subst hact;go_wp2
 go_loop [3,4] (fun mv iv=>∃ k:Nat,1≤k∧k≤4∧iv=.int .i64 (k:Int)∧mv=.int .i64 ((p.take k).foldl max (p.getD 0 0))) (fun _ iv=>4-(intOf iv).toNat)
 case atStart=>exact ⟨1,by omega,by omega,rfl,by rw [max_one HP.out]⟩
 case round=>
  obtain ⟨k,hk1,hk,rfl,rfl⟩:=hrel;by_cases hlt:k<4
  ·have r1:(k:Int)<4:=by omega
   have CK:=HC.out k hlt;have SN:=max_snoc HP.out hlt (p.getD 0 0);obtain ⟨m,hm⟩:∃ m,Hid ((p.take k).foldl max (p.getD 0 0)=m):=⟨_,rfl⟩;rw [hm.out] at SN ⊢;have SH:=hZ SN;clear SN;go_upto_region 7 with (fail);refine lbeg (opsOf Tryz.f166 7) ?_;refine lnow 0 (.int .i64 m) (some 18) ?_;refine lnow 1 (.slice (some ⟨b,o,none⟩) 4 c) (some 19) ?_;refine lnow 2 (.int .i64 (k:Int)) (some 20) ?_;refine lix 3 (.pointer (some ⟨b,o+k,none⟩)) (some 21) 197 19 20 (run_at_ints b o 4 c k hlt _) ?_;refine lcl 4 (.int .i64 (p.getD k 0)) (some 22) 3 21 b (o+k) CK Tryz.underlying3 ?_;refine lnowP 5 (.int .i64 (max m (p.getD k 0))) (some 23) (exec_max #[3,3] 3 m (p.getD k 0) (by kernel_rfl)) ?_;refine lnow 6 (.int .i64 (max m (p.getD k 0))) (some 3) ?_;refine ldn 7 ?_;clear CK;rw [← SH.out];generalize hact:Act.put _ (some 3) _=act;simp only [Act.put,sA,sC,sZ] at hact;subst hact;go_wp2
   go_round
   case rel=>exact ⟨k+1,by omega,by omega,by go_num,rfl⟩
   case measure=>simp [intOf];omega
  ·have r1:¬ (k:Int)<4:=by omega
   obtain rfl:k=4:=(by omega);have E:Hid (p.take 4=p):=List.take_of_length_le (by have:=HP.out;omega);rw [E.out];go_wp2;go_ret;exact ⟨rfl,rfl⟩
theorem infoStr:(Tryz.prog.info? 9).map (fun i=>(i.zero,i.size,i.bytes))=some (some (strW []),1,16):=by kernel_rfl
theorem run_build_strW1 (s:List UInt8) (w:World):(Instr.buildSlice 62 1 #[(0,strW s)]).run Tryz.prog w=.ok (.slice (some ⟨w.heap.size,0,none⟩) 1 1) (w.alloc (.cells [strW s].toArray 9)):=by kernel_rfl
def OwnS (w:World) (q:Nat) (v:Value) (ps:List (List UInt8)):Prop:=w.ownsRow q 9 1 v ps.length (ps.map strW)
theorem OwnS.below {w w':World} {q:Nat} {v:Value} {ps:List (List UInt8)} (h:OwnS w q v ps) (hb:Below w.heap.size w w'):OwnS w' q v ps:=own_step (F:=[]) (F':=[]) h (Step.of_below hb (Nat.le_refl _)) (fun g _=>by simp)
theorem partsUp_len (l:Lv) (top:Int):∀ k,(partsUp l top k).length≤k+1
 |0=>by rw [partsUp];split<;>simp
 |k+1=>by
  have:=partsUp_len l top k;rw [partsUp]
  split
  ·omega
  ·rw [List.length_append];simp;omega
theorem join_le (xs:List (List UInt8)) (h:∀ x∈xs,x.length≤50):(Lib.join xs [32,124,32]).length≤53*xs.length:=by
 cases xs with
 |nil=>rw [Lib.join_nil];simp
 |cons x r=>
  rw [Lib.join_length];have key:∀ ys:List (List UInt8),(∀ y∈ys,y.length≤50)→Lib.lens ys≤50*ys.length:=fun ys=>by
   induction ys with
   |nil=>intro _;simp [Lib.lens]
   |cons y ys ih=>
    intro hy;have h1:=ih (fun z hz=>hy z (by simp [hz]))
    have h2:=hy y (by simp);simp only [Lib.lens,List.map_cons,List.sum_cons,List.length_cons] at h1 ⊢;omega
  have h1:=key (x::r) h;simp only [List.length_cons,List.length_nil] at h1 ⊢;omega
theorem parts_len {l:Lv} (hl:l.p.length=4) (h:rightL l=true):∀ x∈partsL l,x.length≤50:=by
 intro x hx;have hb:=right_b h;rcases (part_mem l _ (fun i hi=>(right_at h (by omega)).1) hb.1 4 (Nat.le_refl _) x).1 hx with ⟨_,rfl⟩|⟨i,hi,hp,rfl⟩
 ·have:=itoa_le (n:=l.b) hb.1 (by omega)
  omega
 ·have:=right_at h (i:=i) (by omega)
  have:=partT_len (i:=i) (by omega) (p:=l.p.getD i 0) (by omega) (by omega);omega
theorem TabW.grown {w w':World} {v:Option Nat} (h:TabW w) (hg:w.grownBy w' v) (hv:v≠some 0):TabW w':=by
 have hlt:0<w.heap.size:=by
  have:=h.cell gPow 0 (by decide);exact block_lt_of_cell this
 unfold TabW Lib.TabIs at h ⊢;rw [← h];unfold World.var?;rw [gPow];simp only [Option.bind];rw [hg.block 0 hlt (fun e=>hv e.symm)]
set_option maxHeartbeats 4000000 in
theorem string_walk (l:Lv) (hl:l.p.length=4) (w:World) (hT:TabW w):Calls Tryz.prog 154 #[.agg (ints .i64 l.zs).toArray] w fun e w'=>e=.returned (strW (textL l))∧Below w.heap.size w w':=by
 obtain ⟨q,hq⟩:∃ q,Hid (w.heap.size=q):=⟨_,rfl⟩;have HL:=hZ hl;have HT:=hZ hT;rw [hq.out];clear hl hT
 go_enter Tryz.func154,Tryz.ntmps154
 go_upto_region 0 with (fail);refine lbeg (opsOf Tryz.f154 0) ?_;refine lbox 0 80 (.tmp 0) (ints .i64 l.zs) (q) (some 1) hq ?_;intro w1 b1 be1 hs1;refine lnow 1 (strW []) (some 2) ?_;refine ldn 2 ?_;have B1:=hZ b1;have BE1:=hZ be1;have T1:Hid (TabW w1):=HT.out.below (by rw [hq.out];exact be1);clear b1 be1 hs1;generalize hact:Act.put _ (some 2) _=act;simp only [Act.put,sA,sC,sZ] at hact;subst hact;go_upto_region 1 with (fail);refine lbeg (opsOf Tryz.f154 1) ?_;refine lin_load 0 80 (.tmp 1) (q) _ (ints .i64 l.zs) (some 6) (by kernel_rfl) (by kernel_rfl) (by kernel_rfl) (by kernel_rfl) B1.out _ Tryz.underlying80 rfl (lvSize HL.out) ?_;refine lcal 1 76 #[.agg (ints .i64 l.zs).toArray] (some 7) _ (right_walk l HL.out _) ?_;rintro e w2 ⟨rfl,hb2⟩;obtain ⟨rb,hrb⟩:∃ x,Hid (rightL l=x):=⟨_,rfl⟩;rw [hrb.out];refine ⟨_,rfl,?_⟩;refine lnow 2 (.bool (!rb)) (some 8) ?_;refine ldn 3 ?_;have BE2:Hid (Below q w w2):=BE1.out.trans (hb2.mono (Nat.le_of_lt B1.out.lt));have T2:=hZ (T1.out.below hb2);have B2:=hZ (B1.out.below hb2 B1.out.lt);clear hb2 B1 BE1 T1;generalize hact:Act.put _ (some 8) _=act;simp only [Act.put,sA,sC,sZ] at hact;subst hact;cases rb with
 |false=>
  have NO:Hid (textL l=[]):=(by rw [Hid,textL,hrb.out];rfl);go_wp2;go_ret;exact ⟨by rw [NO.out];rfl,BE2.out⟩
 |true=>
  have YES:Hid (textL l=Lib.join (partsL l) [32,124,32]):=(by rw [Hid,textL,hrb.out];rfl);have RB:Hid (0≤l.b∧l.b≤100):=right_b hrb.out;have RP:Hid (∀ i,i<4→-1≤l.p.getD i 0∧l.p.getD i 0≤l.b):=fun i hi=>right_at hrb.out (by rw [HL.out];exact hi)
  go_upto_region 4 with (fail);refine region_begin (opsOf Tryz.f154 4) (fun w=>Blk w q 80 (ints .i64 l.zs)) (by kernel_rfl) (by kernel_rfl) 6 (by kernel_rfl) ?_;intro Q' hQN hN;have X:Blk w2.drew q 80 (ints .i64 l.zs):=B2.out.drew;have BE3:Hid (Below q w w2.drew):=BE2.out.drew;have T3:Hid (TabW w2.drew):=T2.out.below (Below.refl _ _).drew;generalize w2.drew=w3 at X BE3 T3 ⊢;clear B2 BE2 T2;refine reg_now 0 (.pointer (some ⟨q,0,none⟩)) (some 9) hQN X (by kernel_rfl) (by kernel_rfl) (fun w=>by kernel_rfl) ?_;refine reg_nowIf 1 (.int .i64 l.b) (some 10) hQN X (by kernel_rfl) (by kernel_rfl) (fun w hw=>exec_load_cell 3 (.tmp 9) (by kernel_rfl) q 0 (by kernel_rfl) _ (Blk.base hw) _ Tryz.underlying3 rfl) ?_;refine reg_now 2 (.pointer (some ⟨q,1,none⟩)) (some 11) hQN X (by kernel_rfl) (by kernel_rfl) (fun w=>by kernel_rfl) ?_;refine reg_now 3 (.slice (some ⟨q,1,none⟩) 4 4) (some 12) hQN X (by kernel_rfl) (by kernel_rfl) (fun w=>by kernel_rfl) ?_;refine reg_call 4 166 #[.slice (some ⟨q,1,none⟩) 4 4] (some 13) _ (by kernel_rfl) (by kernel_rfl) (by kernel_rfl) (smax_walk l.p HL.out q 1 4 _ (fun k hk=>plus_cell X HL.out hk)) ?_;rintro e w' ⟨rfl,rfl⟩;obtain ⟨tp,htp⟩:∃ x,Hid (topL l=x):=⟨_,rfl⟩;rw [show l.p.foldl max (l.p.getD 0 0)=tp from htp.out];refine ⟨_,rfl,X,?_⟩;refine reg_now 5 (.bool (decide (tp<l.b))) (some 14) hQN X (by kernel_rfl) (by kernel_rfl) (fun w=>by kernel_rfl) ?_;refine reg_done (by kernel_rfl) (hN _ _ ?_)
  have B3:=hZ X;clear X hQN hN;generalize hact:Act.put _ (some 14) _=act;simp only [Act.put,sA,sC,sZ] at hact;subst hact;have SQ3:Hid (q+1≤w3.heap.size):=B3.out.lt;have key:∀ (K':Act→World→Prop) (a0:Act),True:=fun _ _=>trivial
  clear key;by_cases htl:tp<l.b
  ·rw [decide_eq_true htl]
   go_upto_region 5 with (fail);refine lbeg (opsOf Tryz.f154 5) ?_;refine lnow 0 (.slice none 0 0) (some 15) ?_;refine lnow 1 (.pointer (some ⟨q,0,none⟩)) (some 16) ?_;refine lcl 2 (.int .i64 l.b) (some 17) 3 16 q 0 B3.out.base Tryz.underlying3 ?_;refine lcal 3 63 #[.int .i64 l.b] (some 18) _ (itoa_walk l.b RB.out.1 (by have:=RB.out;omega) _ T3.out) ?_;rintro e w5 ⟨rfl,hb5⟩;refine ⟨_,rfl,?_⟩;obtain ⟨s,hs⟩:∃ s,Hid (w5.heap.size=s):=⟨_,rfl⟩;have OWN:OwnS w5 (q+1) (.slice none 0 0) []:=⟨rfl,.inl ⟨rfl,rfl⟩⟩;have SQ:Hid (q+1≤w5.heap.size):=Nat.le_trans SQ3.out hb5.size;have PLX:Hid (([]:List (List UInt8)).length=0):=rfl;refine lin_row 4 9 [strW (Lib.itoa l.b)] s 1 (some 19) (by kernel_rfl) (by kernel_rfl) hs (exec_of (Instr.buildSlice 62 1 #[(0,strW (Lib.itoa l.b))]) _ (by kernel_rfl) (run_build_strW1 _ _)) ?_;intro w6 b6 be6 hs6;have be6':Below w5.heap.size w5 w6:=(by rw [hs.out];exact be6);obtain ⟨i0,hi0,hz0,hz1,hz2⟩:=info_parts infoStr;have ho:=OWN.below be6';have hon:w6.ownsRow (q+1) 9 1 (.slice none 0 0) 0 (([]:List (List UInt8)).map strW):=by have:=ho;unfold OwnS at this;rw [PLX.out] at this;exact this
   obtain ⟨g,cap,w7,hr7,ho7,hg7,hat7,hlt7⟩:=run_append_lies (P:=Tryz.prog) w6 62 62 (q+1) 9 i0 _ 1 16 Tryz.underlying62 hi0 hz0 hz1 hz2 rfl (by decide) (.slice none 0 0) 0 (([]:List (List UInt8)).map strW) hon ⟨s,0,none⟩ 1 1 [strW (Lib.itoa l.b)] rfl (fun j u hj=>by rw [Addr.add_mid];exact b6.whole j u hj) (fun u hu=>by obtain rfl:u=strW (Lib.itoa l.b):=(by simpa using hu);rfl) (by omega) (by unfold maxLen;omega) (by omega) (Nat.le_trans SQ.out be6'.size) _ rfl
   refine lin_value 5 (.slice (some ⟨g,0,none⟩) (0+1) cap) (some 20) w7 (by kernel_rfl) (by kernel_rfl) (exec_of (Builtin.append_ #[62,62] 62 #[.slice none 0 0,.slice (some ⟨s,0,none⟩) 1 1]) _ (by kernel_rfl) hr7) ?_;refine lnow 6 (.slice (some ⟨g,0,none⟩) (0+1) cap) (some 3) ?_;refine ldn 7 ?_;have h37:Below w3.heap.size w3 w7:=(hb5.trans (be6'.mono hb5.size)).grown hg7 (Nat.le_trans hb5.size be6'.size) (fun x hx=>by simp [Value.ownBlock] at hx)
   have EP:Hid (partsUp l tp 0=[Lib.itoa l.b]):=(by rw [Hid,partsUp,if_pos htl]);have P0:Hid (OwnS w7 (q+1) (.slice (some ⟨g,0,none⟩) (0+1) cap) (partsUp l tp 0)):=(by rw [Hid,EP.out];exact ho7);have PL0:Hid ((partsUp l tp 0).length=0+1):=(by rw [Hid,EP.out];rfl);have B7:Hid (Blk w7 q 80 (ints .i64 l.zs)):=B3.out.below h37 B3.out.lt;have BE7:Hid (Below q w w7):=BE3.out.trans (h37.mono (Nat.le_of_lt B3.out.lt));have T7:=hZ (T3.out.below h37);have SQ7:Hid (q+1≤w7.heap.size):=Nat.le_trans SQ3.out h37.size;obtain ⟨pa,hpa⟩:∃ x:Option Addr,Hid (some ⟨g,0,none⟩=x):=⟨_,rfl⟩;rw [hpa.out] at P0 ⊢;clear h37 hr7 ho7 hg7 hat7 hlt7 ho hon OWN SQ PLX b6 be6 be6' hs6 hb5 hs hi0 hz0 hz1 hz2 B3 BE3 T3 SQ3 EP hpa;generalize hact:Act.put _ (some 3) _=act;simp only [Act.put,sA,sC,sZ] at hact;subst hact;go_upto_region 6 with (fail);refine lbeg (opsOf Tryz.f154 6) ?_;refine lnow 0 (.pointer (some ⟨q,1,none⟩)) (some 21) ?_;refine lrl 1 (ints .i64 l.p) (some 22) 78 21 q 1 B7.out.plus Tryz.underlying78 (p4Size HL.out) ?_;refine lnow 2 (.int .i64 0) (some 23) ?_;refine ldq 3 ?_;go_wp2
   go_loopw [3,23] (fun pv iv wr=>∃ (k n:Nat) (pa:Option Addr) (pc:Nat),k≤4∧iv=.int .i64 (k:Int)∧pv=.slice pa n pc∧Hid (OwnS wr (q+1) (.slice pa n pc) (partsUp l tp k))∧Hid ((partsUp l tp k).length=n)∧Hid (Below q w wr)∧Hid (TabW wr)∧Hid (q+1≤wr.heap.size)) (fun _ iv _=>4-(intOf iv).toNat)
   case atStart=>exact ⟨0,(0+1),_,_,Nat.zero_le _,rfl,rfl,P0,PL0,BE7,T7,SQ7⟩
   case round=>
    obtain ⟨k,n,pa,pc,hk,rfl,rfl,PO,PL,BE,TT,SQ⟩:=hrel;have n5:n≤k+1:=(by rw [← PL.out];exact partsUp_len l tp k);by_cases hlt:k<4
    ·have r1:(k:Int)<4:=by omega
     go_upto_region 8 with (fail);refine lbeg (opsOf Tryz.f154 8) ?_;refine lnow 0 (.int .i64 (k:Int)) (some 25) ?_;refine lnowP 1 (.int .i64 (l.p.getD k 0)) (some 26) (exec_index 78 3 (.tmp 22) (.tmp 23) (by kernel_rfl) 4 .i64 Tryz.underlying78 Tryz.underlying3 (by kernel_rfl) l.p HL.out (by kernel_rfl) k (by kernel_rfl) hlt) ?_;refine lnow 2 (.int .i64 (k:Int)) (some 4) ?_;refine lnow 3 (.int .i64 (l.p.getD k 0)) (some 5) ?_;refine ldq 4 ?_;have RK:=RP.out k hlt;obtain ⟨x,hx⟩:∃ x,Hid (l.p.getD k 0=x):=⟨_,rfl⟩;rw [hx.out] at RK ⊢;have x100:x≤100:=(by have:=RB.out;omega);by_cases h2:x=-1
     ·have E:Hid (partsUp l tp (k+1)=partsUp l tp k):=by rw [Hid,partsUp,hx.out,if_pos h2]
      subst h2;go_wp2;go_roundw
      case rel=>exact ⟨k+1,n,pa,pc,by omega,by go_num,rfl,by rw [E.out];exact PO,by rw [E.out];exact PL,BE,TT,SQ⟩
      case measure=>simp [intOf];omega
     ·have E:Hid (partsUp l tp (k+1)=partsUp l tp k++[partT k x]):=by rw [Hid,partsUp,hx.out,if_neg h2]
      obtain ⟨ps,hps⟩:∃ x,Hid (partsUp l tp k=x):=⟨_,rfl⟩;rw [hps.out] at PO PL E;go_upto_region 10 with (fail);refine lbeg (opsOf Tryz.f154 10) ?_;refine lnow 0 (.slice pa n pc) (some 29) ?_;refine lnow 1 (.int .i64 (k:Int)) (some 30) ?_;refine lnow 2 (.int .i64 x) (some 31) ?_;refine lcal 3 167 #[.int .i64 (k:Int),.int .i64 x] (some 32) _ (ptext_walk k (by omega) x (by omega) x100 _ TT.out) ?_;rintro e w5 ⟨rfl,hb5⟩;refine ⟨_,rfl,?_⟩;obtain ⟨s,hs⟩:∃ s,Hid (w5.heap.size=s):=⟨_,rfl⟩;have OWN:=PO.out.below hb5;have SQ5:Hid (q+1≤w5.heap.size):=Nat.le_trans SQ.out hb5.size;refine lin_row 4 9 [strW (partT k x)] s 1 (some 33) (by kernel_rfl) (by kernel_rfl) hs (exec_of (Instr.buildSlice 62 1 #[(0,strW (partT k x))]) _ (by kernel_rfl) (run_build_strW1 _ _)) ?_;intro w6 b6 be6 hs6;have be6':Below w5.heap.size w5 w6:=(by rw [hs.out];exact be6);obtain ⟨i0,hi0,hz0,hz1,hz2⟩:=info_parts infoStr;have ho:=OWN.below be6';have hon:w6.ownsRow (q+1) 9 1 (.slice pa n pc) n (ps.map strW):=by have:=ho;unfold OwnS at this;rw [PL.out] at this;exact this
      obtain ⟨g,cap,w7,hr7,ho7,hg7,hat7,hlt7⟩:=run_append_lies (P:=Tryz.prog) w6 62 62 (q+1) 9 i0 _ 1 16 Tryz.underlying62 hi0 hz0 hz1 hz2 rfl (by decide) (.slice pa n pc) n (ps.map strW) hon ⟨s,0,none⟩ 1 1 [strW (partT k x)] rfl (fun j u hj=>by rw [Addr.add_mid];exact b6.whole j u hj) (fun u hu=>by obtain rfl:u=strW (partT k x):=(by simpa using hu);rfl) (by omega) (by unfold maxLen;omega) (by omega) (Nat.le_trans SQ5.out be6'.size) _ rfl
      refine lin_value 5 (.slice (some ⟨g,0,none⟩) (n+1) cap) (some 34) w7 (by kernel_rfl) (by kernel_rfl) (exec_of (Builtin.append_ #[62,62] 62 #[.slice pa n pc,.slice (some ⟨s,0,none⟩) 1 1]) _ (by kernel_rfl) hr7) ?_;refine lnow 6 (.slice (some ⟨g,0,none⟩) (n+1) cap) (some 3) ?_;refine ldn 7 ?_;have hQ:∀ x,(Value.slice pa n pc).ownBlock=some x→q+1≤x:=fun x hx=>(hon.lt x hx).1
      have hb7:Below (q+1) wr w7:=((hb5.mono SQ.out).trans (be6'.mono SQ5.out)).grown hg7 (Nat.le_trans SQ5.out be6'.size) hQ;have P7:Hid (OwnS w7 (q+1) (.slice (some ⟨g,0,none⟩) (n+1) cap) (partsUp l tp (k+1))):=(by rw [Hid,E.out];unfold OwnS;rw [List.length_append,PL.out,List.map_append];exact ho7);have PL7:Hid ((partsUp l tp (k+1)).length=n+1):=(by rw [Hid,E.out,List.length_append,PL.out];rfl);have BE7':Hid (Below q w w7):=BE.out.trans (hb7.mono (Nat.le_succ _));have T7':Hid (TabW w7):=by
       have h1:TabW w6:=(TT.out.below hb5).below be6';exact TabW.grown h1 hg7 (fun e=>by have:=hQ _ e;omega)
      have SQ7':Hid (q+1≤w7.heap.size):=Nat.le_trans SQ.out hb7.size;clear hr7 ho7 hg7 hat7 hlt7 ho hon OWN hQ hb7 b6 be6 be6' hs6 hb5 hs hi0 hz0 hz1 hz2 PO PL BE TT SQ SQ5;generalize hact:Act.put _ (some 3) _=act;simp only [Act.put,sA,sC,sZ] at hact;subst hact;go_wp2;go_roundw
      case rel=>exact ⟨k+1,n+1,_,cap,by omega,by go_num,rfl,P7,PL7,BE7',T7',SQ7'⟩
      case measure=>simp [intOf];omega
    ·have r1:¬ (k:Int)<4:=by omega
     obtain rfl:k=4:=(by omega);have EL:Hid (partsUp l tp 4=partsL l):=(by rw [Hid,partsL,htp.out]);rw [EL.out] at PO PL;have PN:=parts_some HL.out hrb.out;obtain ⟨g,cap,cur,esl,hg1,hgb,hnc,hcm,hcs,htk⟩:∃ g cap cur,Value.slice pa n pc=.slice (some ⟨g,0,none⟩) n cap∧q+1≤g∧wr.heap[g]?=some (.cells cur 9 (0,0))∧n≤cap∧cap≤maxLen∧cur.size=cap*1∧cur.toList.take (n*1)=(partsL l).map strW:=by
      have h:=PO.out;unfold OwnS at h;rw [PL.out] at h;rcases h.2 with ⟨_,h0⟩|h
      ·exact absurd (List.eq_nil_of_length_eq_zero (PL.out.trans h0)) PN
      ·exact h
     rw [esl];have SJ:=Tryz.strings_Join g 0 cap ((partsL l).map fun s=>⟨s.toArray⟩) ⟨#[32,124,32]⟩ wr (fun j u hj=>by
      have hgb2:Blk wr g 9 cur.toList:=(by unfold Blk;simpa using hgb);have hj1:((partsL l).map strW)[j]?=some (.string u):=by
       rw [List.getElem?_map] at hj ⊢;cases hpj:(partsL l)[j]? with
       |none=>rw [hpj] at hj;cases hj
       |some p=>rw [hpj] at hj;obtain rfl:=Option.some.inj hj;rfl
      rw [Nat.zero_add];refine hgb2.cell ?_;rw [← htk,List.getElem?_take] at hj1
      split at hj1
      ·exact hj1
      ·cases hj1) (Array.getElem?_eq_some_iff.1 hgb).1 (by rw [List.length_map,PL.out];omega) (by rw [List.length_map,PL.out];exact hnc) (by rw [show (((partsL l).map fun s=>(⟨s.toArray⟩:ByteArray)).map (·.data.toList))=partsL l by rw [List.map_map];exact (List.map_congr_left (fun x _=>rfl)).trans (List.map_id _)];have:=join_le (partsL l) (parts_len HL.out hrb.out);have:=PL.out;exact Nat.le_trans (join_le (partsL l) (parts_len HL.out hrb.out)) (by rw [PL.out];omega))
     rw [show (((partsL l).map fun s=>(⟨s.toArray⟩:ByteArray)).map (·.data.toList))=partsL l by rw [List.map_map];exact (List.map_congr_left (fun x _=>rfl)).trans (List.map_id _),List.length_map,PL.out] at SJ
     have SJ':Calls Tryz.prog 156 #[.slice (some ⟨g,0,none⟩) n cap,strW [32,124,32]] wr fun e w'=>e=.returned (strW (textL l))∧Below wr.heap.size wr w':=by rw [YES.out];exact SJ
     clear SJ hgb hcs htk hcm hnc hg1 PN PO PL esl EL;go_upto_region 12 with (fail);refine lbeg (opsOf Tryz.f154 12) ?_;refine lnow 0 (.slice (some ⟨g,0,none⟩) n cap) (some 36) ?_;refine lcal 1 156 #[.slice (some ⟨g,0,none⟩) n cap,strW [32,124,32]] (some 37) _ (SJ') ?_;rintro e w5 ⟨rfl,hb5⟩;have BE5:Hid (Below q w w5):=BE.out.trans (hb5.mono (Nat.le_trans (Nat.le_succ _) SQ.out));clear hb5 SJ';refine ⟨_,rfl,?_⟩;refine lnow 2 (strW (textL l)) (some 2) ?_;refine ldq 3 ?_;go_wp2;go_ret;exact ⟨rfl,BE5.out⟩
  ·rw [decide_eq_false htl]
   have P0:Hid (OwnS w3 (q+1) (.slice none 0 0) (partsUp l tp 0)):=(by rw [Hid,partsUp,if_neg htl];exact ⟨rfl,.inl ⟨rfl,rfl⟩⟩);have PL0:Hid ((partsUp l tp 0).length=0):=(by rw [Hid,partsUp,if_neg htl];rfl);go_upto_region 6 with (fail);refine lbeg (opsOf Tryz.f154 6) ?_;refine lnow 0 (.pointer (some ⟨q,1,none⟩)) (some 21) ?_;refine lrl 1 (ints .i64 l.p) (some 22) 78 21 q 1 B3.out.plus Tryz.underlying78 (p4Size HL.out) ?_;refine lnow 2 (.int .i64 0) (some 23) ?_;refine ldq 3 ?_;go_wp2
   go_loopw [3,23] (fun pv iv wr=>∃ (k n:Nat) (pa:Option Addr) (pc:Nat),k≤4∧iv=.int .i64 (k:Int)∧pv=.slice pa n pc∧Hid (OwnS wr (q+1) (.slice pa n pc) (partsUp l tp k))∧Hid ((partsUp l tp k).length=n)∧Hid (Below q w wr)∧Hid (TabW wr)∧Hid (q+1≤wr.heap.size)) (fun _ iv _=>4-(intOf iv).toNat)
   case atStart=>exact ⟨0,0,_,_,Nat.zero_le _,rfl,rfl,P0,PL0,BE3,T3,SQ3⟩
   case round=>
    obtain ⟨k,n,pa,pc,hk,rfl,rfl,PO,PL,BE,TT,SQ⟩:=hrel;have n5:n≤k+1:=(by rw [← PL.out];exact partsUp_len l tp k);by_cases hlt:k<4
    ·have r1:(k:Int)<4:=by omega
     go_upto_region 8 with (fail);refine lbeg (opsOf Tryz.f154 8) ?_;refine lnow 0 (.int .i64 (k:Int)) (some 25) ?_;refine lnowP 1 (.int .i64 (l.p.getD k 0)) (some 26) (exec_index 78 3 (.tmp 22) (.tmp 23) (by kernel_rfl) 4 .i64 Tryz.underlying78 Tryz.underlying3 (by kernel_rfl) l.p HL.out (by kernel_rfl) k (by kernel_rfl) hlt) ?_;refine lnow 2 (.int .i64 (k:Int)) (some 4) ?_;refine lnow 3 (.int .i64 (l.p.getD k 0)) (some 5) ?_;refine ldq 4 ?_;have RK:=RP.out k hlt;obtain ⟨x,hx⟩:∃ x,Hid (l.p.getD k 0=x):=⟨_,rfl⟩;rw [hx.out] at RK ⊢;have x100:x≤100:=(by have:=RB.out;omega);by_cases h2:x=-1
     ·have E:Hid (partsUp l tp (k+1)=partsUp l tp k):=by rw [Hid,partsUp,hx.out,if_pos h2]
      subst h2;go_wp2;go_roundw
      case rel=>exact ⟨k+1,n,pa,pc,by omega,by go_num,rfl,by rw [E.out];exact PO,by rw [E.out];exact PL,BE,TT,SQ⟩
      case measure=>simp [intOf];omega
     ·have E:Hid (partsUp l tp (k+1)=partsUp l tp k++[partT k x]):=by rw [Hid,partsUp,hx.out,if_neg h2]
      obtain ⟨ps,hps⟩:∃ x,Hid (partsUp l tp k=x):=⟨_,rfl⟩;rw [hps.out] at PO PL E;go_upto_region 10 with (fail);refine lbeg (opsOf Tryz.f154 10) ?_;refine lnow 0 (.slice pa n pc) (some 29) ?_;refine lnow 1 (.int .i64 (k:Int)) (some 30) ?_;refine lnow 2 (.int .i64 x) (some 31) ?_;refine lcal 3 167 #[.int .i64 (k:Int),.int .i64 x] (some 32) _ (ptext_walk k (by omega) x (by omega) x100 _ TT.out) ?_;rintro e w5 ⟨rfl,hb5⟩;refine ⟨_,rfl,?_⟩;obtain ⟨s,hs⟩:∃ s,Hid (w5.heap.size=s):=⟨_,rfl⟩;have OWN:=PO.out.below hb5;have SQ5:Hid (q+1≤w5.heap.size):=Nat.le_trans SQ.out hb5.size;refine lin_row 4 9 [strW (partT k x)] s 1 (some 33) (by kernel_rfl) (by kernel_rfl) hs (exec_of (Instr.buildSlice 62 1 #[(0,strW (partT k x))]) _ (by kernel_rfl) (run_build_strW1 _ _)) ?_;intro w6 b6 be6 hs6;have be6':Below w5.heap.size w5 w6:=(by rw [hs.out];exact be6);obtain ⟨i0,hi0,hz0,hz1,hz2⟩:=info_parts infoStr;have ho:=OWN.below be6';have hon:w6.ownsRow (q+1) 9 1 (.slice pa n pc) n (ps.map strW):=by have:=ho;unfold OwnS at this;rw [PL.out] at this;exact this
      obtain ⟨g,cap,w7,hr7,ho7,hg7,hat7,hlt7⟩:=run_append_lies (P:=Tryz.prog) w6 62 62 (q+1) 9 i0 _ 1 16 Tryz.underlying62 hi0 hz0 hz1 hz2 rfl (by decide) (.slice pa n pc) n (ps.map strW) hon ⟨s,0,none⟩ 1 1 [strW (partT k x)] rfl (fun j u hj=>by rw [Addr.add_mid];exact b6.whole j u hj) (fun u hu=>by obtain rfl:u=strW (partT k x):=(by simpa using hu);rfl) (by omega) (by unfold maxLen;omega) (by omega) (Nat.le_trans SQ5.out be6'.size) _ rfl
      refine lin_value 5 (.slice (some ⟨g,0,none⟩) (n+1) cap) (some 34) w7 (by kernel_rfl) (by kernel_rfl) (exec_of (Builtin.append_ #[62,62] 62 #[.slice pa n pc,.slice (some ⟨s,0,none⟩) 1 1]) _ (by kernel_rfl) hr7) ?_;refine lnow 6 (.slice (some ⟨g,0,none⟩) (n+1) cap) (some 3) ?_;refine ldn 7 ?_;have hQ:∀ x,(Value.slice pa n pc).ownBlock=some x→q+1≤x:=fun x hx=>(hon.lt x hx).1
      have hb7:Below (q+1) wr w7:=((hb5.mono SQ.out).trans (be6'.mono SQ5.out)).grown hg7 (Nat.le_trans SQ5.out be6'.size) hQ;have P7:Hid (OwnS w7 (q+1) (.slice (some ⟨g,0,none⟩) (n+1) cap) (partsUp l tp (k+1))):=(by rw [Hid,E.out];unfold OwnS;rw [List.length_append,PL.out,List.map_append];exact ho7);have PL7:Hid ((partsUp l tp (k+1)).length=n+1):=(by rw [Hid,E.out,List.length_append,PL.out];rfl);have BE7':Hid (Below q w w7):=BE.out.trans (hb7.mono (Nat.le_succ _));have T7':Hid (TabW w7):=by
       have h1:TabW w6:=(TT.out.below hb5).below be6';exact TabW.grown h1 hg7 (fun e=>by have:=hQ _ e;omega)
      have SQ7':Hid (q+1≤w7.heap.size):=Nat.le_trans SQ.out hb7.size;clear hr7 ho7 hg7 hat7 hlt7 ho hon OWN hQ hb7 b6 be6 be6' hs6 hb5 hs hi0 hz0 hz1 hz2 PO PL BE TT SQ SQ5;generalize hact:Act.put _ (some 3) _=act;simp only [Act.put,sA,sC,sZ] at hact;subst hact;go_wp2;go_roundw
      case rel=>exact ⟨k+1,n+1,_,cap,by omega,by go_num,rfl,P7,PL7,BE7',T7',SQ7'⟩
      case measure=>simp [intOf];omega
    ·have r1:¬ (k:Int)<4:=by omega
     obtain rfl:k=4:=(by omega);have EL:Hid (partsUp l tp 4=partsL l):=(by rw [Hid,partsL,htp.out]);rw [EL.out] at PO PL;have PN:=parts_some HL.out hrb.out;obtain ⟨g,cap,cur,esl,hg1,hgb,hnc,hcm,hcs,htk⟩:∃ g cap cur,Value.slice pa n pc=.slice (some ⟨g,0,none⟩) n cap∧q+1≤g∧wr.heap[g]?=some (.cells cur 9 (0,0))∧n≤cap∧cap≤maxLen∧cur.size=cap*1∧cur.toList.take (n*1)=(partsL l).map strW:=by
      have h:=PO.out;unfold OwnS at h;rw [PL.out] at h;rcases h.2 with ⟨_,h0⟩|h
      ·exact absurd (List.eq_nil_of_length_eq_zero (PL.out.trans h0)) PN
      ·exact h
     rw [esl];have SJ:=Tryz.strings_Join g 0 cap ((partsL l).map fun s=>⟨s.toArray⟩) ⟨#[32,124,32]⟩ wr (fun j u hj=>by
      have hgb2:Blk wr g 9 cur.toList:=(by unfold Blk;simpa using hgb);have hj1:((partsL l).map strW)[j]?=some (.string u):=by
       rw [List.getElem?_map] at hj ⊢;cases hpj:(partsL l)[j]? with
       |none=>rw [hpj] at hj;cases hj
       |some p=>rw [hpj] at hj;obtain rfl:=Option.some.inj hj;rfl
      rw [Nat.zero_add];refine hgb2.cell ?_;rw [← htk,List.getElem?_take] at hj1
      split at hj1
      ·exact hj1
      ·cases hj1) (Array.getElem?_eq_some_iff.1 hgb).1 (by rw [List.length_map,PL.out];omega) (by rw [List.length_map,PL.out];exact hnc) (by rw [show (((partsL l).map fun s=>(⟨s.toArray⟩:ByteArray)).map (·.data.toList))=partsL l by rw [List.map_map];exact (List.map_congr_left (fun x _=>rfl)).trans (List.map_id _)];have:=join_le (partsL l) (parts_len HL.out hrb.out);have:=PL.out;exact Nat.le_trans (join_le (partsL l) (parts_len HL.out hrb.out)) (by rw [PL.out];omega))
     rw [show (((partsL l).map fun s=>(⟨s.toArray⟩:ByteArray)).map (·.data.toList))=partsL l by rw [List.map_map];exact (List.map_congr_left (fun x _=>rfl)).trans (List.map_id _),List.length_map,PL.out] at SJ
     have SJ':Calls Tryz.prog 156 #[.slice (some ⟨g,0,none⟩) n cap,strW [32,124,32]] wr fun e w'=>e=.returned (strW (textL l))∧Below wr.heap.size wr w':=by rw [YES.out];exact SJ
     clear SJ hgb hcs htk hcm hnc hg1 PN PO PL esl EL;go_upto_region 12 with (fail);refine lbeg (opsOf Tryz.f154 12) ?_;refine lnow 0 (.slice (some ⟨g,0,none⟩) n cap) (some 36) ?_;refine lcal 1 156 #[.slice (some ⟨g,0,none⟩) n cap,strW [32,124,32]] (some 37) _ (SJ') ?_;rintro e w5 ⟨rfl,hb5⟩;have BE5:Hid (Below q w w5):=BE.out.trans (hb5.mono (Nat.le_trans (Nat.le_succ _) SQ.out));clear hb5 SJ';refine ⟨_,rfl,?_⟩;refine lnow 2 (strW (textL l)) (some 2) ?_;refine ldq 3 ?_;go_wp2;go_ret;exact ⟨rfl,BE5.out⟩
end Go.Proofs.YtmceocgddaaohaaGreatDoor
