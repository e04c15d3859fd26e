import Derived.Test.YtmceocgddaaohaaGreatDoorQGenT
import Derived.Test.YtmceocgddaaohaaGreatDoorQShwA
import Derived.Test.YtmceocgddaaohaaGreatDoorQLevS
import Derived.Test.YtmceocgddaaohaaGreatDoorQTrmU
import Derived.Test.YtmceocgddaaohaaGreatDoorShwSh
namespace Go.Proofs.YtmceocgddaaohaaGreatDoor
open Go Go.RowKit
set_option maxRecDepth 100000
def tlT (l:Lv):List UInt8:=if Lib.containsAny (textL l) [43,124]=true then 40::(textL l++[41]) else textL l
def lvsT (ls:List Lv):List UInt8:=if ls.length=0 then [] else 123::(Lib.join (ls.map textL) [44,32]++[125])
theorem mem_joinTail {c:UInt8} {sep:List UInt8}:∀ {r:List (List UInt8)},c∈Lib.joinTail sep r→c∈sep∨∃ x∈r,c∈x
 |[],h=>by simp [Lib.joinTail] at h
 |y::r,h=>by
  have e:Lib.joinTail sep (y::r)=(sep++y)++Lib.joinTail sep r:=(by simp [Lib.joinTail]);rw [e] at h;rcases List.mem_append.1 h with h|h
  ·rcases List.mem_append.1 h with h|h
   ·exact .inl h
   ·exact .inr ⟨y,by simp,h⟩
  ·rcases mem_joinTail h with h|⟨x,hx,hc⟩
   ·exact .inl h
   ·exact .inr ⟨x,by simp [hx],hc⟩
theorem mem_join {c:UInt8} {sep:List UInt8} {r:List (List UInt8)} (h:c∈Lib.join r sep):c∈sep∨∃ x∈r,c∈x:=by
 cases r with
 |nil=>rw [Lib.join_nil] at h;cases h
 |cons y r=>
  rw [Lib.join_cons] at h;rcases List.mem_append.1 h with h|h
  ·exact .inr ⟨y,by simp,h⟩
  ·rcases mem_joinTail h with h|⟨x,hx,hc⟩
   ·exact .inl h
   ·exact .inr ⟨x,by simp [hx],hc⟩
theorem partT_mem {i:Nat} {p:Int} (hp:0≤p):∀ c∈partT i p,(48≤c.toNat∧c.toNat≤57)∨c=117∨c=43:=by
 intro c hc;unfold partT at hc;have hd:∀ c∈Lib.itoa (i:Int),48≤c.toNat∧c.toNat≤57:=itoa_digits (by omega)
 split at hc
 ·rcases List.mem_cons.1 hc with rfl|hc
  ·exact .inr (.inl rfl)
  ·exact .inl (hd c hc)
 ·rcases List.mem_append.1 hc with hc|hc
  ·rcases List.mem_cons.1 hc with rfl|hc
   ·exact .inr (.inl rfl)
   ·exact .inl (hd c hc)
  ·rcases List.mem_cons.1 hc with rfl|hc
   ·exact .inr (.inr rfl)
   ·exact .inl (itoa_digits hp c hc)
theorem textL_ascii {l:Lv} (hl:l.p.length=4):∀ c∈textL l,c.toNat<128:=by
 intro c hc;unfold textL at hc
 split at hc
 ·next h=>
  have hb:=right_b h;rcases mem_join hc with hc|⟨x,hx,hc⟩
  ·simp only [List.mem_cons,List.not_mem_nil,or_false] at hc
   rcases hc with rfl|rfl|rfl<;>decide
  ·rcases (part_mem l _ (fun i hi=>(right_at h (by omega)).1) hb.1 4 (Nat.le_refl _) x).1 hx with ⟨_,rfl⟩|⟨i,hi,hp,rfl⟩
   ·have:=itoa_digits hb.1 c hc
    omega
   ·rcases partT_mem (i:=i) (p:=l.p.getD i 0) (by have:=(right_at h (i:=i) (by omega)).1;omega) c hc with h|rfl|rfl
    ·omega
    ·decide
    ·decide
 ·cases hc
theorem textL_len {l:Lv} (hl:l.p.length=4):(textL l).length≤265:=by
 unfold textL
 split
 ·next h=>
  have h1:=join_le (partsL l) (parts_len hl h);have h2:(partsL l).length≤4+1:=partsUp_len l (topL l) 4;omega
 ·simp
theorem exec_catS {P:Program} {a:Act} {w:World} {op:Oper} (t t2:TypeId) (x y:Operand) (ho:op.op=.binOp .add t x y t2) (xs ys:List UInt8) (ex:a.eval x=sT xs) (ey:a.eval y=sT ys) (hx:xs.length≤100000000000) (hy:ys.length≤100000000000):(execOp a.eval op).run P w=.ok (.value (sT (xs++ys))) w:=by
 have hr:(binOp .add t (sT xs) (sT ys)).run P w=.ok (sT (xs++ys)) w:=by
  have h:=run_string_add_sum (P:=P) w (⟨xs.toArray⟩:ByteArray) ⟨ys.toArray⟩ (by show xs.length+ys.length≤_;omega);rw [ByteArray.mk_append_mk] at h;unfold sT
  simpa [binOp] using h
 unfold execOp;simp only [ho,ex,ey,Sem.run_bind]
 first|rw [hr]|(simp only [eqGuard];simp [hr])
set_option maxHeartbeats 4000000 in
theorem tlT_walk (l:Lv) (hl:l.p.length=4) (w:World) (hT:TabW w):Calls Tryz.prog 133 #[.agg (ints .i64 l.zs).toArray] w fun e w'=>e=.returned (sT (tlT l))∧Below w.heap.size w w':=by
 have HL:=hZ hl;have HT:=hZ hT;obtain ⟨q,hq⟩:∃ q,Hid (w.heap.size=q):=⟨_,rfl⟩;obtain ⟨tx,htx⟩:∃ y,Hid (textL l=y):=⟨_,rfl⟩;have TA:Hid (∀ c∈tx,c.toNat<128):=(by rw [← htx.out];exact textL_ascii hl);have TN:Hid (tx.length≤265):=(by rw [← htx.out];exact textL_len hl);have ET:Hid (tlT l=if Lib.containsAny tx [43,124]=true then 40::(tx++[41]) else tx):=(by rw [Hid,← htx.out];rfl);rw [ET.out];obtain ⟨cb,hcb⟩:∃ y,Hid (Lib.containsAny tx [43,124]=y):=⟨_,rfl⟩;rw [hcb.out];clear ET hl hT
 go_enter Tryz.func133,Tryz.ntmps133
 go_upto_region 0 with (fail);refine lbeg (opsOf Tryz.f133 0) ?_;refine lbox 0 80 (.tmp 0) (ints .i64 l.zs) q (some 1) hq ?_;intro w1 b1 e1 s1;refine lnow 1 (sT []) (some 2) ?_;refine ldq 2 ?_;rw [← hq.out] at e1;have B1:=hZ b1;have T1:=hZ (HT.out.below e1);have BE1:=hZ e1;clear b1 e1 s1 HT;go_upto_region 1 with (fail);refine lbeg (opsOf Tryz.f133 1) ?_;refine lrl 0 (ints .i64 l.zs) (some 4) 80 1 q 0 B1.out.whole Tryz.underlying80 (lvSize HL.out) ?_;refine lcal 1 154 #[.agg (ints .i64 l.zs).toArray] (some 5) _ (string_walk l HL.out w1 T1.out) ?_;rintro e w2 ⟨rfl,hb2⟩;refine ⟨_,rfl,?_⟩;rw [htx.out];have BE2:Hid (Below w.heap.size w w2):=BE1.out.trans (hb2.mono BE1.out.size);clear hb2 BE1 T1 B1;refine lnow 2 (sT tx) (some 3) ?_;refine ldq 3 ?_;have CA:=Tryz.strings_ContainsAny_laid ⟨tx.toArray⟩ ⟨#[43,124]⟩ w2 (by show tx.length<_;have:=TN.out;omega) (by decide) (fun j b hb=>TA.out b (List.mem_of_getElem? (by simpa using hb))) (fun j b hb=>by have h9:b∈([43,124]:List UInt8):=List.mem_of_getElem? hb;simp at h9;rcases h9 with rfl|rfl<;>decide)
 rw [show Lib.containsAny (ByteArray.mk tx.toArray).data.toList (ByteArray.mk #[43,124]).data.toList=cb from hcb.out] at CA;go_upto_region 2 with (fail);refine lbeg (opsOf Tryz.f133 2) ?_;refine lnow 0 (sT tx) (some 6) ?_;refine lcal 1 155 #[sT tx,.string ⟨#[43,124]⟩] (some 7) _ (CA) ?_;rintro e w3 ⟨rfl,hb3⟩;refine ⟨_,rfl,?_⟩;have BE3:Hid (Below w.heap.size w w3):=BE2.out.trans (hb3.mono BE2.out.size);clear hb3 BE2 CA;refine ldq 2 ?_;cases cb with
 |true=>
  go_upto_region 3 with (fail);refine lbeg (opsOf Tryz.f133 3) ?_;refine lnow 0 (sT tx) (some 8) ?_;refine lnowP 1 (sT ([40]++tx)) (some 9) (exec_catS 9 9 (.const (sT [40])) (.tmp 8) (by kernel_rfl) [40] tx (by kernel_rfl) (by kernel_rfl) (by decide) (by have:=TN.out;omega)) ?_;refine lnowP 2 (sT (([40]++tx)++[41])) (some 10) (exec_catS 9 9 (.tmp 9) (.const (sT [41])) (by kernel_rfl) ([40]++tx) [41] (by kernel_rfl) (by kernel_rfl) (by have:=TN.out;simp;omega) (by decide)) ?_;refine lnow 3 (sT (([40]++tx)++[41])) (some 2) ?_;refine ldq 4 ?_;go_wp2;go_ret;exact ⟨rfl,BE3.out⟩
 |false=>
  go_upto_region 4 with (fail);refine lbeg (opsOf Tryz.f133 4) ?_;refine lnow 0 (sT tx) (some 11) ?_;refine lnow 1 (sT tx) (some 2) ?_;refine ldq 2 ?_;go_wp2;go_ret;exact ⟨rfl,BE3.out⟩
theorem madeStrs (c:Nat):(madeCells (sT []).cells (c*1)).toList=List.replicate c (sT []):=by
 rw [Nat.mul_one,show (sT []).cells=#[sT []] from rfl,toList_madeCells_one]
theorem lin_makes {ops : Array Oper} {Q : Exit → Act → World → Prop} {a : Act} {w : World} (i : Nat) (l c q : Nat) (kl kc : IntKind) (d : Option Tmp) (hi : (ops[i]?.isSome && Region.wanted (opAt ops i) (yielded ops a.tmps)) = true) (hd : (opAt ops i).dst = d)
    (he:execOp a.eval (opAt ops i)=(Instr.makeSlice 62 (.int kl (l:Int)) (.int kc (c:Int)) >>= fun x=>pure (.value x))) (hlc:l≤c) (hc:c≤1000000) (hq:Hid (w.heap.size=q))
    (h:∀ w',Blk w' q 9 (List.replicate c (sT []))→Below q w w'→Hid (w'.heap.size=q+1)→wpFrom Tryz.prog ops Q (i+1) (a.put d (.slice (some ⟨q,0,none⟩) l c)) w'):wpFrom Tryz.prog ops Q i a w:=by
 obtain ⟨i0,hi0,hz0,hz1,hz2⟩:=info_parts infoStr1;obtain rfl:=hq.out;have hr:=run_make w 62 9 i0 (strT []) elemStrs1 hi0 hz0 kl kc (l:Int) (c:Int) (by omega) (by omega) (by rw [hz2];omega) (by omega);rw [Int.toNat_natCast,Int.toNat_natCast,hz1] at hr;refine lin_value i _ d _ hi hd (exec_of _ _ he hr) (h _ (Blk.new2 _ _ _ _ _ rfl ?_) ((Below.refl _ _).alloc (Nat.le_refl _) _) (by unfold Hid;simp));rw [← madeStrs]
 rfl
theorem set_rep (xs:List (List UInt8)) (N i:Nat) (s:List UInt8) (h:xs[i]?=some s) (hi:i<N):((xs.take i).map sT++List.replicate (N-i) (sT [])).set i (sT s)=(xs.take (i+1)).map sT++List.replicate (N-(i+1)) (sT []):=by
 have hx:i<xs.length:=(List.getElem?_eq_some_iff.1 h).1;rw [take_snoc h,List.map_append,List.set_append_right _ _ (by rw [List.length_map,List.length_take];omega),List.length_map,List.length_take,Nat.min_eq_left (by omega),Nat.sub_self,show N-i=(N-(i+1))+1 by omega,List.replicate_succ,List.set_cons_zero,List.append_assoc]
 rfl
theorem join_bytes (xs:List (List UInt8)):Lib.join ((xs.map fun s=>(⟨s.toArray⟩:ByteArray)).map (·.data.toList)) (ByteArray.mk #[44,32]).data.toList=Lib.join xs [44,32]:=by
 rw [List.map_map]
 congr 1
 induction xs with
 |nil=>rfl
 |cons x xs ih=>rw [List.map_cons,ih];simp
theorem joinC_le (xs:List (List UInt8)) (h:∀ x∈xs,x.length≤265):(Lib.join xs [44,32]).length≤267*xs.length:=by
 cases xs with
 |nil=>rw [Lib.join_nil];simp
 |cons x r=>
  rw [Lib.join_length];have key:∀ ys:List (List UInt8),(∀ y∈ys,y.length≤265)→Lib.lens ys≤265*ys.length:=fun ys=>by
   induction ys with
   |nil=>intro _;simp [Lib.lens]
   |cons y ys ih=>
    intro hy;have h1:=ih (fun z hz=>hy z (by simp [hz]))
    have h2:=hy y (by simp);simp only [Lib.lens,List.map_cons,List.sum_cons,List.length_cons] at h1 ⊢;omega
  have h1:=key (x::r) h;simp only [List.length_cons,List.length_nil] at h1 ⊢;omega
theorem lvsin_get {w:World} {a:Option Addr} {n c i:Nat} {ls:List Lv} {l:Lv} (h:LvsIn w (.slice a n c) ls) (hn:ls.length=n) (hi:i<n) (hl:ls[i]?=some l):∃ pb po,a=some ⟨pb,po,none⟩∧w.rangeAt pb (po+5*i) (ints .i64 l.zs)∧l.p.length=4:=by
 obtain ⟨a',cap,h1,h2,h3,h4,h5⟩:=h;obtain ⟨rfl,-,rfl⟩:=Value.slice.inj h1;obtain ⟨pb,po,e,hb,hr⟩:=h5 (by omega);exact ⟨pb,po,e,hr i l hl,h4 l (List.mem_of_getElem? hl)⟩
theorem lvsin_upd {w w':World} {pb po n c q:Nat} {ls:List Lv} (h:LvsIn w (.slice (some ⟨pb,po,none⟩) n c) ls) (hu:Upd q w w') (hq:pb≠q):LvsIn w' (.slice (some ⟨pb,po,none⟩) n c) ls:=by
 obtain ⟨a',cap,h1,h2,h3,h4,h5⟩:=h;refine ⟨a',cap,h1,h2,h3,h4,fun hp=>?_⟩
 obtain ⟨pb2,po2,e,hb,hr⟩:=h5 hp;obtain ⟨rfl,-,-⟩:=Value.slice.inj h1;obtain ⟨rfl,rfl,-⟩:=Addr.mk.inj (Option.some.inj e);refine ⟨_,_,rfl,Nat.lt_of_lt_of_le hb hu.size,fun i l hi j u hj=>?_⟩
 rw [World.cell?_of_block (w:=w) (a:=⟨pb,po+5*i+j,none⟩) (hu.block pb hb hq)];exact hr i l hi j u hj
theorem reps_str (xs:List (List UInt8)) (i n:Nat):∀ u∈(xs.take i).map sT++List.replicate n (sT []),∃ s,u=sT s:=fun u hu=>by
 rcases List.mem_append.1 hu with hu|hu
 ·obtain ⟨s,-,rfl⟩:=List.mem_map.1 hu
  exact ⟨s,rfl⟩
 ·exact ⟨[],(List.mem_replicate.1 hu).2⟩
theorem lvs_not_str {w:World} {q po n c i:Nat} {ls:List Lv} {cs:List Value} (h:LvsIn w (.slice (some ⟨q,po,none⟩) n c) ls) (hb:Blk w q 9 cs) (hi:i<n) (hn:ls.length=n) (hs:∀ u∈cs,∃ s,u=sT s):False:=by
 obtain ⟨l,hl⟩:∃ l,ls[i]?=some l:=⟨_,List.getElem?_eq_getElem (by omega)⟩;obtain ⟨pb,po2,e,hr,h4⟩:=lvsin_get h hn hi hl;obtain ⟨rfl,rfl,-⟩:=Addr.mk.inj (Option.some.inj e);have h0:=hr 0 (.int .i64 l.b) rfl;rw [cell_of_row w q (po+5*i+0) cs.toArray 9 (0,0) hb] at h0;have h1:=List.mem_of_getElem? (by simpa using h0:cs[po+5*i+0]?=some (.int .i64 l.b));obtain ⟨s,hs⟩:=hs _ h1;cases hs
theorem tab_upd {w w':World} {q:Nat} {t:TypeId} {cs:List Value} (h:TabW w) (hu:Upd q w w') (hb:Blk w q t cs) (hs:∀ u∈cs,∃ s,u=sT s):TabW w':=by
 have hc:=h.cell gPow 0 (by decide);have hne:0≠q:=fun e=>by
  subst e;rw [cell_of_row w _ 0 cs.toArray t (0,0) hb] at hc;have h1:=List.mem_of_getElem? (by simpa using hc);obtain ⟨s,hs⟩:=hs _ h1;cases hs
 have hlt:0<w.heap.size:=block_lt_of_cell hc;unfold TabW Lib.TabIs at h ⊢;rw [← h];unfold World.var?;rw [gPow];simp only [Option.bind];rw [hu.block _ hlt hne]
set_option maxHeartbeats 8000000 in
theorem lvsT_walk (ls:List Lv) (v:Value) (w:World) (h:LvsIn w v ls) (hn:ls.length≤4) (hT:TabW w):Calls Tryz.prog 134 #[v] w fun e w'=>e=.returned (sT (lvsT ls))∧Below w.heap.size w w':=by
 obtain ⟨la,lc,hv⟩:∃ la lc,v=.slice la ls.length lc:=(by obtain ⟨a,c,e,-⟩:=h;exact ⟨a,c,e⟩);subst hv;have HI:=hZ h;have HN:=hZ hn;have HT:=hZ hT;obtain ⟨xs,hxs⟩:∃ y,Hid (ls.map textL=y):=⟨_,rfl⟩;obtain ⟨N,hN⟩:∃ y,Hid (ls.length=y):=⟨_,rfl⟩;have EL:Hid (lvsT ls=if N=0 then [] else 123::(Lib.join xs [44,32]++[125])):=(by rw [Hid,← hxs.out,← hN.out];rfl);have XN:Hid (xs.length=N):=(by rw [Hid,← hxs.out,List.length_map];exact hN.out);have XL:Hid (∀ x∈xs,x.length≤265):=fun x hx=>by rw [← hxs.out] at hx;obtain ⟨l,hl,rfl⟩:=List.mem_map.1 hx;obtain ⟨_,_,_,_,_,h5,_⟩:=h;exact textL_len (h5 l hl)
 rw [EL.out];obtain ⟨jn,hjn⟩:∃ y,Hid (Lib.join xs [44,32]=y):=⟨_,rfl⟩;rw [hjn.out];rw [hN.out] at HI HN ⊢;have hn:=HN.out;clear h EL hT;by_cases h0:N=0
 ·subst h0
  rw [if_pos rfl]
  go_enter Tryz.func134,Tryz.ntmps134
  go_upto_region 0 with (fail);refine lbeg (opsOf Tryz.f134 0) ?_;refine lnow 0 (sT []) (some 2) ?_;refine ldq 1 ?_;go_upto_region 1 with (fail);refine lbeg (opsOf Tryz.f134 1) ?_;refine lnow 0 (.slice la 0 lc) (some 6) ?_;refine lnow 1 (.int .i64 0) (some 7) ?_;refine lnow 2 (.bool true) (some 8) ?_;refine ldq 3 ?_;go_upto_region 2 with (fail);refine lbeg (opsOf Tryz.f134 2) ?_;refine lnow 0 (sT []) (some 2) ?_;refine ldq 1 ?_;go_wp2;go_ret;exact ⟨rfl,Below.refl _ _⟩
 rw [if_neg h0]
 go_enter Tryz.func134,Tryz.ntmps134
 go_upto_region 0 with (fail);refine lbeg (opsOf Tryz.f134 0) ?_;refine lnow 0 (sT []) (some 2) ?_;refine ldq 1 ?_;have h0':¬ (N:Int)=0:=(by omega);obtain ⟨q,hq⟩:∃ q,Hid (w.heap.size=q):=⟨_,rfl⟩;go_upto_region 1 with (fail);refine lbeg (opsOf Tryz.f134 1) ?_;refine lnow 0 (.slice la N lc) (some 6) ?_;refine lnow 1 (.int .i64 (N:Int)) (some 7) ?_;refine lnow 2 (.bool (decide ((N:Int)=0))) (some 8) ?_;rw [decide_eq_false h0'];refine ldq 3 ?_;go_upto_region 3 with (fail);refine lbeg (opsOf Tryz.f134 3) ?_;refine lnow 0 (.slice la N lc) (some 9) ?_;refine lnow 1 (.int .i64 (N:Int)) (some 10) ?_;refine lin_makes 2 N N q .i64 .i64 (some 11) (by kernel_rfl) (by kernel_rfl) (by kernel_rfl) (Nat.le_refl _) (by omega) hq ?_;intro w1 b1 e1 s1;refine lnow 3 (.slice (some ⟨q,0,none⟩) N N) (some 3) ?_;refine ldq 4 ?_;have BQ:=hZ b1;have BE:Hid (Below q w w1):=e1;have HI1:Hid (LvsIn w1 (.slice la N lc) ls):=HI.out.below (by rw [hq.out];exact e1:Below w.heap.size w w1) (Nat.le_refl _);have T1:Hid (TabW w1):=HT.out.below (by rw [hq.out];exact e1);clear b1 e1 s1 HI HT;go_upto_region 4 with (fail);refine lbeg (opsOf Tryz.f134 4) ?_;refine lnow 0 (.slice la N lc) (some 12) ?_;refine lnow 1 (.int .i64 (N:Int)) (some 13) ?_;refine lnow 2 (.int .i64 0) (some 14) ?_;refine ldq 3 ?_;go_wp2
 go_loopw [14] (fun iv wr=>∃ i:Nat,i≤N∧iv=.int .i64 (i:Int)∧Hid (Blk wr q 9 ((xs.take i).map sT++List.replicate (N-i) (sT [])))∧Hid (Below q w wr)∧Hid (LvsIn wr (.slice la N lc) ls)∧Hid (TabW wr)) (fun iv _=>N-(intOf iv).toNat)
 case atStart=>exact ⟨0,Nat.zero_le _,rfl,BQ,BE,HI1,T1⟩
 case round=>
  obtain ⟨i,hi,rfl,BI,BW,HW,TW⟩:=hrel;clear BQ BE HI1 T1;have hn:=HN.out;by_cases hlt:i<N
  rotate_left
  ·skip
   obtain rfl:i=N:=(by omega);have ROW:Hid (Blk wr q 9 (xs.map sT)):=(by have:=BI.out;rw [Nat.sub_self,List.replicate_zero,List.append_nil,List.take_of_length_le (by rw [XN.out];exact Nat.le_refl _)] at this;exact this);clear BI HW;go_upto_region 5 with (fail);refine lbeg (opsOf Tryz.f134 5) ?_;refine lnow 0 (.bool (decide ((i:Int)<(i:Int)))) (some 15) ?_;rw [decide_eq_false (by omega:¬ (i:Int)<(i:Int))];refine ldq 1 ?_;have JL:Hid (jn.length≤1100):=by rw [← hjn.out];have:=joinC_le xs XL.out;have:=XN.out;rw [Hid];omega
   skip
   have SJ:=Tryz.strings_Join q 0 i (xs.map fun s=>⟨s.toArray⟩) ⟨#[44,32]⟩ wr (fun j u hj=>by rw [Nat.zero_add];rw [List.getElem?_map] at hj;refine ROW.out.cell ?_;rw [List.getElem?_map];cases hp:xs[j]? with|none=>rw [hp] at hj;cases hj|some p=>rw [hp] at hj;obtain rfl:=Option.some.inj hj;rfl) (ROW.out.lt) (by rw [List.length_map,XN.out];omega) (by rw [List.length_map,XN.out];exact Nat.le_refl _) (by rw [join_bytes,hjn.out];have:=JL.out;omega)
   rw [List.length_map,XN.out,join_bytes,hjn.out] at SJ;go_upto_region 9 with (fail);refine lbeg (opsOf Tryz.f134 9) ?_;refine lnow 0 (.slice (some ⟨q,0,none⟩) i i) (some 25) ?_;refine lcal 1 156 #[.slice (some ⟨q,0,none⟩) i i,.string ⟨#[44,32]⟩] (some 26) _ (SJ) ?_;rintro e w5 ⟨rfl,hb5⟩;refine ⟨_,rfl,?_⟩;have BF:Hid (Below w.heap.size w w5):=(by rw [hq.out];exact BW.out.trans (hb5.mono (Nat.le_of_lt ROW.out.lt)));clear hb5 SJ BW ROW;refine lnowP 2 (sT ([123]++jn)) (some 27) (exec_catS 9 9 (.const (sT [123])) (.tmp 26) (by kernel_rfl) [123] jn (by kernel_rfl) (by kernel_rfl) (by decide) (by have:=JL.out;omega)) ?_;refine lnowP 3 (sT (([123]++jn)++[125])) (some 28) (exec_catS 9 9 (.tmp 27) (.const (sT [125])) (by kernel_rfl) ([123]++jn) [125] (by kernel_rfl) (by kernel_rfl) (by have:=JL.out;simp;omega) (by decide)) ?_;refine lnow 4 (sT (([123]++jn)++[125])) (some 2) ?_;refine ldq 5 ?_;go_wp2;go_ret;exact ⟨rfl,BF.out⟩
  obtain ⟨lv,hlv⟩:∃ y,Hid (ls[i]?=some y):=⟨_,List.getElem?_eq_getElem (by rw [hN.out];exact hlt)⟩;have XS:Hid (xs[i]?=some (textL lv)):=(by rw [Hid,← hxs.out,List.getElem?_map,hlv.out];rfl);obtain ⟨pb,po,hla,hr4,h4⟩:=lvsin_get HW.out hN.out hlt hlv.out;subst hla;have RG:=hZ hr4;have H4:=hZ h4;clear hr4 h4;go_upto_region 5 with (fail);refine lbeg (opsOf Tryz.f134 5) ?_;refine lnow 0 (.bool (decide ((i:Int)<(N:Int)))) (some 15) ?_;rw [decide_eq_true (by omega:(i:Int)<(N:Int))];refine ldq 1 ?_;obtain ⟨z,hz⟩:∃ z,Hid (wr.heap.size=z):=⟨_,rfl⟩;have QZ:Hid (q<z):=(by rw [Hid,← hz.out];exact BI.out.lt);go_upto_region 6 with (fail);refine lbeg (opsOf Tryz.f134 6) ?_;refine lnow 0 (.int .i64 (i:Int)) (some 16) ?_;refine lix 1 (.pointer (some ⟨pb,po+5*i,none⟩)) (some 17) 22 12 14 (run_at_lv pb po N lc i hlt _) ?_;refine lrl 2 (ints .i64 lv.zs) (some 18) 80 17 pb (po+5*i) RG.out Tryz.underlying80 (lvSize H4.out) ?_;refine lin_alloc 3 80 (ints .i64 z5) z (some 5) (by kernel_rfl) (by kernel_rfl) (by kernel_rfl) zeroLv hz ?_;intro w3 b3 e3 s3;refine lnow 4 (.int .i64 (i:Int)) (some 4) ?_;refine lput 5 80 (.tmp 5) (.tmp 18) z _ (ints .i64 z5) (ints .i64 lv.zs) b3 (Lv.zlen H4.out) (lvSize H4.out) (ints_oneCell _ _) ?_;intro w4 b4 u4;refine ldq 6 ?_;have E34:Below z wr w4:=u4.below e3 (Nat.le_refl _) (by have:=b3.lt;omega);rw [← hz.out] at E34;have BZ:=hZ b4;have BI4:=hZ (BI.out.below E34 BI.out.lt)
  have BW4:Hid (Below q w w4):=BW.out.trans (E34.mono (Nat.le_of_lt BI.out.lt));have HW4:Hid (LvsIn w4 (.slice (some ⟨pb,po,none⟩) N lc) ls):=HW.out.below E34 (Nat.le_refl _);have TW4:=hZ (TW.out.below E34);have SQ4:Hid (z<w4.heap.size):=b4.lt;clear b3 e3 s3 b4 u4 E34 BI BW HW TW RG hz;go_upto_region 7 with (fail);refine lbeg (opsOf Tryz.f134 7) ?_;refine lnow 0 (.slice (some ⟨q,0,none⟩) N N) (some 19) ?_;refine lnow 1 (.int .i64 (i:Int)) (some 20) ?_;refine lrl 2 (ints .i64 lv.zs) (some 21) 80 5 z 0 BZ.out.whole Tryz.underlying80 (lvSize H4.out) ?_;refine lcal 3 154 #[.agg (ints .i64 lv.zs).toArray] (some 22) _ (string_walk lv H4.out w4 TW4.out) ?_;rintro e w5 ⟨rfl,hb5⟩;refine ⟨_,rfl,?_⟩;have BI5:=hZ (BI4.out.below hb5 BI4.out.lt);have BW5:Hid (Below q w w5):=BW4.out.trans (hb5.mono (by have:=SQ4.out;have:=QZ.out;omega));have HW5:Hid (LvsIn w5 (.slice (some ⟨pb,po,none⟩) N lc) ls):=HW4.out.below hb5 (Nat.le_refl _);have TW5:=hZ (TW4.out.below hb5);clear hb5 BI4 BW4 HW4 TW4 BZ;refine lix 4 (.pointer (some ⟨q,0+i,none⟩)) (some 23) 62 19 20 (run_at_str q 0 N N i hlt _) ?_;refine lin_putF 5 (0+i) 9 (.tmp 23) (.tmp 22) q 9 ((xs.take i).map sT++List.replicate (N-i) (sT [])) (sT (textL lv)) (by kernel_rfl) (by kernel_rfl) (by kernel_rfl) (by kernel_rfl) (by kernel_rfl) BI5.out (by rw [List.length_append,List.length_map,List.length_take,List.length_replicate];have:=XN.out;omega) (by kernel_rfl) rfl rfl ?_;intro w6 b6 u6
  refine ldq 6 ?_;have BI6:Hid (Blk w6 q 9 ((xs.take (i+1)).map sT++List.replicate (N-(i+1)) (sT []))):=(by rw [Hid,← set_rep xs N i (textL lv) XS.out hlt];rw [Nat.zero_add] at b6;exact b6);have BW6:Hid (Below q w w6):=u6.below BW5.out (Nat.le_refl _) (Nat.le_of_lt BI5.out.lt);have PQ9:Hid (pb≠q):=fun e=>by subst e;exact lvs_not_str HW5.out BI5.out hlt hN.out (reps_str xs i (N-i))
  have HW6:Hid (LvsIn w6 (.slice (some ⟨pb,po,none⟩) N lc) ls):=lvsin_upd HW5.out u6 PQ9.out;have TW6:Hid (TabW w6):=tab_upd TW5.out u6 BI5.out (reps_str xs i (N-i));clear b6 u6 BI5 BW5 HW5 TW5;go_upto_region 8 with (fail);refine lbeg (opsOf Tryz.f134 8) ?_;refine lnow 0 (.int .i64 (IntKind.i64.wrap ((i:Int)+1))) (some 24) ?_;rw [show IntKind.i64.wrap ((i:Int)+1)=((i+1:Nat):Int) from (IntWalk.i64_in _ (by omega)).trans (by omega)];refine lnow 1 (.int .i64 ((i+1:Nat):Int)) (some 14) ?_;refine ldq 2 ?_;go_wp2;go_roundw
  case rel=>exact ⟨i+1,by omega,rfl,BI6,BW6,HW6,TW6⟩
  case measure=>simp [intOf];omega
end Go.Proofs.YtmceocgddaaohaaGreatDoor
