import Derived.Test.YtmceocgddaaohaaGreatDoorQLevS
import Derived.Test.YtmceocgddaaohaaGreatDoorCards
import Derived.Test.YtmceocgddaaohaaGreatDoorTie
import Derived.Lib.LaidTab
import Derived.Test.YtmceocgddaaohaaGreatDoorQTrmC
import Derived.Test.YtmceocgddaaohaaGreatDoorQLevC
namespace Go.Proofs.YtmceocgddaaohaaGreatDoor
open Go.ChangeShapes Go.WideShapes Go.ChangeAt Go.RowKit Go.Deep
set_option maxRecDepth 100000
theorem gPowT:(Tryz.prog.globals[0]?).map (·.type)=some 192:=by kernel_rfl
theorem cellsPowT:Tryz.prog.cellsOf 192=20:=by kernel_rfl
theorem cellsU64:Tryz.prog.cellsOf 171=1:=by kernel_rfl
theorem tab_third {P : Program} {W : World} {name : String} {k : IntKind} {zs : List Int} {x y : String × DataW Unit} {rest : List (String × DataW Unit)} {g : Nat} {t e : TypeId} {n : Nat}
    (hg:P.globalNamed name=some g) (hty:(P.globals[g]?).map (·.type)=some t) (ht:P.underlying t=some (.array n e)) (he:P.underlying e=some (.int k)) (hce:P.cellsOf e=1) (hct:P.cellsOf t=n)
    (h:laidMet P (x::y::(name,Lib.tabData k zs)::rest) W):Lib.TabIs P W name k zs:=by
 obtain ⟨ps,⟨_,_,_,_,_,_,_,_,_,_,⟨_,_,_,_,_,_,_,_,_,_,⟨g',t',cs,fuel,p,q,hg',ht',hvar,hd,_,_⟩,_⟩,_⟩,_⟩:=h;obtain rfl:=Option.some.inj (hg.symm.trans hg');obtain rfl:=Option.some.inj (hty.symm.trans ht');unfold Lib.TabIs;rw [hvar,← Lib.cells_of_tab ht he hce hct hd]
theorem tab_of_laid {W : World} (h : laidMet Tryz.prog [("math/bits.deBruijn32tab", Rows.laid_math_bits_deBruijn32tab), ("math/bits.deBruijn64tab", Rows.laid_math_bits_deBruijn64tab), ("internal/strconv.uint64pow10", Rows.laid_internal_strconv_uint64pow10)] W) : TabW W :=
 tab_third (k := .u64) (zs := Lib.pow10Tab) gPow gPowT Tryz.underlying192 Tryz.underlying171 cellsU64 cellsPowT (show laidMet Tryz.prog (_ :: _ :: ("internal/strconv.uint64pow10", Lib.tabData .u64 Lib.pow10Tab) :: []) W from h)
def litCells:DataW Unit→Array Value
 |.agg ls=>(ls.map fun|.lit l=>l.value|_=>undef).toArray
 |_=>#[]
def layCells (d:DataW Unit):Obj→Obj
 |.cells _ t frozen=>.cells (litCells d) t frozen
 |o=>o
noncomputable def laidWorld (os:Os):World:=
 { World.holding Tryz.prog os ⟨#[],#[],[]⟩ with heap:=(((World.holding Tryz.prog os ⟨#[],#[],[]⟩).heap.modify 2 (layCells Rows.laid_math_bits_deBruijn32tab)).modify 3 (layCells Rows.laid_math_bits_deBruijn64tab)).modify 0 (layCells Rows.laid_internal_strconv_uint64pow10) }
end Go.Proofs.YtmceocgddaaohaaGreatDoor
namespace Go.Proofs.YtmceocgddaaohaaGreatDoor
open Go.ChangeShapes Go.WideShapes Go.ChangeAt Go.RowKit Go.Deep
set_option maxRecDepth 100000
structure TermTy (H:Type) (enc:TypeId × Value→H) (P:Program) (ti tstr tlv tlvs tt tts:TypeId):Prop where
 fs:∃ fs,P.underlying tt=some (.struct fs)∧fs.toList.map (·.type)=[ti,ti,tstr,tlvs,tts]∧fs.toList.map (·.offset)=[0,1,2,3,4]
 i:P.underlying ti=some (.int .i64)
 s:P.underlying tstr=some .string
 ls:P.underlying tlvs=some (.slice tlv)
 ts:P.underlying tts=some (.slice tt)
 ci:P.cellsOf ti=1
 cs:P.cellsOf tstr=1
 cls:P.cellsOf tlvs=1
 cts:P.cellsOf tts=1
 cl:P.cellsOf tlv=5
 ct:P.cellsOf tt=5
 bl:P.bytesOf tlv=40
 bt:P.bytesOf tt=80
 lv:∀ (W:World) (fuel:Nat) (cs:List Value) (x:DataW H × List MemPlace),DataW.trod enc P W 0 (fun _=>true) true fuel tlv cs=some x→∃ l:Lv,cs=ints .i64 l.zs∧l.p.length=4
theorem seg_at {cs:List Value} {o:Nat} {v:Value} (h:(cs.drop o).take 1=[v]):cs[o]?=some v:=by
 have h0:((cs.drop o).take 1)[0]?=some v:=by rw [h];rfl
 simpa [List.getElem?_take,List.getElem?_drop] using h0
theorem five_of {cs:List Value} (h:cs.length=5) {a b c d e:Value} (h0:cs[0]?=some a) (h1:cs[1]?=some b) (h2:cs[2]?=some c) (h3:cs[3]?=some d) (h4:cs[4]?=some e):cs=[a,b,c,d,e]:=by
 match cs,h with
 |[x0,x1,x2,x3,x4],_=>
  simp at h0 h1 h2 h3 h4
  subst h0 h1 h2 h3 h4
  rfl
theorem cells_at {W:World} {a:Addr} {n:Nat} {cs:List Value} (h:W.cells? 0 a n=some cs) (hn:cs.length=n):∀ (j:Nat) (u:Value),cs[j]?=some u→W.cell? (a.add j)=some u:=fun j u hu=>by
 obtain ⟨_,_,hat⟩:=World.cells?_some h;have hj:=(List.getElem?_eq_some_iff.1 hu).1;have h0:=hat j (by omega);rw [h0,hu]
section
variable {H:Type} {enc:TypeId × Value→H} {P:Program} {ti tstr tlv tlvs tt tts:TypeId}
theorem row_five {W : World} {e : TypeId} {x : Addr} {len n : Nat} {D : Nat → DataW H × List MemPlace} (ce : P.cellsOf e = 5) {C : List Value → Prop} (hC : ∀ i cs, i < len → DataW.trod enc P W 0 (fun _ => true) true n e cs = some (D i) → cs.length = 5 ∧ C cs)
    (h:∀ i,i<len→(W.cells? 0 (x.add (i*P.cellsOf e)) (P.cellsOf e)).bind (DataW.trod enc P W 0 (fun _=>true) true n e)=some (D i)) (hp:0<len) :
    x=⟨x.block,x.off,none⟩∧x.block<W.heap.size∧∀ i,i<len→∃ cs,C cs∧W.rangeAt x.block (x.off+5*i) cs:=by
 have each:∀ i,i<len→∃ cs,cs.length=5∧C cs∧∀ (j:Nat) (u:Value),cs[j]?=some u→W.cell? ((x.add (i*5)).add j)=some u:=fun i hi=>by
  have h1:=h i hi;rw [ce] at h1;obtain ⟨cs,h2,h3⟩:=Option.bind_eq_some_iff.1 h1;obtain ⟨h4,h5⟩:=hC i cs hi h3;exact ⟨cs,h4,h5,cells_at h2 h4⟩
 obtain ⟨cs0,l0,-,r0⟩:=each 0 hp;obtain ⟨u0,hu0⟩:∃ u,cs0[0]?=some u:=⟨_,List.getElem?_eq_getElem (by omega)⟩;have hx:x=⟨x.block,x.off,none⟩:=addr_plain (v:=u0) (by have:=r0 0 u0 hu0;rw [add_add] at this;simpa using this);have hb:x.block<W.heap.size:=by
  have:=r0 0 u0 hu0;rw [add_add,hx,Addr.add_mid] at this;exact block_lt_of_cell (a:=⟨x.block,x.off+(0*5+0),none⟩) this
 refine ⟨hx,hb,fun i hi=>?_⟩
 obtain ⟨cs,h1,h2,h3⟩:=each i hi;refine ⟨cs,h2,fun j u hu=>?_⟩
 have:=h3 j u hu;rw [hx,Addr.add_mid,Addr.add_mid] at this;rw [← this,Nat.mul_comm 5 i]
theorem levels_of_trod (T:TermTy H enc P ti tstr tlv tlvs tt tts) {W:World} {fuel:Nat} {v:Value} {x:DataW H × List MemPlace} (h:DataW.trod enc P W 0 (fun _=>true) true fuel tlvs [v]=some x) (hsz:∀ n∈x.1.weights P tlvs,n≤reachBytes):∃ ls,LvsOff [] W v ls∧ls.length*40≤reachBytes:=by
 have hr:reachBytes=140737488351232:=rfl;rcases DataW.trod_slice T.ls h with ⟨e,-⟩|⟨a,len,cap,elems,rest,n,-,e,hxe,-,hl,hm,hlen,hel,-,-⟩
 ·obtain rfl:=(List.cons.inj e).1
  exact ⟨[],LvsOff.nil _ _ _ _,by simp⟩
 ·obtain rfl:=(List.cons.inj e).1
  have hwt:len*40≤reachBytes:=by
   have h0:=hsz ((elems.length+rest.length)*40) (by rw [hxe];simp [DataW.weights,T.ls,T.bl]);have h1:elems.length*40≤(elems.length+rest.length)*40:=Nat.mul_le_mul_right _ (by omega);rw [hlen] at h1;rw [hlen] at h0;omega
  by_cases hp:0<len
  ·have hrow:=row_five (e:=tlv) (x:=a) (len:=len) (n:=n) (D:=fun i=>elems.getD i (.nil,[])) T.cl (C:=fun cs=>∃ l:Lv,cs=ints .i64 l.zs∧l.p.length=4) (fun i cs hi hy=>by
    obtain ⟨l,e1,e2⟩:=T.lv W n cs _ hy;exact ⟨by rw [e1,ints_length];simp [Lv.zs,e2],l,e1,e2⟩) (fun i hi=>by
    rw [hel i hi,List.getD_eq_getElem?_getD,List.getElem?_eq_getElem (by omega)]
    rfl) hp
   obtain ⟨hx,hb,hr⟩:=hrow;have each:∀ i,∃ l:Lv,l.p.length=4∧(i<len→W.rangeAt a.block (a.off+5*i) (ints .i64 l.zs)):=fun i=>by
    by_cases hi:i<len
    ·obtain ⟨cs,⟨l,rfl,h4⟩,hc⟩:=hr i hi
     exact ⟨l,h4,fun _=>hc⟩
    ·exact ⟨zeroL,rfl,fun h=>absurd h hi⟩
   refine ⟨(List.range len).map fun i=>(each i).choose,⟨some a,cap,by simp,by simpa using hl,by simp;unfold maxLen at hm;omega,fun l hl=>?_,fun _=>⟨a.block,a.off,by rw [← hx],by simp,hb,fun i l hi=>?_⟩⟩,by simpa using hwt⟩
   ·obtain ⟨i,-,rfl⟩:=List.mem_map.1 hl
    exact (each i).choose_spec.1
   ·rw [List.getElem?_map,Option.map_eq_some_iff] at hi
    obtain ⟨r,hr1,rfl⟩:=hi;obtain ⟨hj,rfl⟩:i<len∧i=r:=(by simpa using (List.getElem?_eq_some_iff.1 hr1));exact (each i).choose_spec.2 hj
  ·obtain rfl:len=0:=by omega
   exact ⟨[],LvsOff.nil _ _ _ _,by simp⟩
theorem term_of_trod (T:TermTy H enc P ti tstr tlv tlvs tt tts) {W:World}:∀ (fuel:Nat) (cs:List Value) (x:DataW H × List MemPlace),DataW.trod enc P W 0 (fun _=>true) true fuel tt cs=some x→(∀ n∈x.1.weights P tt,n≤reachBytes)→∃ t,TmAt [] W t cs∧SmT t:=by
 intro fuel
 induction fuel using Nat.strongRecOn with
 |ind fuel ih=>
  intro cs x h hsz;obtain ⟨fs,hu,hty,hof⟩:=T.fs;obtain ⟨xs,n,hfu,hxe,hlen,hxl,hf⟩:=DataW.trod_struct hu h;have field:∀ i t o,(fs.toList.map (·.type))[i]?=some t→(fs.toList.map (·.offset))[i]?=some o→DataW.trod enc P W 0 (fun _=>true) true n t ((cs.drop o).take (P.cellsOf t))=xs[i]?:=fun i t o ht ho=>by
   rw [List.getElem?_map,Option.map_eq_some_iff] at ht ho;obtain ⟨f,hf1,rfl⟩:=ht;obtain ⟨f',hf2,rfl⟩:=ho;obtain rfl:f=f':=Option.some.inj (hf1.symm.trans hf2);exact hf i f (by simpa using hf1)
  have h5:xs.length=5:=by rw [hxl,← Array.length_toList,← List.length_map (f:=fun f:Field=>f.type),hty];rfl
  rw [hty,hof] at field;have g0:=field 0 ti 0 rfl rfl;have g1:=field 1 ti 1 rfl rfl;have g2:=field 2 tstr 2 rfl rfl;have g3:=field 3 tlvs 3 rfl rfl;have g4:=field 4 tts 4 rfl rfl;have hws:∀ (i:Nat) (t:TypeId) (y:DataW H × List MemPlace),[ti,ti,tstr,tlvs,tts][i]?=some t→xs[i]?=some y→∀ n∈y.1.weights P t,n≤reachBytes:=fun i t y ht hy n hn=>by
   refine hsz n ?_;rw [hxe];have hm:n∈DataW.weightsEach P [ti,ti,tstr,tlvs,tts] (xs.map (·.1)):=DataW.weights_mem_each (j:=i) (t:=t) (d:=y.1) ht (by rw [List.getElem?_map,hy];rfl) n hn
   simpa [DataW.weights,hu,hty] using hm
  have w2:=hws 2 tstr _ rfl (List.getElem?_eq_getElem (by omega));have w3:=hws 3 tlvs _ rfl (List.getElem?_eq_getElem (by omega));have w4:=hws 4 tts _ rfl (List.getElem?_eq_getElem (by omega));rw [List.getElem?_eq_getElem (by omega)] at g0 g1 g2 g3 g4;rw [T.ci] at g0 g1;rw [T.cs] at g2;rw [T.cls] at g3;rw [T.cts] at g4;rw [T.ct] at hlen;obtain ⟨k,e0,-,-⟩:=DataW.trod_int T.i g0;obtain ⟨m,e1,-,-⟩:=DataW.trod_int T.i g1;obtain ⟨s,e2,e2x,-⟩:=DataW.trod_string T.s g2;have hs2:s.data.toList.length≤reachBytes:=w2 _ (by rw [e2x];simp [DataW.weights]);have one:∀ o,o<5→∃ pv,(cs.drop o).take 1=[pv]:=fun o ho=>by
   have hl:((cs.drop o).take 1).length=1:=by rw [List.length_take,List.length_drop,hlen];omega
   match (cs.drop o).take 1,hl with
   |[v],_=>exact ⟨v,rfl⟩
  obtain ⟨lv,e3⟩:=one 3 (by omega);obtain ⟨av,e4⟩:=one 4 (by omega);rw [e3] at g3;rw [e4] at g4;obtain ⟨ls,hls,hlw⟩:=levels_of_trod T g3 w3;have hargs:∃ ts,TmsAt [] W ts av∧ts.length*80≤reachBytes∧SmTs ts:=by
   rcases DataW.trod_slice T.ts g4 with ⟨e,-⟩|⟨a,len,cap,elems,rest,n',hn',e,hxe4,-,hl,hm,hlen2,hel,-,-⟩
   ·obtain rfl:=(List.cons.inj e).1
    exact ⟨[],TmsAt.nil _ _ _ _,by simp,by simp [SmTs]⟩
   ·obtain rfl:=(List.cons.inj e).1
    have hwt:len*80≤reachBytes:=by
     have hr:reachBytes=140737488351232:=rfl;have h0:=w4 ((elems.length+rest.length)*80) (by rw [hxe4];simp [DataW.weights,T.ts,T.bt]);have h1:elems.length*80≤(elems.length+rest.length)*80:=Nat.mul_le_mul_right _ (by omega);rw [hlen2] at h1;rw [hlen2] at h0;omega
    have hwe:∀ i,i<len→∀ n∈(elems.getD i (.nil,[])).1.weights P tt,n≤reachBytes:=fun i hi n hn=>by
     refine w4 n ?_;rw [hxe4];simp only [DataW.weights,T.ts,List.mem_cons,List.mem_append];exact Or.inr (Or.inl (weights_in (d:=(elems.getD i (.nil,[])).1) (by rw [List.getD_eq_getElem?_getD,List.getElem?_eq_getElem (by omega)];exact List.mem_map.2 ⟨_,List.getElem_mem _,rfl⟩) n hn))
    by_cases hp:0<len
    ·have hrow:=row_five (e:=tt) (x:=a) (len:=len) (n:=n') (D:=fun i=>elems.getD i (.nil,[])) T.ct (C:=fun cs=>∃ t,TmAt [] W t cs∧SmT t) (fun i cs hi hy=>by
      obtain ⟨t,ht,hs⟩:=ih n' (by omega) cs _ hy (hwe i hi);exact ⟨ht.len,t,ht,hs⟩) (fun i hi=>by
      rw [hel i hi,List.getD_eq_getElem?_getD,List.getElem?_eq_getElem (by omega)]
      rfl) hp
     obtain ⟨hx,hb,hr⟩:=hrow;have each:∀ i,∃ t:Tm,i<len→(∃ cs,W.rangeAt a.block (a.off+5*i) cs∧TmAt [] W t cs)∧SmT t:=fun i=>by
      by_cases hi:i<len
      ·obtain ⟨cs,⟨t,ht,hs⟩,hc⟩:=hr i hi
       exact ⟨t,fun _=>⟨⟨cs,hc,ht⟩,hs⟩⟩
      ·exact ⟨.mk 0 0 [] [] [],fun h=>absurd h hi⟩
     refine ⟨(List.range len).map fun i=>(each i).choose,?_,by simpa using hwt,SmTs.of fun t ht=>?_⟩
     rotate_left
     ·obtain ⟨i,hi,rfl⟩:=List.mem_map.1 ht
      exact ((each i).choose_spec (List.mem_range.1 hi)).2
     have hL:((List.range len).map fun i=>(each i).choose).length=len:=by simp
     have:=TmsAt.of (F:=[]) (w:=W) (ts:=(List.range len).map fun i=>(each i).choose) (pb:=a.block) (po:=a.off) (c:=cap) (by rw [hL];exact hl) (by simp) hb (fun i t hi=>by
      rw [List.getElem?_map,Option.map_eq_some_iff] at hi;obtain ⟨r,hr1,rfl⟩:=hi;obtain ⟨hj,rfl⟩:i<len∧i=r:=(by simpa using (List.getElem?_eq_some_iff.1 hr1));exact ((each i).choose_spec hj).1)
     rw [hL,← hx] at this;exact this
    ·obtain rfl:len=0:=by omega
     exact ⟨[],TmsAt.nil _ _ _ _,by simp,by simp [SmTs]⟩
  obtain ⟨ts,hts,hta,htb⟩:=hargs;refine ⟨.mk k m s.data.toList ls ts,?_,by rw [SmT];exact ⟨hs2,hlw,hta,htb⟩⟩;rw [TmAt];exact ⟨lv,av,five_of hlen (seg_at e0) (seg_at e1) (seg_at e2) (seg_at e3) (seg_at e4),hls,hts⟩
end
end Go.Proofs.YtmceocgddaaohaaGreatDoor
namespace Go.Proofs.YtmceocgddaaohaaGreatDoor
open Go.ChangeShapes Go.WideShapes Go.ChangeAt Go.RowKit
set_option maxRecDepth 100000
theorem cellsInt8:Tryz.prog.cellsOf 3=1:=by kernel_rfl
theorem cellsArr8:Tryz.prog.cellsOf 78=4:=by kernel_rfl
theorem cellsLv8:Tryz.prog.cellsOf 80=5:=by kernel_rfl
theorem level_of_trodT {H : Type} {enc : TypeId × Value → H} {W : World} {base : Nat} {spare : Nat → Bool} {held : Bool} {fuel : Nat} {cs : List Value} {x : DataW H × List MemPlace} (h : DataW.trod enc Tryz.prog W base spare held fuel 80 cs = some x) :
    ∃ l:Lv,cs=ints .i64 l.zs∧l.p.length=4:=by
 obtain ⟨y0,y1,n,-,hl,h0,h1⟩:=trod_struct2 Tryz.underlying80 h;have h0':DataW.trod enc Tryz.prog W base spare held n 3 ((cs.drop 0).take (Tryz.prog.cellsOf 3))=some y0:=h0;have h1':DataW.trod enc Tryz.prog W base spare held n 78 ((cs.drop 1).take (Tryz.prog.cellsOf 78))=some y1:=h1;rw [cellsInt8] at h0';rw [cellsArr8] at h1';rw [cellsLv8] at hl;obtain ⟨z,e0,-,-⟩:=DataW.trod_int Tryz.underlying3 h0';obtain ⟨zs,e1,e2,-⟩:=ints_of_array' Tryz.underlying78 Tryz.underlying3 cellsInt8 cellsArr8 h1';refine ⟨⟨z,zs⟩,?_,e2⟩
 match cs,hl with
 |[c0,c1,c2,c3,c4],_=>
  have a0:[c0]=[Value.int .i64 z]:=e0;have a1:[c1,c2,c3,c4]=ints .i64 zs:=e1;show c0::[c1,c2,c3,c4]=_;rw [a1,(List.cons.inj a0).1]
  rfl
theorem termTy {H:Type} {enc:TypeId × Value→H}:TermTy H enc Tryz.prog 3 9 80 22 25 23 where
 fs:=⟨_,Tryz.underlying25,by kernel_rfl,by kernel_rfl⟩
 i:=Tryz.underlying3
 s:=Tryz.underlying9
 ls:=Tryz.underlying22
 ts:=Tryz.underlying23
 ci:=by kernel_rfl
 cs:=by kernel_rfl
 cls:=by kernel_rfl
 cts:=by kernel_rfl
 cl:=by kernel_rfl
 ct:=by kernel_rfl
 bl:=by kernel_rfl
 bt:=by kernel_rfl
 lv:=fun _ _ _ _ h=>level_of_trodT h
theorem open_term {H : Type} {enc : TypeId × Value → H} {W : World} {base : Nat} {v : Value} {d : DataW H} {p : List MemPlace} (hval : Value.okWide Tryz.prog W .any base 25 v)
    (h:DataW.Trod enc Tryz.prog W 0 (fun _=>true) true 25 v d p) (hsz:∀ n∈d.weights Tryz.prog 25,n≤reachBytes):(∃ (t:Tm) (cs:List Value),v=.agg cs.toArray∧TmAt [] W t cs∧SmT t)∧∀ x∈p,x.block<W.heap.size:=by
 obtain ⟨cs,rfl,-⟩:=okWide_struct Tryz.underlying25 hval;obtain ⟨m,hm⟩:=h;refine ⟨?_,DataW.trod_lt m _ _ _ hm⟩;obtain ⟨t,h1,h2⟩:=term_of_trod termTy m _ _ hm hsz;exact ⟨t,cs.toList,by simp,h1,h2⟩
end Go.Proofs.YtmceocgddaaohaaGreatDoor
