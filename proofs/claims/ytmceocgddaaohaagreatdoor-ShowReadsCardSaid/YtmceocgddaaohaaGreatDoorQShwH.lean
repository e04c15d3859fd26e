import Derived.Test.YtmceocgddaaohaaGreatDoorQShwD
import Derived.Test.YtmceocgddaaohaaGreatDoorQGenT
import Derived.Test.YtmceocgddaaohaaGreatDoorQLexH
import Derived.Maps.OwnSet
import Derived.Maps.RangeRun
import Derived.StringKeys
import Derived.Test.YtmceocgddaaohaaGreatDoorQTrmK
import Derived.Test.YtmceocgddaaohaaGreatDoorQShwB
namespace Go.Proofs.YtmceocgddaaohaaGreatDoor
open Go Go.RowKit
set_option maxRecDepth 100000
theorem right_deep {wo:List UInt8→Bool} {p v deep:Int}:∀ {t:Tm},rightT wo p v deep t=true→deep≤200
 |.mk k n s l a,h=>by
  simp only [rightT,headT,Bool.and_eq_true,decide_eq_true_eq] at h;exact h.1.1.1.1.1.1.1.1.2
structure RtN (d:Nat) (k n:Int) (s:List UInt8) (l:List Lv) (a:List Tm):Prop where
 k1:1≤k
 k9:k≤9
 deep:d≤200
 args:a.length=argsOf k
 levels:(k=3→l.length=1)∧(k=4→l.length≤4)∧(¬ k=3→¬ k=4→l.length=0)
 lv:∀ x∈l,rightL x=true
 word:(k=4∨k=9→wordB s=true)∧(¬ (k=4∨k=9)→s=[])
 n0:0≤n
 num:(k=9→n≤31)∧(¬ k=9→¬ k=1→n=0)
 var:k=1→n<d
 parts:rightTs wordB 4 d d k 0 a=true
theorem right_node {d:Nat} {k n:Int} {s:List UInt8} {l:List Lv} {a:List Tm} (h:rightT wordB 4 d d (.mk k n s l a)=true):RtN d k n s l a:=by
 simp only [rightT,headT,Bool.and_eq_true,decide_eq_true_eq,List.all_eq_true,Bool.or_eq_true] at h;obtain ⟨⟨⟨⟨⟨⟨⟨⟨⟨⟨h1,h2⟩,h3⟩,h4⟩,h5⟩,h6⟩,h7⟩,h8⟩,h9⟩,h10⟩,h11⟩:=h;refine ⟨h1,h2,by omega,h4,⟨fun e=>?_,fun e=>?_,fun e e2=>?_⟩,fun x hx=>(h6 x hx).1,⟨fun e=>?_,fun e=>?_⟩,h8,⟨fun e=>?_,fun e e2=>?_⟩,fun e=>?_,h11⟩
 ·rw [if_pos e] at h5;simpa using h5
 ·rw [if_neg (by omega),if_pos e] at h5;simpa using h5
 ·rw [if_neg e,if_neg e2] at h5;simpa using h5
 ·rw [if_pos e] at h7;exact h7
 ·rw [if_neg e] at h7;simpa using h7
 ·rw [if_pos e] at h9;simpa using h9
 ·rw [if_neg e,if_neg e2] at h9;simpa using h9
 ·rcases h10 with h|h
  ·exact absurd e h
  ·omega
theorem tms1 {w:World} {t0:Tm} {v:Value} (h:TmsAt [] w [t0] v):∃ pb po ac c0,v=.slice (some ⟨pb,po,none⟩) 1 ac∧pb<w.heap.size∧w.rangeAt pb (po+5*0) c0∧TmAt [] w t0 c0:=by
 rw [TmsAt] at h;obtain ⟨cap,pb,po,h1,h2,-,h4,h5⟩:=h;rw [TmRow] at h5;obtain ⟨⟨c0,e0,f0⟩,-⟩:=h5;exact ⟨pb,po,cap,c0,h1,h4,e0,f0⟩
theorem tms2 {w:World} {t0 t1:Tm} {v:Value} (h:TmsAt [] w [t0,t1] v):∃ pb po ac c0 c1,v=.slice (some ⟨pb,po,none⟩) 2 ac∧pb<w.heap.size∧w.rangeAt pb (po+5*0) c0∧TmAt [] w t0 c0∧w.rangeAt pb (po+5*1) c1∧TmAt [] w t1 c1:=by
 rw [TmsAt] at h;obtain ⟨cap,pb,po,h1,h2,-,h4,h5⟩:=h;rw [TmRow,TmRow] at h5;obtain ⟨⟨c0,e0,f0⟩,⟨c1,e1,f1⟩,-⟩:=h5;exact ⟨pb,po,cap,c0,c1,h1,h4,e0,f0,e1,f1⟩
theorem tms3 {w:World} {t0 t1 t2:Tm} {v:Value} (h:TmsAt [] w [t0,t1,t2] v):∃ pb po ac c0 c1 c2,v=.slice (some ⟨pb,po,none⟩) 3 ac∧pb<w.heap.size∧w.rangeAt pb (po+5*0) c0∧TmAt [] w t0 c0∧w.rangeAt pb (po+5*1) c1∧TmAt [] w t1 c1∧w.rangeAt pb (po+5*2) c2∧TmAt [] w t2 c2:=by
 rw [TmsAt] at h;obtain ⟨cap,pb,po,h1,h2,-,h4,h5⟩:=h;rw [TmRow,TmRow,TmRow] at h5;obtain ⟨⟨c0,e0,f0⟩,⟨c1,e1,f1⟩,⟨c2,e2,f2⟩,-⟩:=h5;exact ⟨pb,po,cap,c0,c1,c2,h1,h4,e0,f0,e1,f1,e2,f2⟩
theorem lvs1 {w:World} {l:Lv} {v:Value} (h:LvsOff [] w v [l]):∃ pb po lc,v=.slice (some ⟨pb,po,none⟩) 1 lc∧pb<w.heap.size∧w.rangeAt pb (po+5*0) (ints .i64 l.zs)∧l.p.length=4:=by
 obtain ⟨a,cap,h1,-,-,h4,h5⟩:=h;obtain ⟨pb,po,e,-,hb,hr⟩:=h5 (by simp);exact ⟨pb,po,cap,by rw [h1,e];rfl,hb,hr 0 l rfl,h4 l (by simp)⟩
theorem len1 {α:Type} {l:List α} (h:l.length=1):∃ a,l=[a]:=List.length_eq_one_iff.1 h
theorem len2 {α:Type} {l:List α} (h:l.length=2):∃ a b,l=[a,b]:=by
 match l,h with
 |[a,b],_=>exact ⟨a,b,rfl⟩
theorem len3 {α:Type} {l:List α} (h:l.length=3):∃ a b c,l=[a,b,c]:=by
 match l,h with
 |[a,b,c],_=>exact ⟨a,b,c,rfl⟩
section
variable (B:Nat) (w0:World) (b:Nat) (nv:Value) (ns:List (List UInt8))
structure WrAll (t:Tm) (cs:List Value) (d:Nat):Prop where
 term:Writes B w0 b nv ns 48 #[.pointer (some ⟨b,0,none⟩),.agg cs.toArray,.int .i64 (d:Int)] (txT ns d t)
 app:Writes B w0 b nv ns 82 #[.pointer (some ⟨b,0,none⟩),.agg cs.toArray,.int .i64 (d:Int)] (apX t.kind (txT ns d t))
 atom:Writes B w0 b nv ns 105 #[.pointer (some ⟨b,0,none⟩),.agg cs.toArray,.int .i64 (d:Int)] (atX t.kind (txT ns d t))
end
theorem writes_all (B:Nat) (w0:World) (hB:w0.heap.size=B) (hT:TabW w0) (b:Nat) (nv:Value) (ns:List (List UInt8)) (hns:ns.length=200):∀ (t:Tm) (cs:List Value) (d:Nat),TmAt [] w0 t cs→rightT wordB 4 d d t=true→WrAll B w0 b nv ns t cs d:=by
 refine Tm.byParts fun k n s l a ih cs d ht hr=>?_;have C5:=ht.len;obtain ⟨lv,av,hc,hlv,hav⟩:=ht.open;dsimp only [Tm.kind,Tm.n,Tm.name,Tm.levels,Tm.args] at hc hlv hav;obtain ⟨k1,k9,hdeep,hargs,hlevels,hlvr,hword,n0,hnum,hvar,hparts⟩:=right_node hr;clear ht hr;have hkk:k=1∨k=2∨k=3∨k=4∨k=5∨k=6∨k=7∨k=8∨k=9:=by omega
 -- a leaf,once it is written as an atom
 have leaf:(¬ k=5∧¬ k=6∧¬ k=7∧¬ k=8)→Writes B w0 b nv ns 105 #[.pointer (some ⟨b,0,none⟩),.agg cs.toArray,.int .i64 (d:Int)] (txT ns d (.mk k n s l a))→WrAll B w0 b nv ns (.mk k n s l a) cs d:=fun hk hw=>by
  have e1:apX k (txT ns d (.mk k n s l a))=txT ns d (.mk k n s l a):=(by rw [apX,if_neg (by omega)]);have e2:atX k (txT ns d (.mk k n s l a))=txT ns d (.mk k n s l a):=(by rw [atX,if_neg (by omega)]);have h2:=app_atom B w0 b d nv ns cs k _ C5 hc _ hk.1 hw;exact ⟨term_app B w0 b d nv ns cs k _ C5 hc _ ⟨hk.2.1,hk.2.2.1,hk.2.2.2⟩ h2,by show Writes _ _ _ _ _ _ _ (apX k _);rw [e1];exact h2,by show Writes _ _ _ _ _ _ _ (atX k _);rw [e2];exact hw⟩
 have bind:(k=6∨k=7∨k=8)→Writes B w0 b nv ns 48 #[.pointer (some ⟨b,0,none⟩),.agg cs.toArray,.int .i64 (d:Int)] (txT ns d (.mk k n s l a))→WrAll B w0 b nv ns (.mk k n s l a) cs d:=fun hk hw=>by
  have e1:apX k (txT ns d (.mk k n s l a))=[40]++(txT ns d (.mk k n s l a)++[41]):=(by rw [apX,if_pos hk]);have e2:atX k (txT ns d (.mk k n s l a))=[40]++(txT ns d (.mk k n s l a)++[41]):=(by rw [atX,if_pos (.inr hk)]);have h2:=atom_paren B w0 b d nv ns cs k _ C5 hc _ (by omega) hw;exact ⟨hw,by show Writes _ _ _ _ _ _ _ (apX k _);rw [e1];exact app_atom B w0 b d nv ns cs k _ C5 hc _ (by omega) h2,by show Writes _ _ _ _ _ _ _ (atX k _);rw [e2];exact h2⟩
 rcases hkk with rfl|rfl|rfl|rfl|rfl|rfl|rfl|rfl|rfl
 ·-- variable
  have hv:=hvar rfl;refine leaf (by omega) ?_;obtain ⟨v,rfl⟩:∃ v:Nat,n=(v:Int):=⟨n.toNat,by omega⟩;have hi:d-1-v<ns.length:=(by omega);have h:=atom_var B w0 b d v (d-1-v) (by omega) (by omega) nv ns _ hi rfl cs s lv av C5 hc;have e:txT ns d (.mk 1 (v:Int) s l a)=ns.getD (d-1-v) []:=(by rw [txT,ndX,if_pos rfl,Int.toNat_natCast]);rw [e];exact h
 ·refine leaf (by omega) ?_
  have e:txT ns d (.mk 2 n s l a)=[80,114,111,112]:=(by rw [txT,ndX,if_neg (by omega),if_pos rfl]);rw [e];exact atom_prop B w0 b d nv ns cs n s lv av C5 hc
 ·refine leaf (by omega) ?_
  obtain ⟨x,rfl⟩:=len1 (hlevels.1 rfl);obtain ⟨lb,lo,lc,rfl,h1,h2,h3⟩:=lvs1 hlv;have e:txT ns d (.mk 3 n s [x] a)=[84,121,112,101,32]++tlT x:=(by rw [txT,ndX,if_neg (by omega),if_neg (by omega),if_pos rfl];rfl);rw [e];exact atom_type B w0 hB hT b d nv ns cs n s av x lb lo lc h3 h2 (by omega) C5 hc
 ·refine leaf (by omega) ?_
  have e:txT ns d (.mk 4 n s l a)=s++lvsT l:=(by rw [txT,ndX,if_neg (by omega),if_neg (by omega),if_neg (by omega),if_pos rfl]);rw [e];exact atom_const B w0 hB hT b d nv ns cs n s lv av C5 hc l hlv (hlevels.2.1 rfl)
 ·-- application
  obtain ⟨t0,t1,rfl⟩:=len2 (hargs.trans (by decide));obtain ⟨pb,po,ac,c0,c1,rfl,hpb,r0,f0,r1,f1⟩:=tms2 hav;simp only [rightTs,Bool.and_eq_true,show moreT 5 0=0 by decide,show moreT 5 1=0 by decide,Nat.zero_add,Int.add_zero] at hparts;have i0:=ih t0 (by simp) c0 d f0 hparts.1;have i1:=ih t1 (by simp) c1 d f1 hparts.2.1;have e:txT ns d (.mk 5 n s l [t0,t1])=apX t0.kind (txT ns d t0)++([32]++atX t1.kind (txT ns d t1)):=by
   rw [txT,ndX,if_neg (by omega),if_neg (by omega),if_neg (by omega),if_neg (by omega),if_pos rfl]
   rfl
  have h2:=app_app B w0 b d nv ns cs n s lv pb po ac C5 hc (by omega) c0 r0 f0.len _ c1 r1 f1.len _ i0.app i1.atom;rw [← e] at h2;have e1:apX 5 (txT ns d (.mk 5 n s l [t0,t1]))=txT ns d (.mk 5 n s l [t0,t1]):=(by rw [apX,if_neg (by omega)]);have e2:atX 5 (txT ns d (.mk 5 n s l [t0,t1]))=[40]++(txT ns d (.mk 5 n s l [t0,t1])++[41]):=(by rw [atX,if_pos (.inl rfl)]);have h3:=term_app B w0 b d nv ns cs 5 _ C5 hc _ (by omega) h2;exact ⟨h3,by show Writes _ _ _ _ _ _ _ (apX 5 _);rw [e1];exact h2,by show Writes _ _ _ _ _ _ _ (atX 5 _);rw [e2];exact atom_paren B w0 b d nv ns cs 5 _ C5 hc _ (by omega) h3⟩
 ·obtain ⟨t0,t1,rfl⟩:=len2 (hargs.trans (by decide))
  obtain ⟨pb,po,ac,c0,c1,rfl,hpb,r0,f0,r1,f1⟩:=tms2 hav;simp only [rightTs,Bool.and_eq_true,show moreT 6 0=0 by decide,show moreT 6 1=1 by decide,Nat.zero_add,Int.add_zero] at hparts;have i0:=ih t0 (by simp) c0 d f0 hparts.1;have hd1:=right_deep hparts.2.1;have i1:=ih t1 (by simp) c1 (d+1) f1 (by rw [show ((d+1:Nat):Int)=(d:Int)+1 by omega];exact hparts.2.1);have e:txT ns d (.mk 6 n s l [t0,t1])=[102,117,110]++([32,40]++(ns.getD d []++([32,58,32]++(txT ns d t0++([41,44,32]++txT ns (d+1) t1))))):=by
   rw [txT,ndX,if_neg (by omega),if_neg (by omega),if_neg (by omega),if_neg (by omega),if_neg (by omega),if_neg (by omega),if_neg (by omega)]
   rfl
  refine bind (.inl rfl) ?_;rw [e];exact term_bind6 B w0 b d nv ns cs 6 _ C5 hc _ rfl (binder_writes B w0 b d nv ns _ (by omega) (by omega) rfl cs 6 n s lv pb po ac C5 hc (by omega) c0 r0 f0.len _ c1 r1 f1.len _ _ i0.term i1.term)
 ·obtain ⟨t0,t1,rfl⟩:=len2 (hargs.trans (by decide))
  obtain ⟨pb,po,ac,c0,c1,rfl,hpb,r0,f0,r1,f1⟩:=tms2 hav;simp only [rightTs,Bool.and_eq_true,show moreT 7 0=0 by decide,show moreT 7 1=1 by decide,Nat.zero_add,Int.add_zero] at hparts;have i0:=ih t0 (by simp) c0 d f0 hparts.1;have hd1:=right_deep hparts.2.1;have i1:=ih t1 (by simp) c1 (d+1) f1 (by rw [show ((d+1:Nat):Int)=(d:Int)+1 by omega];exact hparts.2.1);have e:txT ns d (.mk 7 n s l [t0,t1])=[97,108,108]++([32,40]++(ns.getD d []++([32,58,32]++(txT ns d t0++([41,44,32]++txT ns (d+1) t1))))):=by
   rw [txT,ndX,if_neg (by omega),if_neg (by omega),if_neg (by omega),if_neg (by omega),if_neg (by omega),if_neg (by omega),if_neg (by omega)]
   rfl
  refine bind (.inr (.inl rfl)) ?_;rw [e];exact term_bind7 B w0 b d nv ns cs 7 _ C5 hc _ rfl (binder_writes B w0 b d nv ns _ (by omega) (by omega) rfl cs 7 n s lv pb po ac C5 hc (by omega) c0 r0 f0.len _ c1 r1 f1.len _ _ i0.term i1.term)
 ·obtain ⟨t0,t1,t2,rfl⟩:=len3 (hargs.trans (by decide))
  obtain ⟨pb,po,ac,c0,c1,c2,rfl,hpb,r0,f0,r1,f1,r2,f2⟩:=tms3 hav;simp only [rightTs,Bool.and_eq_true,show moreT 8 0=0 by decide,show moreT 8 1=0 by decide,show moreT 8 2=1 by decide,Nat.zero_add,Int.add_zero,Nat.reduceAdd] at hparts;have i0:=ih t0 (by simp) c0 d f0 hparts.1;have i1:=ih t1 (by simp) c1 d f1 hparts.2.1;have hd1:=right_deep hparts.2.2.1;have i2:=ih t2 (by simp) c2 (d+1) f2 (by rw [show ((d+1:Nat):Int)=(d:Int)+1 by omega];exact hparts.2.2.1);have e:txT ns d (.mk 8 n s l [t0,t1,t2])=[108,101,116,32]++(ns.getD d []++([32,58,32]++(txT ns d t0++([32,58,61,32]++(txT ns d t1++([32,105,110,32]++txT ns (d+1) t2)))))):=by
   rw [txT,ndX,if_neg (by omega),if_neg (by omega),if_neg (by omega),if_neg (by omega),if_neg (by omega),if_pos rfl]
   rfl
  refine bind (.inr (.inr rfl)) ?_;rw [e];exact term_let B w0 b d nv ns cs 8 _ C5 hc _ rfl (let_writes B w0 b d nv ns _ (by omega) (by omega) rfl cs 8 n s lv pb po ac C5 hc (by omega) c0 r0 f0.len _ c1 r1 f1.len _ c2 r2 f2.len _ i0.term i1.term i2.term)
 ·obtain ⟨t0,rfl⟩:=len1 (hargs.trans (by decide))
  obtain ⟨pb,po,ac,c0,rfl,hpb,r0,f0⟩:=tms1 hav;simp only [rightTs,Bool.and_eq_true,show moreT 9 0=0 by decide,Int.add_zero] at hparts;have i0:=ih t0 (by simp) c0 d f0 hparts.1;have e:txT ns d (.mk 9 n s l [t0])=[91]++(Lib.itoa n++([32,111,102,32]++(s++([32]++(atX t0.kind (txT ns d t0)++[93]))))):=by
   rw [txT,ndX,if_neg (by omega),if_neg (by omega),if_neg (by omega),if_neg (by omega),if_neg (by omega),if_neg (by omega),if_pos rfl]
   rfl
  have hn31:=hnum.1 rfl;refine leaf (by omega) ?_;rw [e];exact atom_proj B w0 hB hT b d nv ns cs n s lv pb po ac C5 hc n0 (by omega) (by omega) c0 r0 f0.len _ i0.atom
end Go.Proofs.YtmceocgddaaohaaGreatDoor
namespace Go.Proofs.YtmceocgddaaohaaGreatDoor
open Go Go.RowKit Go.ChangeMaps Go.MapKept
open Go.Maps (Keyed)
set_option maxRecDepth 100000
def unitS:Value:=.agg #[]
theorem strKeyed:Keyed Tryz.prog 9:=Go.Maps.string_keyed Tryz.underlying9
theorem sT_key {k:List UInt8} (hk:k.length≤maxLen):∃ l,keyOf Tryz.prog 9 (sT k)=some l:=⟨_,Go.WideMaps.keyOf_string_mk Tryz.underlying9 (by show k.length≤maxLen;exact hk)⟩
theorem sT_inj {a b:List UInt8} (h:sT a=sT b):a=b:=by
 unfold sT at h
 injection h with h
 injection h with h
 simpa using h
def SetS (w:World) (mb:Nat) (ks:List (List UInt8)):Prop:=
 ∃ (es:Array MapEntry) (clock:Nat) (kset:List (List UInt8)),w.heap[mb]?=some (.map es clock)∧Stamped es clock∧es.toList.map (·.key)=kset.map sT∧(∀ e∈es.toList,e.val=unitS)∧(∀ k,k∈kset↔k∈ks)∧∀ k∈kset,k.length≤maxLen
section
variable {w w':World} {mb:Nat} {ks:List (List UInt8)}
theorem SetS.lt (h:SetS w mb ks):mb<w.heap.size:=by
 obtain ⟨es,clock,kset,hb,_⟩:=h;exact (Array.getElem?_eq_some_iff.1 hb).1
theorem SetS.same (h:SetS w mb ks) (hb:w'.heap[mb]?=w.heap[mb]?):SetS w' mb ks:=by
 obtain ⟨es,clock,kset,h1,h2⟩:=h;exact ⟨es,clock,kset,hb.trans h1,h2⟩
theorem SetS.below (h:SetS w mb ks) (hb:Below w.heap.size w w'):SetS w' mb ks:=h.same (hb.block mb h.lt)
theorem SetS.new (w:World):SetS (w.alloc (.map #[] 0)) w.heap.size []:=⟨#[],0,[],heap_alloc_new w _,by simp [Stamped],rfl,fun e he=>by simp at he,fun k=>Iff.rfl,fun k hk=>by cases hk⟩
theorem SetS.find {es : Array MapEntry} {kset : List (List UInt8)} (h2 : es.toList.map (·.key) = kset.map sT) (hg : ∀ k ∈ kset, k.length ≤ maxLen) {k : List UInt8} (hk : k.length ≤ maxLen) (w : World) :
    ((Instr.findKey 9 (sT k) es.toList).run Tryz.prog w=.ok none w∧k∉kset∧∀ e∈es.toList,e.key≠sT k)∨∃ (j:Nat) (e:MapEntry),(Instr.findKey 9 (sT k) es.toList).run Tryz.prog w=.ok (some (j,e.val)) w∧k∈kset∧es.toList[j]?=some e∧e.key=sT k:=by
 obtain ⟨l,hl⟩:=sT_key hk;have hall:∀ e∈es.toList,∃ l,keyOf Tryz.prog 9 e.key=some l:=fun e he=>by
  have:e.key∈kset.map sT:=(by rw [← h2];exact List.mem_map.2 ⟨e,he,rfl⟩);obtain ⟨k',hk',e1⟩:=List.mem_map.1 this;rw [← e1];exact sT_key (hg k' hk')
 rcases strKeyed.find w hl es.toList hall with ⟨h4,h5⟩|⟨j,e,h4,h5,h6⟩
 ·refine .inl ⟨h4,fun hc=>?_,h5⟩
  have:sT k∈es.toList.map (·.key):=(by rw [h2];exact List.mem_map.2 ⟨k,hc,rfl⟩);obtain ⟨e,he,e1⟩:=List.mem_map.1 this;exact h5 e he e1
 ·refine .inr ⟨j,e,h4,?_,h5,h6⟩
  have:sT k∈kset.map sT:=(by rw [← h2,← h6];exact List.mem_map.2 ⟨e,List.mem_of_getElem? h5,rfl⟩);obtain ⟨k',hk',e1⟩:=List.mem_map.1 this;rw [← sT_inj e1];exact hk'
theorem SetS.ask (h:SetS w mb ks) {k:List UInt8} (hk:k.length≤maxLen):(Instr.lookup 129 (.map (some mb)) (sT k) true).run Tryz.prog w=.ok (.tuple #[unitS,.bool (decide (k∈ks))]) w:=by
 obtain ⟨es,clock,kset,hb,hs,h2,hv,hks,hg⟩:=h;obtain ⟨l,hl⟩:=sT_key hk;rcases SetS.find h2 hg hk w with ⟨h4,h5,-⟩|⟨j,e,h4,h5,h6,-⟩
 ·rw [decide_eq_false (fun hc=>h5 ((hks k).2 hc))]
  simp [Instr.lookup,run_underlying Tryz.underlying129,MapKept.run_getObj_map hb,strKeyed.check w _ hl,h4,Result.andThen]
  rfl
 ·rw [decide_eq_true ((hks k).1 h5)]
  have e1:e.val=unitS:=hv e (List.mem_of_getElem? h6);rw [e1] at h4
  simp [Instr.lookup,run_underlying Tryz.underlying129,MapKept.run_getObj_map hb,strKeyed.check w _ hl,h4,Result.andThen]
theorem updS_setBlock {b:Nat} {o:Obj} (o':Obj) (_hb:w.heap[b]?=some o):Upd b w (setBlock w b o'):=by
 refine ⟨rfl,rfl,rfl,by simp [setBlock],fun k _ hne=>?_⟩
 simp [setBlock,Ne.symm hne]
theorem SetS.add (h:SetS w mb ks) {k:List UInt8} (hk:k.length≤maxLen):∃ w',(Instr.mapUpdate 129 (.map (some mb)) (sT k) unitS).run Tryz.prog w=.ok () w'∧SetS w' mb (ks++[k])∧Upd mb w w':=by
 obtain ⟨es,clock,kset,hb,hs,h2,hv,hks,hg⟩:=h;obtain ⟨l,hl⟩:=sT_key hk;rcases SetS.find h2 hg hk w with ⟨h4,h5,h6⟩|⟨j,e0,h4,h5,he0,k0⟩
 ·refine ⟨setBlock w mb (.map (es.push ⟨sT k,unitS,clock⟩) (clock+1)),by simp [Instr.mapUpdate,run_underlying Tryz.underlying129,MapKept.run_getObj_map hb,strKeyed.check w false hl,h4,MapKept.run_setObj_map _ hb,Result.andThen,setBlock],⟨_,_,kset++[k],heap_setBlock_same hb _,stamped_push hs h6,by simp [h2],?_,?_,?_⟩,updS_setBlock _ hb⟩
  ·intro e he
   rw [Array.toList_push] at he;rcases List.mem_append.1 he with he|he
   ·exact hv e he
   ·obtain rfl:=List.mem_singleton.1 he
    rfl
  ·intro x
   simp [hks x]
  ·intro x hx
   rcases List.mem_append.1 hx with h|h
   ·exact hg x h
   ·obtain rfl:x=k:=by simpa using h
    exact hk
 ·have v0:e0.val=unitS:=hv e0 (List.mem_of_getElem? he0)
  have hja:es[j]?=some e0:=(by simpa using he0);have hsame:(es.modify j (fun e'=>{ e' with key:=sT k,val:=unitS }))=es:=by
   apply Array.ext'
   rw [Array.toList_modify]
   apply List.ext_getElem?
   intro i;rw [List.getElem?_modify];by_cases hij:j=i
   ·subst hij
    rw [he0]
    simp [← k0,← v0]
   ·simp [hij]
  refine ⟨setBlock w mb (.map es clock),?_,⟨es,clock,kset,heap_setBlock_same hb _,hs,h2,hv,fun x=>?_,hg⟩,updS_setBlock _ hb⟩
  ·simp [Instr.mapUpdate,run_underlying Tryz.underlying129,MapKept.run_getObj_map hb,strKeyed.check w false hl,h4,hja,k0,strKeyed.stays w hl,MapKept.run_setObj_map _ hb,Result.andThen,setBlock]
   rw [hsame]
  ·rw [hks x,List.mem_append,List.mem_singleton]
   exact ⟨.inl,fun h=>h.elim id (fun e=>by subst e;exact (hks x).1 h5)⟩
end
end Go.Proofs.YtmceocgddaaohaaGreatDoor
namespace Go.Proofs.YtmceocgddaaohaaGreatDoor
open Go Go.RowKit
set_option maxRecDepth 100000
def leftE (B N:Nat) (Kp:World→World→Prop) (I:Nat→World→Prop) (Ix:Code→Nat→World→Prop) (k:Nat) (W:World):Exit→Act→World→Prop
 |.normal,_,W'=>KeepsFrom B W W'∧Kp W W'∧k+1<N∧I (k+1) W'
 |.exit id,_,W'=>KeepsFrom B W W'∧Ix (.exit id) (k+1) W'
 |_,_,_=>False
def Endless (P:Program) (gf:FuncId) (lb:Array Value) (N:Nat) (el:Nat→Value) (Kp:World→World→Prop) (w:World):Prop:=
 ∀ (l:Nat) (J Jx:Nat→World→Prop) (W:World),Below w.heap.size w W→(∀ k A B,J k A→Below A.heap.size A B→J k B)→
  (∀ k W1,k<N→J k W1→YieldAt Fence.wide 0 P l #[el k] W1 fun e W'=>(e=.returned (.bool true)∧k+1<N∧J (k+1) W'∧Kp W1 W')∨(e=.returned (.bool false)∧Jx (k+1) W'))→
  J 0 W→Calls P gf (#[.func (.yield l) #[] #[]]++lb) W fun e W'=>(∃ v,e=.returned v)∧∃ k,k≤N∧Jx k W'
set_option maxHeartbeats 2000000 in
theorem range_endless {P : Program} {Q : Exit → Act → World → Prop} {a : Act} {w : World} {g : Operand} {p1 : Tmp} {assign body : Code} (gf : FuncId) (lb : Array Value) (hg : a.eval g = .func (.func gf) #[] lb) (eg : ∀ args w, (callFunc gf args).run P w = .ok (.enter gf args) w)
    (N:Nat) (el:Nat→Value) (Kp:World→World→Prop) (hKt:∀ {A B C:World},Kp A B→Kp B C→Kp A C) (hKb:∀ (W:World) (l:Nat) (o o':Obj),w.heap.size≤l→W.heap[l]?=some o→o.isCells=false→Kp W (W.putObj l o'))
    (hseq:Endless P gf lb N el Kp w) (I:Nat→World→Prop) (Ix:Code→Nat→World→Prop) (hI:OwnFrom w.heap.size I) (hIx:∀ c,OwnFrom w.heap.size (Ix c)) (h0:I 0 w) (A1:Nat→Act)
    (hassign:∀ (l k:Nat) (W:World) (K:Act→World→Prop),K (A1 k) W→assign.wpIn (inR l) 0 P (Exit.then K (fun _ _ _=>False)) { tmps:=a.tmps.setIfInBounds p1 (el k),defers:=[] } W)
    (hbody:∀ (l k:Nat) (W:World),k<N→I k W→body.wpIn (inR l) 0 P (leftE w.heap.size N Kp I Ix k W) (A1 k) W)
    (hstop:∀ (D:Nat) (c:Code) (k:Nat) (W:World),k≤N→Ix c k W→w.heap.size≤D→W.heap[D]?=some (.deferred (some []))→c.wp P Q (Act.marked a D) W) :
    (Code.rangeFunc g #[p1] assign body).wp P Q a w:=by
 refine (wpIn_wide (n:=1)).1 (wpIn_rangeFunc fun fn hfn=>?_)
 -- the loop's record,in each of its states
 let R:LoopState→Option Code→Obj:=fun s p=>.loop { state:=s,pending:=p,fn:=fn,tmps:=a.tmps,params:=#[p1],assign:=assign,body:=body,defers:=w.heap.size }
 have hD:((w.alloc (.deferred (some []))).alloc (R .ready none)).heap[w.heap.size]?=some (.deferred (some [])):=(Below.heap_alloc _ _ _ (by simp)).trans (World.alloc_heap_new w _);have hL:((w.alloc (.deferred (some []))).alloc (R .ready none)).heap[w.heap.size+1]?=some (R .ready none):=by
  have:=World.alloc_heap_new (w.alloc (.deferred (some []))) (R .ready none)
  rwa [World.size_alloc] at this
 have hI0:I 0 ((w.alloc (.deferred (some []))).alloc (R .ready none)):=hI.alloc _ (hI.alloc _ h0);have hbel:Below w.heap.size w ((w.alloc (.deferred (some []))).alloc (R .ready none)):=((Below.refl _ w).alloc (Nat.le_refl _) _).alloc (by simp) _;generalize hW1:(w.alloc (.deferred (some []))).alloc (R .ready none)=W1 at hD hL hI0 hbel;refine ⟨w.heap.size+1,_,W1,{ target:=.fn (.func gf) lb,args:=#[.func (.yield (w.heap.size+1)) #[] #[]] },W1,gf,#[.func (.yield (w.heap.size+1)) #[] #[]]++lb,W1,by rw [← hW1];exact run_enterLoop_outer _ _ _ _ _,?_,?_,?_,fun _=>Nat.le_refl _,?_⟩
 ·simp only [resolve,hg]
  simp [go_sem]
 ·intro f _
  trivial
 ·simp [invoke,go_sem,eg]
 ·refine CallsIn.mono (callsIn_wide.2 (hseq (w.heap.size+1) (fun k W=>I k W∧W.heap[w.heap.size+1]?=some (R .ready none)∧W.heap[w.heap.size]?=some (.deferred (some [])))
   (fun k W=>∃ c,Ix c k W∧W.heap[w.heap.size+1]?=some (R .done (some c))∧W.heap[w.heap.size]?=some (.deferred (some []))) W1 hbel ?_ ?_ ⟨hI0,hL,hD⟩)) ?_
  ·rintro k A B ⟨h1,h2,h3⟩ hb
   exact ⟨hI _ _ _ none h1 (grown_of_below hb) (fun r e=>by cases e),(hb.block _ (Array.getElem?_eq_some_iff.1 h2).1).trans h2,(hb.block _ (Array.getElem?_eq_some_iff.1 h3).1).trans h3⟩
  ·rintro k W hk ⟨h1,h2,h3⟩
   have hlt:w.heap.size+1<W.heap.size:=(Array.getElem?_eq_some_iff.1 h2).1;have hy:=run_yield (P:=P) (args:=#[el k]) h2 rfl;refine ⟨fn,a.tmps.setIfInBounds p1 (el k),assign,body,by simpa using hy,roundIn_of_wpIn hfn (wpIn_mono (hassign _ k W (fun a₁ w₁=>a₁=A1 k∧w₁=W) ⟨rfl,rfl⟩) fun e a₁ w₁ he=>?_)⟩
   cases e with
   |normal=>
    obtain ⟨rfl,rfl⟩:=he;refine ⟨_,run_beginRound h2 rfl,?_⟩;have hbusy:(w₁.putObj (w.heap.size+1) (R .busy none)).heap[w.heap.size+1]?=some (R .busy none):=World.putObj_heap_same hlt;have hdef:(w₁.putObj (w.heap.size+1) (R .busy none)).heap[w.heap.size]?=some (.deferred (some [])):=(World.putObj_heap_other (by omega)).trans h3;have hkp:Kp w₁ (w₁.putObj (w.heap.size+1) (R .busy none)):=hKb _ _ _ _ (by omega) h2 rfl;refine wpIn_mono (hbody _ k _ hk (hI.putObj _ h1 (by omega) h2 rfl)) fun e2 a3 W3 hp=>?_;cases e2 with
    |normal=>
     obtain ⟨p1,p2,p3,p4⟩:=hp;have hb3:=p1.same _ _ (by omega) hbusy rfl;have hd3:=p1.same _ _ (Nat.le_refl _) hdef rfl;exact ⟨_,_,run_endRound (P:=P) none hb3,.inl ⟨rfl,p3,⟨hI.putObj _ p4 (by omega) hb3 rfl,World.putObj_heap_same (Array.getElem?_eq_some_iff.1 hb3).1,(World.putObj_heap_other (by omega)).trans hd3⟩,hKt (hKt hkp p2) (hKb _ _ _ _ (by omega) hb3 rfl)⟩⟩
    |exit id=>
     obtain ⟨p1,p2⟩:=hp;have hb3:=p1.same _ _ (by omega) hbusy rfl;have hd3:=p1.same _ _ (Nat.le_refl _) hdef rfl;exact ⟨_,_,run_endRound (P:=P) (some (.exit id)) hb3,.inr ⟨rfl,.exit id,(hIx _).putObj _ p2 (by omega) hb3 rfl,World.putObj_heap_same (Array.getElem?_eq_some_iff.1 hb3).1,(World.putObj_heap_other (by omega)).trans hd3⟩⟩
    |ret=>exact hp.elim
    |goto t=>exact hp.elim
    |panic ch=>exact hp.elim
    |outgrown=>exact hp.elim
   |ret=>exact he.elim
   |exit id=>exact he.elim
   |goto t=>exact he.elim
   |panic ch=>exact he.elim
   |outgrown=>exact he.elim
  ·rintro e W2 ⟨⟨v,rfl⟩,k,hk,c,h1,h2,h3⟩
   exact ⟨some c,_,run_endLoop (P:=P) h2 (by simp),(wpIn_wide (n:=1)).2 (hstop _ c k _ hk ((hIx c).putObj _ h1 (by omega) h2 rfl) (Nat.le_refl _) ((World.putObj_heap_other (by omega)).trans h3))⟩
end Go.Proofs.YtmceocgddaaohaaGreatDoor
namespace Go.Proofs.YtmceocgddaaohaaGreatDoor
open Go Go.RowKit
set_option maxRecDepth 100000
def xN (n:Nat):List UInt8:=120::Lib.itoa (n:Int)
theorem xN_inj {m n:Nat} (h:xN m=xN n):m=n:=by
 have:=itoa_inj (m:=(m:Int)) (n:=(n:Int)) (by omega) (by omega) (List.cons.inj h).2;omega
def frL (tk:List (List UInt8)):Nat→List (List UInt8)
 |0=>[]
 |i+1=>if xN i∈tk then frL tk i else frL tk i++[xN i]
def cntL (tk:List (List UInt8)):Nat→Nat
 |0=>0
 |i+1=>if xN i∈tk then cntL tk i+1 else cntL tk i
theorem frL_cnt (tk:List (List UInt8)):∀ i,(frL tk i).length+cntL tk i=i
 |0=>rfl
 |i+1=>by
  have:=frL_cnt tk i;rw [frL,cntL]
  split
  ·omega
  ·rw [List.length_append,List.length_singleton];omega
theorem cntL_cons (s:List UInt8) (tk:List (List UInt8)):∀ i,cntL (s::tk) i≤cntL tk i+1∧((∀ j,j<i→xN j≠s)→cntL (s::tk) i≤cntL tk i)
 |0=>⟨Nat.zero_le _,fun _=>Nat.le_refl _⟩
 |i+1=>by
  obtain ⟨h1,h2⟩:=cntL_cons s tk i;rw [cntL,cntL];by_cases hs:xN i=s
  ·have h3:=h2 (fun j hj e=>by have:=xN_inj (e.trans hs.symm);omega)
   refine ⟨?_,fun h=>absurd hs (h i (Nat.lt_succ_self i))⟩
   rw [if_pos (by rw [hs];simp)]
   split<;>omega
  ·by_cases ht:xN i∈tk
   ·rw [if_pos (List.mem_cons_of_mem _ ht),if_pos ht]
    exact ⟨by omega,fun h=>by have:=h2 (fun j hj=>h j (by omega));omega⟩
   ·rw [if_neg (fun hc=>(List.mem_cons.1 hc).elim hs ht),if_neg ht]
    exact ⟨h1,fun h=>h2 (fun j hj=>h j (by omega))⟩
theorem cntL_le:∀ (tk:List (List UInt8)) (i:Nat),cntL tk i≤tk.length
 |[],i=>by
  induction i with
  |zero=>exact Nat.le_refl _
  |succ i ih=>rw [cntL,if_neg (by simp)];exact ih
 |s::tk,i=>by
  have:=(cntL_cons s tk i).1;have:=cntL_le tk i;rw [List.length_cons];omega
theorem frL_more (tk:List (List UInt8)) (i:Nat):i≤(frL tk i).length+tk.length:=by
 have:=frL_cnt tk i;have:=cntL_le tk i;omega
theorem frL_pre (tk:List (List UInt8)) {i j:Nat} (h:i≤j):frL tk i <+: frL tk j:=by
 induction j with
 | zero => obtain rfl : i = 0 := by omega
           exact List.prefix_rfl
 |succ j ih=>
  by_cases e:i=j+1
  ·rw [e];exact List.prefix_rfl
  ·rw [frL]
   split
   ·exact ih (by omega)
   ·exact (ih (by omega)).trans (List.prefix_append _ _)
def frN (tk:List (List UInt8)) (k:Nat):List UInt8:=(frL tk (k+1+tk.length)).getD k []
theorem frN_at (tk:List (List UInt8)) {i:Nat} (h:xN i∉tk):frN tk (frL tk i).length=xN i:=by
 have h1:frL tk (i+1)=frL tk i++[xN i]:=(by rw [frL,if_neg h]);have h2:=frL_more tk (i+1);rw [h1,List.length_append,List.length_singleton] at h2;obtain ⟨r,hr⟩:=frL_pre tk h2;rw [frN,← hr,h1,List.getD_eq_getElem?_getD,List.append_assoc,List.getElem?_append_right (Nat.le_refl _),Nat.sub_self]
 rfl
def freL (tk:List (List UInt8)) (n:Nat):List (List UInt8):=(List.range n).map (frN tk)
theorem freL_succ (tk:List (List UInt8)) (n:Nat):freL tk (n+1)=freL tk n++[frN tk n]:=by simp [freL,List.range_succ]
theorem freL_len (tk:List (List UInt8)) (n:Nat):(freL tk n).length=n:=by simp [freL]
theorem exec_skipS {P:Program} {a:Act} {w w':World} {op:Oper} (s:Sem Unit) (h:execOp a.eval op=(s >>= fun _=>pure .skip)) (hr:s.run P w=.ok () w'):(execOp a.eval op).run P w=.ok .skip w':=by
 rw [h,Sem.run_bind,hr]
 rfl
def TkAt (w:World) (v:Value) (l:List (List UInt8)):Prop:=∃ a c,v=.slice a l.length c∧(0<l.length→∃ b o,a=some ⟨b,o,none⟩∧b<w.heap.size∧w.rangeAt b o (l.map sT))
theorem TkAt.below {w w':World} {v:Value} {l:List (List UInt8)} (h:TkAt w v l) (hb:Below w.heap.size w w'):TkAt w' v l:=by
 obtain ⟨a,c,h1,h2⟩:=h;refine ⟨a,c,h1,fun hp=>?_⟩
 obtain ⟨b,o,h3,h4,h5⟩:=h2 hp;exact ⟨b,o,h3,Nat.lt_of_lt_of_le h4 hb.size,rng_low h5 hb h4⟩
theorem TkAt.get {w:World} {a:Option Addr} {n c i:Nat} {l:List (List UInt8)} {s:List UInt8} (h:TkAt w (.slice a n c) l) (hi:l[i]?=some s):∃ b o,a=some ⟨b,o,none⟩∧b<w.heap.size∧w.cell? ⟨b,o+i,none⟩=some (sT s):=by
 obtain ⟨a',c',h1,h2⟩:=h;obtain ⟨rfl,-,-⟩:=Value.slice.inj h1;obtain ⟨b,o,h3,h4,h5⟩:=h2 (by have:=(List.getElem?_eq_some_iff.1 hi).1;omega);exact ⟨b,o,h3,h4,h5 i _ (by rw [List.getElem?_map,hi];rfl)⟩
theorem tk_upd {w w':World} {pb po n c q:Nat} {l:List (List UInt8)} (h:TkAt w (.slice (some ⟨pb,po,none⟩) n c) l) (hu:Upd q w w') (hq:pb≠q):TkAt w' (.slice (some ⟨pb,po,none⟩) n c) l:=by
 obtain ⟨a',c',h1,h2⟩:=h;refine ⟨a',c',h1,fun hp=>?_⟩
 obtain ⟨b,o,e,hb,hr⟩:=h2 hp;obtain ⟨rfl,-,-⟩:=Value.slice.inj h1;obtain ⟨rfl,rfl,-⟩:=Addr.mk.inj (Option.some.inj e);refine ⟨_,_,rfl,Nat.lt_of_lt_of_le hb hu.size,fun j u hj=>?_⟩
 rw [World.cell?_of_block (w:=w) (a:=⟨pb,po+j,none⟩) (hu.block pb hb hq)];exact hr j u hj
theorem tk_not_map {w:World} {q po n c:Nat} {l ks:List (List UInt8)} (h:TkAt w (.slice (some ⟨q,po,none⟩) n c) l) (hm:SetS w q ks) (hl:0<l.length):False:=by
 obtain ⟨s,hs⟩:∃ s,l[0]?=some s:=⟨_,List.getElem?_eq_getElem hl⟩;obtain ⟨b,o,e,hb,hc⟩:=h.get hs;obtain ⟨rfl,rfl,-⟩:=Addr.mk.inj (Option.some.inj e);obtain ⟨es,clock,kset,h1,-⟩:=hm
 simp [World.cell?,h1] at hc
set_option maxHeartbeats 4000000 in
theorem free_walk (tk:List (List UInt8)) (v:Value) (w:World) (h:TkAt w v tk) (hn:tk.length≤1000000) (hs:∀ s∈tk,s.length≤1000000):Calls Tryz.prog 43 #[v] w fun e w'=>∃ mb mq,e=.returned (.func (.func 71) #[] #[.pointer (some ⟨mb,0,none⟩)])∧Blk w' mb 129 [.map (some mq)]∧SetS w' mq tk∧Below w.heap.size w w'∧w.heap.size≤mb∧w.heap.size≤mq:=by
 obtain ⟨la,lc,hv⟩:∃ la lc,v=.slice la tk.length lc:=(by obtain ⟨a,c,e,-⟩:=h;exact ⟨a,c,e⟩);subst hv;obtain ⟨N,hN⟩:∃ y,Hid (tk.length=y):=⟨_,rfl⟩;rw [hN.out] at h hn ⊢;have HI:=hZ h;have HN:=hZ hn;have HS:=hZ hs;obtain ⟨q,hq⟩:∃ q,Hid (w.heap.size=q):=⟨_,rfl⟩;clear h hs
 go_enter Tryz.func43,Tryz.ntmps43
 go_upto_region 0 with (fail);refine lbeg (opsOf Tryz.f43 0) ?_;refine lnow 0 (.nilFunc) (some 2) ?_;refine ldq 1 ?_;go_upto_region 1 with (fail);refine lbeg (opsOf Tryz.f43 1) ?_;refine lin_value 0 (.map (some q)) (some 6) (w.alloc (.map #[] 0)) (by kernel_rfl) (by kernel_rfl) (exec_of (Instr.makeMap 129 none) _ (by kernel_rfl) (by rw [← hq.out];rfl)) ?_;have e1:Below q w (w.alloc (.map #[] 0)):=(by rw [← hq.out];exact (Below.refl _ _).alloc (Nat.le_refl _) _);have s1:Hid ((w.alloc (.map #[] 0)).heap.size=q+1):=(by rw [Hid,World.size_alloc,hq.out]);have m1:SetS (w.alloc (.map #[] 0)) q []:=(by rw [← hq.out];exact SetS.new w);generalize w.alloc (.map #[] 0)=w1 at e1 s1 m1 ⊢;refine lin_alloc1 1 129 (.map none) (q+1) (some 3) (by kernel_rfl) (by kernel_rfl) (by kernel_rfl) (by kernel_rfl) (by rfl) s1 ?_;intro w2 bw2 bew2 hsw2;refine lin_put1 2 129 (.tmp 3) (.tmp 6) (q+1) _ (.map none) (.map (some q)) (by kernel_rfl) (by kernel_rfl) (by kernel_rfl) (by kernel_rfl) (by kernel_rfl) bw2 (by kernel_rfl) (by rfl) (by rfl) ?_;intro w3 bw3 uw3;refine ldq 3 ?_;have M3:Hid (SetS w3 q []):=m1.same ((uw3.block q (by have:=bew2.size;have:=s1.out;omega) (by omega)).trans (bew2.block q (by omega)));have B3:=hZ bw3;have E3:Hid (Below q w w3):=uw3.below (e1.trans (bew2.mono (by omega))) (by omega) (by have:=bew2.size;have:=s1.out;omega);have HI3:=hZ (HI.out.below (by rw [hq.out];exact E3.out));clear e1 s1 m1 bw2 bew2 hsw2 bw3 uw3 HI
 go_upto_region 2 with (fail);refine lbeg (opsOf Tryz.f43 2) ?_;refine lnow 0 (.slice la N lc) (some 7) ?_;refine lnow 1 (.int .i64 (N:Int)) (some 8) ?_;refine lnow 2 (.int .i64 0) (some 9) ?_;refine ldq 3 ?_;have hn:=HN.out;go_wp2
 go_loopw [9] (fun iv wr=>∃ i:Nat,i≤N∧iv=.int .i64 (i:Int)∧Hid (SetS wr q (tk.take i))∧Hid (Blk wr (q+1) 129 [.map (some q)])∧Hid (Below q w wr)∧Hid (TkAt wr (.slice la N lc) tk)) (fun iv _=>N-(intOf iv).toNat)
 case atStart=>exact ⟨0,Nat.zero_le _,rfl,M3,B3,E3,HI3⟩
 case round=>
  obtain ⟨i,hi,rfl,MI,BI,EI,HW⟩:=hrel;clear M3 B3 E3 HI3;have hn:=HN.out;by_cases hlt:i<N
  rotate_left
  ·skip
   obtain rfl:i=N:=(by omega);have MF:Hid (SetS wr q tk):=(by have:=MI.out;rw [List.take_of_length_le (by rw [hN.out];exact Nat.le_refl _)] at this;exact this);clear MI HW;go_upto_region 3 with (fail);refine lbeg (opsOf Tryz.f43 3) ?_;refine lnow 0 (.bool (decide ((i:Int)<(i:Int)))) (some 10) ?_;rw [decide_eq_false (by omega:¬ (i:Int)<(i:Int))];refine ldq 1 ?_;go_upto_region 7 with (fail);refine lbeg (opsOf Tryz.f43 7) ?_;refine lnow 0 (.func (.func 71) #[] #[.pointer (some ⟨q+1,0,none⟩)]) (some 17) ?_;refine lnow 1 (.func (.func 71) #[] #[.pointer (some ⟨q+1,0,none⟩)]) (some 2) ?_;refine ldq 2 ?_;have EF:Hid (Below w.heap.size w wr):=(by rw [hq.out];exact EI.out);go_wp2;go_ret;exact ⟨q+1,q,rfl,BI.out,MF.out,EF.out,by rw [hq.out];omega,by rw [hq.out];exact Nat.le_refl _⟩
  obtain ⟨s,hs⟩:∃ s,Hid (tk[i]?=some s):=⟨_,List.getElem?_eq_getElem (by rw [hN.out];exact hlt)⟩;obtain ⟨pb,po,hla,hpb,hcl⟩:=HW.out.get hs.out;subst hla;have CL:=hZ hcl;have SL:=hZ (HS.out s (List.mem_of_getElem? hs.out));clear hcl;go_upto_region 3 with (fail);refine lbeg (opsOf Tryz.f43 3) ?_;refine lnow 0 (.bool (decide ((i:Int)<(N:Int)))) (some 10) ?_;rw [decide_eq_true (by omega:(i:Int)<(N:Int))];refine ldq 1 ?_;go_upto_region 4 with (fail);refine lbeg (opsOf Tryz.f43 4) ?_;refine lix 0 (.pointer (some ⟨pb,po+i,none⟩)) (some 11) 62 7 9 (run_at_str pb po N lc i hlt _) ?_;refine lcl 1 (sT s) (some 12) 9 11 pb (po+i) CL.out Tryz.underlying9 ?_;refine lnow 2 (sT s) (some 5) ?_;refine ldq 3 ?_;go_upto_region 5 with (fail);refine lbeg (opsOf Tryz.f43 5) ?_;refine lcl 0 (.map (some q)) (some 13) 129 3 (q+1) 0 (BI.out.cell rfl) Tryz.underlying129 ?_;refine lnow 1 (sT s) (some 14) ?_;refine lnow 2 (unitS) (some 15) ?_;obtain ⟨w4,hr4,m4,u4⟩:=MI.out.add (k:=s) (by have:=SL.out;unfold maxLen;omega);refine lin_store 3 w4 (by kernel_rfl) (by kernel_rfl) (exec_skipS (Instr.mapUpdate 129 (.map (some q)) (sT s) unitS) (by kernel_rfl) hr4) ?_;refine ldq 4 ?_;have M4:Hid (SetS w4 q (tk.take (i+1))):=(by rw [Hid,take_snoc hs.out];exact m4);have B4:=hZ (u4.blk BI.out (by omega));have E4:Hid (Below q w w4):=u4.below EI.out (Nat.le_refl _) (by have:=EI.out.size;have:=hq.out;omega)
  have H4:Hid (TkAt w4 (.slice (some ⟨pb,po,none⟩) N lc) tk):=tk_upd HW.out u4 (fun e=>by subst e;exact tk_not_map HW.out MI.out (by rw [hN.out];omega))
  clear m4 u4 hr4 MI BI EI HW CL SL;go_upto_region 6 with (fail);refine lbeg (opsOf Tryz.f43 6) ?_;refine lnow 0 (.int .i64 (IntKind.i64.wrap ((i:Int)+1))) (some 16) ?_;rw [show IntKind.i64.wrap ((i:Int)+1)=((i+1:Nat):Int) from (IntWalk.i64_in _ (by omega)).trans (by omega)];refine lnow 1 (.int .i64 ((i+1:Nat):Int)) (some 9) ?_;refine ldq 2 ?_;go_wp2;go_roundw
  case rel=>exact ⟨i+1,by omega,rfl,M4,B4,E4,H4⟩
  case measure=>simp [intOf];omega
structure FrE (mb mq:Nat) (tk:List (List UInt8)) (w:World):Prop where
 box:Blk w mb 129 [.map (some mq)]
 set:SetS w mq tk
 tab:TabW w
theorem FrE.below {mb mq:Nat} {tk:List (List UInt8)} {w w':World} (h:FrE mb mq tk w) (hb:Below w.heap.size w w'):FrE mb mq tk w':=⟨h.box.below hb h.box.lt,h.set.below hb,h.tab.below hb⟩
set_option maxHeartbeats 8000000 in
theorem free1_walk (tk : List (List UInt8)) (mb mq l N : Nat) (J Jx : Nat → World → Prop) (hN : 0 < N) (hN2 : N ≤ 1000) (htn : tk.length ≤ 80000) (hJ : ∀ k A B, J k A → Below A.heap.size A B → J k B)
    (hY:∀ k W1,k<N→J k W1→YieldAt Fence.wide 0 Tryz.prog l #[sT (frN tk k)] W1 fun e W'=>(e=.returned (.bool true)∧k+1<N∧J (k+1) W'∧(FrE mb mq tk W1→FrE mb mq tk W'))∨(e=.returned (.bool false)∧Jx (k+1) W'))
    (W:World) (h0:J 0 W) (hk:FrE mb mq tk W):Calls Tryz.prog 71 #[.func (.yield l) #[] #[],.pointer (some ⟨mb,0,none⟩)] W fun e W'=>(∃ v,e=.returned v)∧∃ k,k≤N∧Jx k W':=by
 have YY:=hZ hY;have HJ:=hZ hJ;have J0:=hZ h0;have KK:=hZ hk;have N0:=hZ hN;have N1:=hZ hN2;have TN:=hZ htn;clear hY hJ h0 hk hN hN2 htn
 go_enter Tryz.func71,Tryz.ntmps71
 go_upto_region 0 with (fail);refine lbeg (opsOf Tryz.f71 0) ?_;refine lnow 0 (.int .i64 0) (some 3) ?_;refine ldq 1 ?_;go_wp2
 go_loopw [3] (fun iv wr=>∃ i k:Nat,iv=.int .i64 (i:Int)∧Hid ((frL tk i).length=k)∧Hid (k<N)∧Hid (J k wr)∧Hid (FrE mb mq tk wr)) (fun iv _=>100000-(intOf iv).toNat)
 case atStart=>exact ⟨0,0,rfl,rfl,N0,J0,KK⟩
 case round=>
  obtain ⟨i,k,rfl,FK,KN,JK,FE⟩:=hrel;clear J0 KK N0;have hi:i<90000:=(by have h9:=frL_more tk i;rw [FK.out] at h9;have:=KN.out;have:=N1.out;have:=TN.out;omega);go_upto_region 2 with (fail);refine lbeg (opsOf Tryz.f71 2) ?_;refine lnow 0 (.int .i64 (i:Int)) (some 9) ?_;refine lcal 1 63 #[.int .i64 (i:Int)] (some 10) _ (itoa_walk (i:Int) (by omega) (by omega) wr FE.out.tab) ?_;rintro e w2 ⟨rfl,hb2⟩;refine ⟨_,rfl,?_⟩;have JK2:=hZ (HJ.out k wr w2 JK.out hb2);have FE2:=hZ (FE.out.below hb2);obtain ⟨nm,hnm⟩:∃ y,Hid (xN i=y):=⟨_,rfl⟩;have NL:Hid (nm.length≤1000):=(by rw [← hnm.out];have:=itoa_le (n:=(i:Int)) (by omega) (by omega);show (_::_).length≤1000;rw [List.length_cons];omega);clear hb2 JK FE;refine lin_now 2 (sT nm) (some 11) (by kernel_rfl) (by kernel_rfl) (by rw [← hnm.out];exact exec_catS 9 9 (.const (sT [120])) (.tmp 10) (by kernel_rfl) [120] (Lib.itoa (i:Int)) (by kernel_rfl) (by kernel_rfl) (by decide) (by have:=itoa_le (n:=(i:Int)) (by omega) (by omega);omega)) ?_;refine lnow 3 (sT nm) (some 4) ?_;refine ldq 4 ?_;obtain ⟨bo,hbo⟩:∃ y,Hid (decide (nm∈tk)=y):=⟨_,rfl⟩;obtain ⟨z,hz⟩:∃ z,Hid (w2.heap.size=z):=⟨_,rfl⟩;go_upto_region 3 with (fail);refine lbeg (opsOf Tryz.f71 3) ?_;refine lcl 0 (.map (some mq)) (some 13) 129 1 mb 0 (FE2.out.box.cell rfl) Tryz.underlying129 ?_;refine lnow 1 (sT nm) (some 14) ?_
  refine lnowP 2 (.tuple #[unitS,.bool bo]) (some 15) (exec_of (Instr.lookup 129 (.map (some mq)) (sT nm) true) _ (by kernel_rfl) ((FE2.out.set.ask (by have:=NL.out;unfold maxLen;omega)).trans (by rw [hbo.out]))) ?_;refine lnow 3 (.tuple #[unitS,.bool bo]) (some 12) ?_;refine lnow 4 (unitS) (some 16) ?_;refine lnow 5 (.bool bo) (some 17) ?_;refine lall 6 130 [] z (some 5) hz ?_;intro w3 b3 e3 s3;refine lput 7 130 (.tmp 5) (.tmp 16) z _ [] [] b3 rfl (by kernel_rfl) (by simp) ?_;intro w4 b4 u4;refine lnow 8 (.bool bo) (some 6) ?_;refine ldq 9 ?_;have E4:Below w2.heap.size w2 w4:=(by rw [hz.out];exact u4.below e3 (Nat.le_refl _) (by have:=e3.size;have:=hz.out;omega));have JK4:=hZ (HJ.out k w2 w4 JK2.out E4);have FE4:=hZ (FE2.out.below E4);clear b3 e3 s3 b4 u4 E4 JK2 FE2 hz;cases bo with
  |true=>
   have hin:xN i∈tk:=(by rw [hnm.out];exact of_decide_eq_true hbo.out);have FK2:Hid ((frL tk (i+1)).length=k):=(by rw [Hid,frL,if_pos hin];exact FK.out);go_upto_region 4 with (fail);refine lbeg (opsOf Tryz.f71 4) ?_;refine lnow 0 (.bool true) (some 18) ?_;refine lnow 1 (.bool false) (some 19) ?_;refine lnow 2 (.bool false) (some 20) ?_;refine lpas 3 (some 21) ?_;refine lpas 4 (some 22) ?_;refine lpas 5 (some 23) ?_;refine lpas 6 (some 24) ?_;refine lnow 7 (.bool false) (some 25) ?_;refine ldq 8 ?_;go_upto_region 1 with (fail);refine lbeg (opsOf Tryz.f71 1) ?_;refine lnow 0 (.int .i64 (i:Int)) (some 7) ?_;refine lnow 1 (.int .i64 (IntKind.i64.wrap ((i:Int)+1))) (some 8) ?_;rw [show IntKind.i64.wrap ((i:Int)+1)=((i+1:Nat):Int) from (IntWalk.i64_in _ (by omega)).trans (by omega)];refine lnow 2 (.int .i64 ((i+1:Nat):Int)) (some 3) ?_;refine ldq 3 ?_;go_wp2;go_roundw
   case rel=>exact ⟨i+1,k,rfl,FK2,KN,JK4,FE4⟩
   case measure=>simp [intOf];omega
  |false=>
   have hin:xN i∉tk:=(by rw [hnm.out];exact of_decide_eq_false hbo.out);have FK2:Hid ((frL tk (i+1)).length=k+1):=(by rw [Hid,frL,if_neg hin,List.length_append,FK.out];rfl);have YA:=YY.out k w4 KN.out JK4.out;rw [show frN tk k=nm by rw [← FK.out,frN_at tk hin];exact hnm.out] at YA;go_upto_region 4 with (fail);refine fin_begin (opsOf Tryz.f71 4) (by kernel_rfl) ?_;refine fin_now 0 (.bool false) (some 18) (by kernel_rfl) (by kernel_rfl) (by kernel_rfl) ?_;refine fin_now 1 (.bool true) (some 19) (by kernel_rfl) (by kernel_rfl) (by kernel_rfl) ?_;refine fin_now 2 (.bool true) (some 20) (by kernel_rfl) (by kernel_rfl) (by kernel_rfl) ?_;refine fin_now 3 (.func (.yield l) #[] #[]) (some 21) (by kernel_rfl) (by kernel_rfl) (by kernel_rfl) ?_;refine fin_now 4 (sT nm) (some 22) (by kernel_rfl) (by kernel_rfl) (by kernel_rfl) ?_;refine fin_yield 5 0 l #[sT nm] (some 23) _ (by kernel_rfl) (by kernel_rfl) (fun fn tmps assign body h=>(congrArg (fun z:Sem Next=>z.run Tryz.prog w4) (show execOp _ _=Instr.yield l #[sT nm] by kernel_rfl)).trans h) YA ?_;rintro e w5 (⟨rfl,hkn,hJ5,hk5⟩|⟨rfl,hx5⟩)
   rotate_left
   ·refine ⟨_,rfl,?_⟩
    refine fin_now 6 (.bool true) (some 24) (by kernel_rfl) (by kernel_rfl) (by kernel_rfl) ?_;refine fin_now 7 (.bool true) (some 25) (by kernel_rfl) (by kernel_rfl) (by kernel_rfl) ?_;refine fin_done 8 (by kernel_rfl) ?_;generalize hact:Act.put _ (some 25) _=act;simp only [Act.put,sA,sC,sZ] at hact;subst hact;go_wp2;refine bodyPost_ret (results_none rfl _ _ _) rfl ?_;exact ⟨⟨_,rfl⟩,k+1,KN.out,hx5⟩
   refine ⟨_,rfl,?_⟩;refine fin_now 6 (.bool false) (some 24) (by kernel_rfl) (by kernel_rfl) (by kernel_rfl) ?_;refine fin_now 7 (.bool false) (some 25) (by kernel_rfl) (by kernel_rfl) (by kernel_rfl) ?_;refine fin_done 8 (by kernel_rfl) ?_;generalize hact:Act.put _ (some 25) _=act;simp only [Act.put,sA,sC,sZ] at hact;subst hact;have JK5:=hZ hJ5;have KN5:=hZ hkn;have FE5:=hZ (hk5 FE4.out);clear hJ5 hkn hk5 YA JK4 FE4;go_upto_region 1 with (fail);refine lbeg (opsOf Tryz.f71 1) ?_;refine lnow 0 (.int .i64 (i:Int)) (some 7) ?_;refine lnow 1 (.int .i64 (IntKind.i64.wrap ((i:Int)+1))) (some 8) ?_;rw [show IntKind.i64.wrap ((i:Int)+1)=((i+1:Nat):Int) from (IntWalk.i64_in _ (by omega)).trans (by omega)];refine lnow 2 (.int .i64 ((i+1:Nat):Int)) (some 3) ?_;refine ldq 3 ?_;go_wp2;go_roundw
   case rel=>exact ⟨i+1,k+1,rfl,FK2,KN5,JK5,FE5⟩
   case measure=>simp [intOf];omega
end Go.Proofs.YtmceocgddaaohaaGreatDoor
