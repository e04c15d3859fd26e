import Derived.Test.YtmceocgddaaohaaGreatDoorQLevC
import Derived.Test.YtmceocgddaaohaaGreatDoorQGenT
import Derived.IntWalk
namespace Go.Proofs.YtmceocgddaaohaaGreatDoor
open Go Go.RowKit
set_option maxRecDepth 100000
inductive Tm where
 |mk (kind n:Int) (name:List UInt8) (levels:List Lv) (args:List Tm)
def Tm.kind:Tm→Int|.mk k _ _ _ _=>k
def Tm.n:Tm→Int|.mk _ n _ _ _=>n
def Tm.name:Tm→List UInt8|.mk _ _ s _ _=>s
def Tm.levels:Tm→List Lv|.mk _ _ _ l _=>l
def Tm.args:Tm→List Tm|.mk _ _ _ _ a=>a
theorem Tm.byParts {C:Tm→Prop} (h:∀ k n s l a,(∀ x∈a,C x)→C (.mk k n s l a)):∀ t,C t
 |.mk k n s l a=>h k n s l a fun x _=>Tm.byParts h x
termination_by t=>SizeOf.sizeOf t
decreasing_by
 have:=List.sizeOf_lt_of_mem ‹x∈a›
 simp
 omega
def strT (l:List UInt8):Value:=.string ⟨l.toArray⟩
def LvsOff (F:List Nat) (w:World) (v:Value) (ls:List Lv):Prop:=
 ∃ a cap,v=.slice a ls.length cap∧ls.length≤cap∧ls.length≤9223372036854775807∧(∀ l∈ls,l.p.length=4)∧(0<ls.length→∃ pb po,a=some ⟨pb,po,none⟩∧pb∉F∧pb<w.heap.size∧∀ (i:Nat) (l:Lv),ls[i]?=some l→w.rangeAt pb (po+5*i) (ints .i64 l.zs))
theorem Step.range {F F':List Nat} {w w':World} (hs:Step F w F' w') {pb o:Nat} {cs:List Value} (hb:pb<w.heap.size) (hF:pb∉F) (h:w.rangeAt pb o cs):w'.rangeAt pb o cs:=fun j u hu=>by
 rw [World.cell?_of_block (w:=w) (a:=⟨pb,o+j,none⟩) (hs.block pb hb hF)];exact h j u hu
theorem LvsOff.step {F F':List Nat} {w w':World} {v:Value} {ls:List Lv} (h:LvsOff F w v ls) (hs:Step F w F' w'):LvsOff F' w' v ls:=by
 obtain ⟨a,cap,h1,h2,h3,h4,h5⟩:=h;refine ⟨a,cap,h1,h2,h3,h4,fun hp=>?_⟩
 obtain ⟨pb,po,e,hF,hb,hr⟩:=h5 hp;exact ⟨pb,po,e,hs.off hb hF,Nat.lt_of_lt_of_le hb hs.size,fun i l hi=>hs.range hb hF (hr i l hi)⟩
theorem LvsOff.sub {F G:List Nat} {w:World} {v:Value} {ls:List Lv} (h:LvsOff F w v ls) (hG:∀ k∈G,k∈F∨w.heap.size≤k):LvsOff G w v ls:=by
 obtain ⟨a,cap,h1,h2,h3,h4,h5⟩:=h;refine ⟨a,cap,h1,h2,h3,h4,fun hp=>?_⟩
 obtain ⟨pb,po,e,hF,hb,hr⟩:=h5 hp;exact ⟨pb,po,e,fun hc=>by rcases hG pb hc with h|h;exact hF h;omega,hb,hr⟩
mutual
def TmAt (F:List Nat) (w:World):Tm→List Value→Prop
 |.mk k n s l a,cs=>∃ lv av,cs=[.int .i64 k,.int .i64 n,strT s,lv,av]∧LvsOff F w lv l∧TmsAt F w a av
def TmsAt (F:List Nat) (w:World):List Tm→Value→Prop
 |[],v=>∃ a cap,v=.slice a 0 cap
 |t::ts,v=>∃ cap pb po,v=.slice (some ⟨pb,po,none⟩) (ts.length+1) cap∧ts.length+1≤cap∧pb∉F∧pb<w.heap.size∧TmRow F w (t::ts) pb po
def TmRow (F:List Nat) (w:World):List Tm→Nat→Nat→Prop
 |[],_,_=>True
 |t::ts,pb,po=>(∃ cs,w.rangeAt pb po cs∧TmAt F w t cs)∧TmRow F w ts pb (po+5)
end
theorem LvsOff.nil (F:List Nat) (w:World) (a:Option Addr) (c:Nat):LvsOff F w (.slice a 0 c) []:=⟨a,c,rfl,Nat.zero_le _,by simp,fun l h=>by simp at h,fun h=>by simp at h⟩
mutual
theorem TmAt.step {F F':List Nat} {w w':World} (hs:Step F w F' w'):∀ (t:Tm) (cs:List Value),TmAt F w t cs→TmAt F' w' t cs
 |.mk k n s l a,cs,h=>by
  rw [TmAt] at h ⊢;obtain ⟨lv,av,h1,h2,h3⟩:=h;exact ⟨lv,av,h1,h2.step hs,TmsAt.step hs a av h3⟩
theorem TmsAt.step {F F':List Nat} {w w':World} (hs:Step F w F' w'):∀ (ts:List Tm) (v:Value),TmsAt F w ts v→TmsAt F' w' ts v
 |[],v,h=>by
  rw [TmsAt] at h ⊢;exact h
 |t::ts,v,h=>by
  rw [TmsAt] at h ⊢;obtain ⟨cap,pb,po,h1,h2,h3,h4,h5⟩:=h;exact ⟨cap,pb,po,h1,h2,hs.off h4 h3,Nat.lt_of_lt_of_le h4 hs.size,TmRow.step hs (t::ts) pb po h4 h3 h5⟩
theorem TmRow.step {F F':List Nat} {w w':World} (hs:Step F w F' w'):∀ (ts:List Tm) (pb po:Nat),pb<w.heap.size→pb∉F→TmRow F w ts pb po→TmRow F' w' ts pb po
 |[],_,_,_,_,_=>by rw [TmRow];trivial
 |t::ts,pb,po,hb,hF,h=>by
  rw [TmRow] at h ⊢;obtain ⟨⟨cs,h1,h2⟩,h3⟩:=h;exact ⟨⟨cs,hs.range hb hF h1,TmAt.step hs t cs h2⟩,TmRow.step hs ts pb (po+5) hb hF h3⟩
end
mutual
theorem TmAt.sub {F G:List Nat} {w:World} (hG:∀ k∈G,k∈F∨w.heap.size≤k):∀ (t:Tm) (cs:List Value),TmAt F w t cs→TmAt G w t cs
 |.mk k n s l a,cs,h=>by
  rw [TmAt] at h ⊢;obtain ⟨lv,av,h1,h2,h3⟩:=h;exact ⟨lv,av,h1,h2.sub hG,TmsAt.sub hG a av h3⟩
theorem TmsAt.sub {F G:List Nat} {w:World} (hG:∀ k∈G,k∈F∨w.heap.size≤k):∀ (ts:List Tm) (v:Value),TmsAt F w ts v→TmsAt G w ts v
 |[],v,h=>by
  rw [TmsAt] at h ⊢;exact h
 |t::ts,v,h=>by
  rw [TmsAt] at h ⊢;obtain ⟨cap,pb,po,h1,h2,h3,h4,h5⟩:=h;exact ⟨cap,pb,po,h1,h2,fun hc=>by rcases hG pb hc with h|h;exact h3 h;omega,h4,TmRow.sub hG (t::ts) pb po h5⟩
theorem TmRow.sub {F G:List Nat} {w:World} (hG:∀ k∈G,k∈F∨w.heap.size≤k):∀ (ts:List Tm) (pb po:Nat),TmRow F w ts pb po→TmRow G w ts pb po
 |[],_,_,_=>by rw [TmRow];trivial
 |t::ts,pb,po,h=>by
  rw [TmRow] at h ⊢;obtain ⟨⟨cs,h1,h2⟩,h3⟩:=h;exact ⟨⟨cs,h1,TmAt.sub hG t cs h2⟩,TmRow.sub hG ts pb (po+5) h3⟩
end
theorem TmAt.below {F:List Nat} {w w':World} {t:Tm} {cs:List Value} (h:TmAt F w t cs) (hb:Below w.heap.size w w'):TmAt F w' t cs:=TmAt.step (Step.of_below hb (Nat.le_refl _)) t cs h
theorem TmsAt.below {F:List Nat} {w w':World} {ts:List Tm} {v:Value} (h:TmsAt F w ts v) (hb:Below w.heap.size w w'):TmsAt F w' ts v:=TmsAt.step (Step.of_below hb (Nat.le_refl _)) ts v h
theorem TmAt.open {F:List Nat} {w:World} {t:Tm} {cs:List Value} (h:TmAt F w t cs):∃ lv av,cs=[.int .i64 t.kind,.int .i64 t.n,strT t.name,lv,av]∧LvsOff F w lv t.levels∧TmsAt F w t.args av:=by
 obtain ⟨k,n,s,l,a⟩:=t;rw [TmAt] at h;exact h
theorem TmAt.mk {F:List Nat} {w:World} {t:Tm} {lv av:Value} (h1:LvsOff F w lv t.levels) (h2:TmsAt F w t.args av):TmAt F w t [.int .i64 t.kind,.int .i64 t.n,strT t.name,lv,av]:=by
 obtain ⟨k,n,s,l,a⟩:=t;rw [TmAt];exact ⟨lv,av,rfl,h1,h2⟩
theorem TmAt.len {F:List Nat} {w:World} {t:Tm} {cs:List Value} (h:TmAt F w t cs):cs.length=5:=by
 obtain ⟨lv,av,rfl,-⟩:=h.open
 rfl
theorem TmsAt.slice {F:List Nat} {w:World} {ts:List Tm} {v:Value} (h:TmsAt F w ts v):∃ a cap,v=.slice a ts.length cap:=by
 cases ts with
 |nil=>rw [TmsAt] at h;exact h
 |cons t ts=>
  rw [TmsAt] at h;obtain ⟨cap,pb,po,h1,-⟩:=h;exact ⟨_,_,h1⟩
theorem LvsOff.slice {F:List Nat} {w:World} {ls:List Lv} {v:Value} (h:LvsOff F w v ls):∃ a cap,v=.slice a ls.length cap:=by
 obtain ⟨a,cap,h1,-⟩:=h;exact ⟨a,cap,h1⟩
theorem TmAt.one {F:List Nat} {w:World} {t:Tm} {cs:List Value} (h:TmAt F w t cs):∀ u∈cs,u.oneCell'=true:=by
 obtain ⟨lv,av,rfl,h1,h2⟩:=h.open;obtain ⟨a1,c1,rfl⟩:=h1.slice;obtain ⟨a2,c2,rfl⟩:=h2.slice;intro u hu;simp only [List.mem_cons,List.not_mem_nil,or_false] at hu;rcases hu with rfl|rfl|rfl|rfl|rfl<;>rfl
theorem TmRow.get {F:List Nat} {w:World}:∀ (ts:List Tm) (pb po i:Nat) (t:Tm),TmRow F w ts pb po→ts[i]?=some t→∃ cs,w.rangeAt pb (po+5*i) cs∧TmAt F w t cs
 |[],_,_,_,_,_,h=>by simp at h
 |t0::ts,pb,po,0,t,h,hi=>by
  rw [TmRow] at h;obtain rfl:t0=t:=(by simpa using hi);exact h.1
 |t0::ts,pb,po,i+1,t,h,hi=>by
  rw [TmRow] at h;obtain ⟨cs,h1,h2⟩:=TmRow.get ts pb (po+5) i t h.2 (by simpa using hi);exact ⟨cs,by rw [show po+5*(i+1)=po+5+5*i by omega];exact h1,h2⟩
theorem TmRow.of {F:List Nat} {w:World}:∀ (ts:List Tm) (pb po:Nat),(∀ (i:Nat) (t:Tm),ts[i]?=some t→∃ cs,w.rangeAt pb (po+5*i) cs∧TmAt F w t cs)→TmRow F w ts pb po
 |[],_,_,_=>by rw [TmRow];trivial
 |t::ts,pb,po,h=>by
  rw [TmRow];refine ⟨by simpa using h 0 t rfl,TmRow.of ts pb (po+5) fun i t' hi=>?_⟩
  obtain ⟨cs,h1,h2⟩:=h (i+1) t' (by simpa using hi);exact ⟨cs,by rw [show po+5+5*i=po+5*(i+1) by omega];exact h1,h2⟩
theorem TmsAt.get {F:List Nat} {w:World} {ts:List Tm} {a:Option Addr} {n c:Nat} (h:TmsAt F w ts (.slice a n c)) (hn:ts.length=n) {i:Nat} (hi:i<n):∃ t pb po cs,ts[i]?=some t∧t∈ts∧a=some ⟨pb,po,none⟩∧pb∉F∧pb<w.heap.size∧n≤c∧w.rangeAt pb (po+5*i) cs∧TmAt F w t cs:=by
 cases ts with
 |nil=>simp at hn;omega
 |cons t0 ts=>
  rw [TmsAt] at h;obtain ⟨cap,pb,po,h1,h2,h3,h4,h5⟩:=h;obtain ⟨rfl,e2,rfl⟩:=Value.slice.inj h1;have hg:(t0::ts)[i]?=some ((t0::ts)[i]'(by omega)):=List.getElem?_eq_getElem (by omega);obtain ⟨cs,h6,h7⟩:=TmRow.get (t0::ts) pb po i _ h5 hg;exact ⟨_,pb,po,cs,hg,List.getElem_mem _,rfl,h3,h4,by omega,h6,h7⟩
theorem TmsAt.of {F:List Nat} {w:World} {ts:List Tm} {pb po c:Nat} (hc:ts.length≤c) (hF:pb∉F) (hb:pb<w.heap.size) (h:∀ (i:Nat) (t:Tm),ts[i]?=some t→∃ cs,w.rangeAt pb (po+5*i) cs∧TmAt F w t cs):TmsAt F w ts (.slice (some ⟨pb,po,none⟩) ts.length c):=by
 cases ts with
 |nil=>rw [TmsAt];exact ⟨_,_,rfl⟩
 |cons t ts=>
  rw [TmsAt];exact ⟨c,pb,po,rfl,by simpa using hc,hF,hb,TmRow.of _ _ _ h⟩
theorem TmsAt.nil (F:List Nat) (w:World) (a:Option Addr) (c:Nat):TmsAt F w [] (.slice a 0 c):=by
 rw [TmsAt];exact ⟨a,c,rfl⟩
def TmCells (F:List Nat) (w:World):List Tm→List (List Value)→Prop
 |[],[]=>True
 |t::ts,c::cs=>TmAt F w t c∧TmCells F w ts cs
 |_,_=>False
theorem TmCells.len {F:List Nat} {w:World}:∀ {ts:List Tm} {cs:List (List Value)},TmCells F w ts cs→cs.length=ts.length
 |[],[],_=>rfl
 |_::_,_::_,h=>by simp [TmCells.len h.2]
 |[],_::_,h=>h.elim
 |_::_,[],h=>h.elim
theorem TmCells.at {F:List Nat} {w:World}:∀ {ts:List Tm} {cs:List (List Value)} {i:Nat} {t:Tm},TmCells F w ts cs→ts[i]?=some t→∃ c,TmAt F w t c∧∀ (j:Nat) (u:Value),c[j]?=some u→cs.flatten[5*i+j]?=some u
 |[],[],i,t,_,hi=>by simp at hi
 |t0::ts,c::cs,0,t,h,hi=>by
  obtain rfl:t0=t:=(by simpa using hi);refine ⟨c,h.1,fun j u hu=>?_⟩
  have hj:=(List.getElem?_eq_some_iff.1 hu).1;rw [List.flatten_cons,List.getElem?_append_left (by omega)]
  simpa using hu
 |t0::ts,c::cs,i+1,t,h,hi=>by
  obtain ⟨c',h1,h2⟩:=TmCells.at h.2 (i:=i) (t:=t) (by simpa using hi);refine ⟨c',h1,fun j u hu=>?_⟩
  have:=h.1.len;rw [List.flatten_cons,List.getElem?_append_right (by omega),this,show 5*(i+1)+j-5=5*i+j by omega];exact h2 j u hu
 |[],_::_,_,_,h,_=>h.elim
 |_::_,[],_,_,h,_=>h.elim
theorem TmCells.step {F F':List Nat} {w w':World} (hs:Step F w F' w'):∀ {ts:List Tm} {cs:List (List Value)},TmCells F w ts cs→TmCells F' w' ts cs
 |[],[],_=>trivial
 |t::_,_::_,h=>⟨TmAt.step hs t _ h.1,TmCells.step hs h.2⟩
 |[],_::_,h=>h.elim
 |_::_,[],h=>h.elim
theorem TmCells.sub {F G:List Nat} {w:World} (hG:∀ k∈G,k∈F∨w.heap.size≤k):∀ {ts:List Tm} {cs:List (List Value)},TmCells F w ts cs→TmCells G w ts cs
 |[],[],_=>trivial
 |t::_,_::_,h=>⟨TmAt.sub hG t _ h.1,TmCells.sub hG h.2⟩
 |[],_::_,h=>h.elim
 |_::_,[],h=>h.elim
theorem TmCells.snoc {F:List Nat} {w:World} {t:Tm} {c:List Value} (ht:TmAt F w t c):∀ {ts:List Tm} {cs:List (List Value)},TmCells F w ts cs→TmCells F w (ts++[t]) (cs++[c])
 |[],[],_=>⟨ht,trivial⟩
 |_::_,_::_,h=>⟨h.1,TmCells.snoc ht h.2⟩
 |[],_::_,h=>h.elim
 |_::_,[],h=>h.elim
mutual
def SmT:Tm→Prop
 |.mk _ _ s l a=>s.length≤reachBytes∧l.length*40≤reachBytes∧a.length*80≤reachBytes∧SmTs a
def SmTs:List Tm→Prop
 |[]=>True
 |t::ts=>SmT t∧SmTs ts
end
theorem SmTs.of:∀ {ts:List Tm},(∀ t∈ts,SmT t)→SmTs ts
 |[],_=>by rw [SmTs];trivial
 |t::ts,h=>by
  rw [SmTs];exact ⟨h t List.mem_cons_self,SmTs.of fun x hx=>h x (List.mem_cons_of_mem _ hx)⟩
theorem SmTs.mem:∀ {ts:List Tm} {t:Tm},SmTs ts→t∈ts→SmT t
 |t0::ts,t,h,hm=>by
  rw [SmTs] at h;rcases List.mem_cons.1 hm with rfl|hm
  ·exact h.1
  ·exact SmTs.mem h.2 hm
theorem SmT.open {t:Tm} (h:SmT t):t.name.length≤reachBytes∧t.levels.length*40≤reachBytes∧t.args.length*80≤reachBytes∧SmTs t.args:=by
 obtain ⟨k,n,s,l,a⟩:=t;rw [SmT] at h;exact h
end Go.Proofs.YtmceocgddaaohaaGreatDoor
namespace Go.Proofs.YtmceocgddaaohaaGreatDoor
open Go Go.RowKit
set_option maxRecDepth 100000
def letterB (c:UInt8):Bool:=(decide (97≤c.toNat)&&decide (c.toNat≤122))||(decide (65≤c.toNat)&&decide (c.toNat≤90))
def digitB (c:UInt8):Bool:=decide (48≤c.toNat)&&decide (c.toNat≤57)
def partsB:Bool→List UInt8→Bool
 |b,[]=>!b
 |true,c::cs=>letterB c&&partsB false cs
 |false,c::cs=>if c=46 then partsB true cs else (letterB c||digitB c||decide (c=95))&&partsB false cs
def argsOf (k:Int):Nat:=if k=5∨k=6∨k=7 then 2 else if k=8 then 3 else if k=9 then 1 else 0
def moreT (k:Int) (i:Nat):Int:=if ((k=6∨k=7)∧i=1)∨(k=8∧i=2) then 1 else 0
theorem more_01 (k:Int) (i:Nat):0≤moreT k i∧moreT k i≤1:=by unfold moreT;split<;>omega
mutual
def nodesT:Tm→Nat
 |.mk _ _ _ l a=>1+l.length+nodesTs a
def nodesTs:List Tm→Nat
 |[]=>0
 |t::ts=>nodesT t+nodesTs ts
end
def headT (wordOk:List UInt8→Bool) (p deep k n:Int) (s:List UInt8) (l:List Lv) (a:Nat):Bool:=
 decide (1≤k)&&decide (k≤9)&&decide (deep≤200)&&decide (a=argsOf k)&&(if k=3 then decide (l.length=1) else if k=4 then decide (l.length≤4) else decide (l.length=0))&&
  l.all (fun x=>rightL x&&decide ((widthL x:Int)≤p))&&(if k=4∨k=9 then wordOk s else decide (s=[]))&&decide (0≤n)&&(if k=9 then decide (n≤31) else if k=1 then true else decide (n=0))
mutual
def rightT (wordOk:List UInt8→Bool) (p v deep:Int):Tm→Bool
 |.mk k n s l a=>headT wordOk p deep k n s l a.length&&(decide (k≠1)||decide (n<v))&&rightTs wordOk p v deep k 0 a
def rightTs (wordOk:List UInt8→Bool) (p v deep k:Int) (i:Nat):List Tm→Bool
 |[]=>true
 |t::ts=>rightT wordOk p (v+moreT k i) (deep+moreT k i) t&&rightTs wordOk p v deep k (i+1) ts
end
theorem head_mono {wo:List UInt8→Bool} {p p' deep k n:Int} {s:List UInt8} {l:List Lv} {a:Nat} (hp:p≤p') (h:headT wo p deep k n s l a=true):headT wo p' deep k n s l a=true:=by
 simp only [headT,Bool.and_eq_true,List.all_eq_true] at h ⊢;obtain ⟨⟨⟨⟨h1,h2⟩,h3⟩,h4⟩,h5⟩:=h;refine ⟨⟨⟨⟨h1,fun x hx=>?_⟩,h3⟩,h4⟩,h5⟩
 have:=h2 x hx;simp only [decide_eq_true_eq] at this ⊢;exact ⟨this.1,by omega⟩
mutual
theorem right_mono {wo:List UInt8→Bool} {p p':Int} (hp:p≤p'):∀ (t:Tm) (v v' deep:Int),v≤v'→rightT wo p v deep t=true→rightT wo p' v' deep t=true
 |.mk k n s l a,v,v',deep,hv,h=>by
  simp only [rightT,Bool.and_eq_true] at h ⊢;obtain ⟨⟨h1,h2⟩,h3⟩:=h;refine ⟨⟨head_mono hp h1,?_⟩,rights_mono hp a k 0 v v' deep hv h3⟩;simp only [Bool.or_eq_true,decide_eq_true_eq] at h2 ⊢;omega
theorem rights_mono {wo:List UInt8→Bool} {p p':Int} (hp:p≤p'):∀ (ts:List Tm) (k:Int) (i:Nat) (v v' deep:Int),v≤v'→rightTs wo p v deep k i ts=true→rightTs wo p' v' deep k i ts=true
 |[],_,_,_,_,_,_,_=>by rw [rightTs]
 |t::ts,k,i,v,v',deep,hv,h=>by
  simp only [rightTs,Bool.and_eq_true] at h ⊢;exact ⟨right_mono hp t _ _ _ (by omega) h.1,rights_mono hp ts k (i+1) v v' deep hv h.2⟩
end
def appT (f:Tm):List Tm→Tm
 |[]=>f
 |t::ts=>appT (.mk 5 0 [] [] [f,t]) ts
def bindT (k:Int) (body:Tm):List Tm→Tm
 |[]=>body
 |t::ts=>.mk k 0 [] [] [t,bindT k body ts]
theorem app_snoc (f:Tm):∀ (ts:List Tm) (x:Tm),appT f (ts++[x])=.mk 5 0 [] [] [appT f ts,x]
 |[],_=>rfl
 |t::ts,x=>app_snoc (.mk 5 0 [] [] [f,t]) ts x
end Go.Proofs.YtmceocgddaaohaaGreatDoor
namespace Go.Proofs.YtmceocgddaaohaaGreatDoor
open Go Go.RowKit
set_option maxRecDepth 100000
theorem t5Size {cs:List Value} (h:cs.length=5):(Tryz.prog.info? 25).map (·.size)=some cs.length:=by rw [h];kernel_rfl
theorem elemTms:Tryz.prog.underlying 23=some (.slice (Tryz.prog.elem 23)):=by kernel_rfl
theorem run_at_tm (B off n cap m:Nat) (hm:m<n) (w:World):(Instr.indexAt 23 (.slice (some ⟨B,off,none⟩) n cap) (.int .i64 (m:Int))).run Tryz.prog w=.ok (.pointer (some ⟨B,off+5*m,none⟩)) w:=by
 rw [run_indexAt_slice w 23 _ _ _ _ _ elemTms];have hz:(sizeOf (Tryz.prog.elem 23)).run Tryz.prog w=.ok 5 w:=(by kernel_rfl);rw [if_pos (by omega),hz,Result.andThen_ok,Addr.add_mid,Int.toNat_natCast,Nat.mul_comm]
theorem exec_min {P:Program} {a:Act} {w:World} {op:Oper} (ts:Array TypeId) (t:TypeId) (x y:Int) (h:execOp a.eval op=(Builtin.min_ ts t #[.int .i64 x,.int .i64 y] >>= fun x=>pure (.value x))):(execOp a.eval op).run P w=.ok (.value (.int .i64 (min x y))) w:=by
 have hr:(Builtin.min_ ts t #[.int .i64 x,.int .i64 y]).run P w=.ok (.int .i64 (min x y)) w:=by
  rw [run_min_int2]
  congr 2
  split<;>omega
 rw [h,Sem.run_bind,hr]
 rfl
theorem nodesTs_snoc:∀ (a:List Tm) (t:Tm),nodesTs (a++[t])=nodesTs a+nodesT t
 |[],t=>by simp [nodesTs]
 |x::a,t=>by simp [nodesTs,nodesTs_snoc a t];omega
theorem nodesTs_take (a:List Tm) (k:Nat):nodesTs (a.take k)≤nodesTs a:=by
 induction a generalizing k with
 |nil=>simp
 |cons x a ih=>cases k with
  |zero=>simp [nodesTs]
  |succ k=>simp [nodesTs];exact ih k
theorem nodesTs_next {a:List Tm} {k:Nat} {t:Tm} (h:a[k]?=some t):nodesTs (a.take (k+1))=nodesTs (a.take k)+nodesT t:=by
 rw [List.take_add_one,h];exact nodesTs_snoc _ _
set_option maxHeartbeats 4000000 in
theorem tnodes_walk:∀ (t:Tm) (cs:List Value) (w:World) (most:Nat) (F:List Nat),TmAt F w t cs→SmT t→most≤1000000→Calls Tryz.prog 13 #[.agg cs.toArray,.int .i64 (most:Int)] w fun e w'=>e=.returned (.int .i64 ((min (nodesT t) (most+1):Nat):Int))∧Below w.heap.size w w':=by
 refine Tm.byParts fun k n s l a ih cs w most F h hs hm=>?_;obtain ⟨lv,av,rfl,h1,h2⟩:=h.open;obtain ⟨-,sl,sa,ss⟩:=hs.open;dsimp only [Tm.kind,Tm.n,Tm.name,Tm.levels,Tm.args] at h h1 h2 sl sa ss ⊢;obtain ⟨la,lc,rfl⟩:=h1.slice;obtain ⟨aa,ac,rfl⟩:=h2.slice;have hr:reachBytes=140737488351232:=rfl;obtain ⟨L,hL⟩:∃ L,Hid (l.length=L):=⟨_,rfl⟩;obtain ⟨N,hN⟩:∃ N,Hid (a.length=N):=⟨_,rfl⟩;rw [hL.out] at sl ⊢;rw [hN.out] at sa h2 ⊢;rw [hr] at sl sa;have HA:=hZ h2;have SS:=hZ ss;have hN2:Hid (nodesT (.mk k n s l a)=1+L+nodesTs a):=(by rw [Hid,nodesT,hL.out]);obtain ⟨S,hS⟩:∃ S,Hid (nodesT (.mk k n s l a)=S):=⟨_,rfl⟩;rw [hS.out];rw [hS.out] at hN2;obtain ⟨q,hq⟩:∃ q,Hid (w.heap.size=q):=⟨_,rfl⟩;rw [hq.out];obtain ⟨sv,hsv⟩:∃ x,Hid (strT s=x):=⟨_,rfl⟩;obtain ⟨CS,hCS⟩:∃ x,Hid ([.int .i64 k,.int .i64 n,strT s,.slice la L lc,.slice aa N ac]=x):=⟨_,rfl⟩;have CL:Hid (CS.length=5):=(by rw [Hid,← hCS.out];rfl);have C1:Hid (∀ u∈CS,u.oneCell'=true):=by
  have:=h.one;rw [hL.out,hN.out,hCS.out] at this;exact this
 rw [hCS.out];clear h h1 h2 ss hsv
 go_enter Tryz.func13,Tryz.ntmps13
 go_upto_region 0 with (fail);refine lbeg (opsOf Tryz.f13 0) ?_;refine lbox 0 25 (.tmp 0) CS q (some 2) hq ?_;intro w1 b1 be1 hs1;refine lnow 1 (.int .i64 0) (some 4) ?_;refine ldn 2 ?_;have B1:=hZ b1;have BE:Hid (Below q w w1):=be1;clear b1 be1;generalize hact:Act.put _ (some 4) _=act;simp only [Act.put,sA,sC,sZ] at hact;subst hact;have c3:w1.cell? ⟨q,3,none⟩=some (.slice la L lc):=B1.out.cell (by rw [← hCS.out];rfl);go_upto_region 1 with (fail);refine lbeg (opsOf Tryz.f13 1) ?_;refine lnow 0 (.pointer (some ⟨q,3,none⟩)) (some 7) ?_;refine lcl 1 (.slice la L lc) (some 8) 22 7 q 3 c3 Tryz.underlying22 ?_;refine lnow 2 (.int .i64 (L:Int)) (some 9) ?_;refine lnow 3 (.int .i64 (IntKind.i64.wrap (1+(L:Int)))) (some 10) ?_;rw [show IntKind.i64.wrap (1+(L:Int))=((1+L:Nat):Int) from (IntWalk.i64_in _ (by omega)).trans (by omega)];obtain ⟨v0,hv0⟩:∃ x,Hid (1+L=x):=⟨_,rfl⟩;rw [hv0.out];refine lnow 4 (.int .i64 (v0:Int)) (some 5) ?_;refine ldq 5 ?_;clear c3;go_wp2
 go_loopw [5,6] (fun vv iv wr=>∃ i v:Nat,i≤N∧iv=.int .i64 (i:Int)∧vv=.int .i64 (v:Int)∧Hid (min v (most+1)=min (1+L+nodesTs (a.take i)) (most+1))∧Hid (v≤4000000000000)∧Hid (Blk wr q 25 CS)∧Hid (Below q w wr)) (fun _ iv _=>N-(intOf iv).toNat)
 case atStart=>exact ⟨0,v0,Nat.zero_le _,rfl,rfl,by rw [Hid,← hv0.out];simp [nodesTs],by rw [Hid,← hv0.out];omega,B1,BE⟩
 case round=>
  obtain ⟨i,v,hi,rfl,rfl,hV,hB,BQ,BW⟩:=hrel;have c4:wr.cell? ⟨q,4,none⟩=some (.slice aa N ac):=BQ.out.cell (by rw [← hCS.out];rfl);have hB':=hB.out;by_cases hlt:i<N
  ·have r1:(i:Int)<(N:Int):=by omega
   by_cases hvm:v≤most
   ·have r2:(v:Int)≤(most:Int):=by omega
    obtain ⟨x,pb,po,cx,hxi,hxm,hxa,-,hpb,-,hxr,hxt⟩:=(TmsAt.step (Step.of_below BW.out (Nat.le_of_eq hq.out)) a _ HA.out:TmsAt F wr a _).get hN.out hlt;subst hxa;have XS:=SmTs.mem SS.out hxm;have X5:=hxt.len;have NX:=nodesTs_next hxi;have QW:Hid (q≤wr.heap.size):=(by rw [Hid,← hq.out];exact BW.out.size);obtain ⟨r,hrr⟩:∃ r,Hid (min (nodesT x) (most+1)=r):=⟨_,rfl⟩;have RB:Hid (r≤most+1):=(by have:=hrr.out;rw [Hid];omega);have HV2:Hid (min (v+r) (most+1)=min (1+L+nodesTs (a.take (i+1))) (most+1)):=by
     have h1:=hV.out;have h2:=hrr.out;rw [Hid,NX];omega
    have CALL:=ih x hxm cx wr most F hxt XS hm;rw [hrr.out] at CALL;obtain ⟨TC,hTC⟩:∃ z,Hid (Value.agg cx.toArray=z):=⟨_,rfl⟩;go_upto_region 5 with (fail);refine lbeg (opsOf Tryz.f13 5) ?_;refine lnow 0 (.int .i64 (v:Int)) (some 23) ?_;refine lnow 1 (.pointer (some ⟨q,4,none⟩)) (some 24) ?_;refine lcl 2 (.slice (some ⟨pb,po,none⟩) N ac) (some 25) 23 24 q 4 c4 Tryz.underlying23 ?_;refine lnow 3 (.int .i64 (i:Int)) (some 26) ?_;refine lix 4 (.pointer (some ⟨pb,po+5*i,none⟩)) (some 27) 23 25 26 (run_at_tm pb po N ac i hlt _) ?_;refine lrl 5 cx (some 28) 25 27 pb (po+5*i) hxr Tryz.underlying25 (t5Size X5) ?_;refine lnow 6 (.int .i64 (most:Int)) (some 29) ?_;refine lcal 7 13 #[.agg cx.toArray,.int .i64 (most:Int)] (some 30) _ CALL ?_;rintro e w2 ⟨rfl,hb2⟩;refine ⟨_,rfl,?_⟩;refine lnow 8 (.int .i64 (IntKind.i64.wrap ((v:Int)+(r:Int)))) (some 31) ?_;rw [show IntKind.i64.wrap ((v:Int)+(r:Int))=((v+r:Nat):Int) from (IntWalk.i64_in _ (by have:=RB.out;omega)).trans (by omega)];obtain ⟨v2,hv2⟩:∃ x,Hid (v+r=x):=⟨_,rfl⟩;rw [hv2.out];refine lnow 9 (.int .i64 (v2:Int)) (some 5) ?_;refine ldn 10 ?_;have BQ2:Hid (Blk w2 q 25 CS):=BQ.out.below hb2 BQ.out.lt;have BW2:Hid (Below q w w2):=BW.out.trans (hb2.mono QW.out);have VB:Hid (v2≤4000000000000):=(by have:=RB.out;have:=hv2.out;rw [Hid];omega);rw [hv2.out] at HV2;clear hb2 BW BQ c4 hB' hB hV CALL hxr hxt hTC;generalize hact:Act.put _ (some 5) _=act
    simp only [Act.put,sA,sC,sZ] at hact;subst hact;go_wp2;go_roundw
    case rel=>exact ⟨i+1,v2,by omega,by go_num,rfl,HV2,VB,BQ2,BW2⟩
    case measure=>simp [intOf];omega
   ·have r2:¬ (v:Int)≤(most:Int):=by omega
    have FIN:Hid (min v (most+1)=min S (most+1)):=by
     have h1:=hV.out;have h2:=hN2.out;have h3:=nodesTs_take a i;rw [Hid];omega
    go_upto_region 6 with (fail);refine lbeg (opsOf Tryz.f13 6) ?_;refine lnow 0 (.int .i64 (v:Int)) (some 32) ?_;refine lnow 1 (.int .i64 (most:Int)) (some 33) ?_;refine lnow 2 (.int .i64 (IntKind.i64.wrap ((most:Int)+1))) (some 34) ?_;rw [show IntKind.i64.wrap ((most:Int)+1)=((most+1:Nat):Int) from (IntWalk.i64_in _ (by omega)).trans (by omega)];refine lnowP 3 (.int .i64 (min (v:Int) ((most+1:Nat):Int))) (some 35) (exec_min #[3,3] 3 _ _ (by kernel_rfl)) ?_;rw [show min (v:Int) ((most+1:Nat):Int)=((min S (most+1):Nat):Int) from by have:=FIN.out;omega];refine lnow 4 (.int .i64 ((min S (most+1):Nat):Int)) (some 4) ?_;refine ldq 5 ?_;go_wp2;go_ret;exact ⟨rfl,BW.out⟩
  ·have r1:¬ (i:Int)<(N:Int):=by omega
   have FIN:Hid (min v (most+1)=min S (most+1)):=by
    have h1:=hV.out;have h2:=hN2.out;rw [List.take_of_length_le (by have:=hN.out;omega)] at h1;rw [Hid];omega
   go_upto_region 6 with (fail);refine lbeg (opsOf Tryz.f13 6) ?_;refine lnow 0 (.int .i64 (v:Int)) (some 32) ?_;refine lnow 1 (.int .i64 (most:Int)) (some 33) ?_;refine lnow 2 (.int .i64 (IntKind.i64.wrap ((most:Int)+1))) (some 34) ?_;rw [show IntKind.i64.wrap ((most:Int)+1)=((most+1:Nat):Int) from (IntWalk.i64_in _ (by omega)).trans (by omega)];refine lnowP 3 (.int .i64 (min (v:Int) ((most+1:Nat):Int))) (some 35) (exec_min #[3,3] 3 _ _ (by kernel_rfl)) ?_;rw [show min (v:Int) ((most+1:Nat):Int)=((min S (most+1):Nat):Int) from by have:=FIN.out;omega];refine lnow 4 (.int .i64 ((min S (most+1):Nat):Int)) (some 4) ?_;refine ldq 5 ?_;go_wp2;go_ret;exact ⟨rfl,BW.out⟩
end Go.Proofs.YtmceocgddaaohaaGreatDoor
namespace Go.Proofs.YtmceocgddaaohaaGreatDoor
open Go Go.RowKit
set_option maxRecDepth 100000
theorem infoTm:(Tryz.prog.info? 25).map (fun i=>(i.zero,i.size,i.bytes))=some (some (.agg #[.int .i64 0,.int .i64 0,strT [],.slice none 0 0,.slice none 0 0]),5,80):=by kernel_rfl
theorem infoLvS:(Tryz.prog.info? 80).map (fun i=>(i.zero,i.size,i.bytes))=some (some (.agg (ints .i64 z5).toArray),5,40):=by kernel_rfl
theorem elemTms1:Tryz.prog.underlying 23=some (.slice 25):=by kernel_rfl
theorem elemLvs1:Tryz.prog.underlying 22=some (.slice 80):=by kernel_rfl
theorem run_build_tm (k n:Int) (s:ByteArray) (la aa:Option Addr) (L lc N ac:Nat) (w:World):(Instr.buildSlice 23 1 #[(0,.agg [Value.int .i64 k,.int .i64 n,.string s,.slice la L lc,.slice aa N ac].toArray)]).run Tryz.prog w=.ok (.slice (some ⟨w.heap.size,0,none⟩) 1 1) (w.alloc (.cells [Value.int .i64 k,.int .i64 n,.string s,.slice la L lc,.slice aa N ac].toArray 25)):=by kernel_rfl
end Go.Proofs.YtmceocgddaaohaaGreatDoor
