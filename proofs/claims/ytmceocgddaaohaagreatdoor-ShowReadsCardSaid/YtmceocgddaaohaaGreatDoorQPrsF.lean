import Derived.Test.YtmceocgddaaohaaGreatDoorQLexI
import Derived.Test.YtmceocgddaaohaaGreatDoorQGenT
import Derived.Test.YtmceocgddaaohaaGreatDoorQPrsD
import Derived.Deep.LoopGhost
namespace Go.Proofs.YtmceocgddaaohaaGreatDoor
open Go Go.RowKit
set_option maxRecDepth 100000
theorem tail_lt {l:List (List UInt8)} (h:nx l≠[]):l.tail.length+1=l.length:=by
 cases l with
 |nil=>exact absurd rfl h
 |cons s l=>simp
theorem exP_ok {s:List UInt8} {l r:List (List UInt8)} {x:Unit} (h:exP s l=.ok x r):nx l=s∧r=l.tail:=by
 unfold exP at h
 split at h
 ·next h1=>injection h with _ h2;exact ⟨h1,h2.symm⟩
 ·cases h
theorem exP_lt {s:List UInt8} {l r:List (List UInt8)} {x:Unit} (h:exP s l=.ok x r) (h0:s≠[]):r.length+1=l.length:=by
 obtain ⟨h1,rfl⟩:=exP_ok h;exact tail_lt (by rw [h1];exact h0)
theorem namP_ok {l r:List (List UInt8)} {x:List UInt8} (h:namP l=.ok x r):wordB (nx l)=true∧x=nx l∧r=l.tail:=by
 unfold namP at h
 split at h
 ·next h1=>injection h with h2 h3;exact ⟨h1,h2.symm,h3.symm⟩
 ·cases h
theorem word_ne {s:List UInt8} (h:wordB s=true):s≠[]:=fun e=>by subst e;exact absurd h (by decide)
theorem namP_lt {l r:List (List UInt8)} {x:List UInt8} (h:namP l=.ok x r):r.length+1=l.length:=by
 obtain ⟨h1,-,rfl⟩:=namP_ok h;exact tail_lt (word_ne h1)
theorem num_ne {s:List UInt8} {n:Nat} (h:numO s=some n):s≠[]:=fun e=>by subst e;exact absurd h (by simp [show numO []=none from rfl])
theorem numQ_ok {l r:List (List UInt8)} {n:Nat} (h:numQ l=.ok n r):numO (nx l)=some n∧r=l.tail:=by
 unfold numQ at h
 split at h
 ·next m h1=>injection h with h2 h3;exact ⟨h2 ▸ h1,h3.symm⟩
 ·cases h
theorem numQ_lt {l r:List (List UInt8)} {n:Nat} (h:numQ l=.ok n r):r.length+1=l.length:=by
 obtain ⟨h1,rfl⟩:=numQ_ok h;exact tail_lt (num_ne h1)
theorem numTo_ok {m:Nat} {l r:List (List UInt8)} {n:Nat} (h:numTo m l=.ok n r):numO (nx l)=some n∧n≤m∧r=l.tail:=by
 unfold numTo at h
 split at h
 ·next k h1=>
  split at h
  ·next h4=>injection h with h2 h3;subst h2;exact ⟨h1,h4,h3.symm⟩
  ·cases h
 ·cases h
theorem numTo_lt {m:Nat} {l r:List (List UInt8)} {n:Nat} (h:numTo m l=.ok n r):r.length+1=l.length:=by
 obtain ⟨h1,-,rfl⟩:=numTo_ok h;exact tail_lt (num_ne h1)
theorem rightP1_ok {lv:Lv} {n p:Nat} {l r:List (List UInt8)} {x:Lv} (h:rightP1 lv n p l=.ok x r):n≤100∧r=l:=by
 unfold rightP1 at h
 split at h
 ·next h1=>injection h with _ h2;exact ⟨h1,h2.symm⟩
 ·cases h
theorem us4_ne {s:List UInt8} (h:s∈us4):s≠[]:=fun e=>by subst e;exact absurd h (by decide)
theorem partP_lt {b:Bool} {l r:List (List UInt8)} {x:Lv} (h:partP b l=.ok x r):r.length+1≤l.length:=by
 unfold partP at h
 split at h
 ·next h1=>
  have ht:=tail_lt (us4_ne h1);obtain ⟨n,r1,h2,h3⟩:=PR.bind_get h;obtain ⟨-,rfl⟩:=rightP1_ok h3
  split at h2
  ·next h4=>
   have h5:=numQ_lt h2;have h6:=tail_lt (l:=l.tail) (by rw [h4.2];simp);omega
  ·injection h2 with _ h5
   rw [← h5];omega
 ·obtain ⟨n,r1,h2,h3⟩:=PR.bind_get h
  obtain ⟨-,rfl⟩:=rightP1_ok h3;have:=numQ_lt h2;omega
theorem lvLoop_le:∀ (f:Nat) {c:List Lv} {l r:List (List UInt8)} {x:Lv},lvLoop f c l=.ok x r→r.length≤l.length
 |0,_,_,_,_,h=>by cases h
 |f+1,c,l,r,x,h=>by
  rw [lvLoop] at h
  split at h
  ·next h1=>
   have ht:=tail_lt (l:=l) (by rw [h1];simp);obtain ⟨_,r1,h2,h3⟩:=PR.bind_get h;have:=partP_lt h2;have:=lvLoop_le f h3;omega
  ·injection h with _ h2
   rw [h2];exact Nat.le_refl _
theorem levelQ_lt {l r:List (List UInt8)} {x:Lv} (h:levelQ l=.ok x r):r.length+1≤l.length:=by
 unfold levelQ at h;obtain ⟨_,r1,h2,h3⟩:=PR.bind_get h;have:=partP_lt h2;have:=lvLoop_le FU h3;omega
theorem lvsLoop_le:∀ (k:Nat) (c:List Lv) {l r:List (List UInt8)} {x:List Lv},lvsLoop k c l=.ok x r→r.length+2*x.length≤l.length+2*c.length∧x.length≤c.length+k
 |0,_,_,_,_,h=>by
  rw [lvsLoop] at h
  injection h with h1 h2
  subst h1;subst h2;omega
 |k+1,c,l,r,x,h=>by
  rw [lvsLoop] at h
  split at h
  ·next h1=>
   have ht:=tail_lt (l:=l) (by rw [h1];simp);obtain ⟨_,r1,h2,h3⟩:=PR.bind_get h;have:=levelQ_lt h2;have:=lvsLoop_le k _ h3;rw [List.length_append,List.length_singleton] at this;omega
  ·injection h with h1 h2
   subst h1;subst h2;omega
theorem levelsQ_lt {l r:List (List UInt8)} {c:List Lv} (h:levelsQ l=.ok c r):r.length+2*c.length≤l.length∧c.length≤4:=by
 unfold levelsQ at h;obtain ⟨_,r1,h2,h⟩:=PR.bind_get h;obtain ⟨c1,r2,h3,h⟩:=PR.bind_get h;obtain ⟨_,r3,h4,h⟩:=PR.bind_get h
 injection h with h5 h6
 subst h5;subst h6;have:=levelQ_lt h2;have:=lvsLoop_le 3 _ h3;rw [List.length_singleton] at this;have:=exP_lt h4 (by simp);omega
theorem tlevelP_lt {l r:List (List UInt8)} {x:Lv} (h:tlevelP l=.ok x r):r.length+1≤l.length:=by
 unfold tlevelP at h
 split at h
 ·next h1=>
  have ht:=tail_lt (l:=l) (by rw [h1];simp);obtain ⟨_,r1,h2,h⟩:=PR.bind_get h;obtain ⟨_,r2,h3,h⟩:=PR.bind_get h
  injection h with h5 h6
  subst h6;have:=levelQ_lt h2;have:=exP_lt h3 (by simp);omega
 ·exact partP_lt h
def Lt2 (T:List (List UInt8)→PR Rw):Prop:=∀ {l r:List (List UInt8)} {t:Rw},T l=.ok t r→nodesR t+2*r.length+1≤2*l.length
theorem atomG_lt {T A:List (List UInt8)→PR Rw} (hT:Lt2 T) (hA:Lt2 A):Lt2 (atomG T A):=by
 intro l r t h;unfold atomG at h
 split at h
 ·next h1=>
  have ht:=tail_lt (l:=l) (by rw [h1];simp)
  injection h with h5 h6
  subst h5;subst h6;rw [nodesR,nodesRs]
  try simp only [List.length_nil,List.length_cons]
  omega
 split at h
 ·next h1=>
  have ht:=tail_lt (l:=l) (by rw [h1];simp);obtain ⟨_,r1,h2,h⟩:=PR.bind_get h
  injection h with h5 h6
  subst h5;subst h6;have:=tlevelP_lt h2;rw [nodesR,nodesRs]
  try simp only [List.length_nil,List.length_cons]
  omega
 split at h
 ·next h1=>
  have ht:=tail_lt (l:=l) (by rw [h1];simp);obtain ⟨_,r1,h2,h⟩:=PR.bind_get h;obtain ⟨_,r2,h3,h⟩:=PR.bind_get h;obtain ⟨_,r3,h4,h⟩:=PR.bind_get h;obtain ⟨a,r4,h5,h⟩:=PR.bind_get h;obtain ⟨_,r5,h6,h⟩:=PR.bind_get h
  injection h with h7 h8
  subst h7;subst h8;have:=numTo_lt h2;have:=exP_lt h3 (by simp);have:=namP_lt h4;have:=hA h5;have:=exP_lt h6 (by simp);rw [nodesR,nodesRs,nodesRs]
  try simp only [List.length_nil,List.length_cons]
  omega
 split at h
 ·next h1=>
  have ht:=tail_lt (l:=l) (by rw [h1];simp);obtain ⟨a,r1,h2,h⟩:=PR.bind_get h;obtain ⟨_,r2,h3,h⟩:=PR.bind_get h
  injection h with h7 h8
  subst h7;subst h8;have:=hT h2;have:=exP_lt h3 (by simp);omega
 ·obtain ⟨s,r1,h2,h⟩:=PR.bind_get h
  have:=namP_lt h2
  split at h
  ·next h1=>
   have ht:=tail_lt (l:=r1) (by rw [h1];simp);obtain ⟨c,r2,h3,h⟩:=PR.bind_get h
   injection h with h7 h8
   subst h7;subst h8;have:=(levelsQ_lt h3).1;rw [nodesR,nodesRs]
   try simp only [List.length_nil,List.length_cons]
   omega
  ·injection h with h7 h8
   subst h7;subst h8;rw [nodesR,nodesRs]
   try simp only [List.length_nil,List.length_cons]
   omega
theorem appLoop_lt {A:List (List UInt8)→PR Rw} (hA:Lt2 A) (p:Nat):∀ (f:Nat) (t0:Rw) {l r:List (List UInt8)} {t:Rw},appLoop A p f t0 l=.ok t r→nodesR t+2*r.length≤nodesR t0+2*l.length
 |0,_,_,_,_,h=>by cases h
 |f+1,t0,l,r,t,h=>by
  rw [appLoop] at h
  split at h
  ·obtain ⟨a,r1,h2,h⟩:=PR.bind_get h
   have h3:=hA h2;have h4:=appLoop_lt hA p f _ h;rw [nodesR,nodesRs,nodesRs,nodesRs] at h4
   try simp only [List.length_nil,List.length_cons] at h4
   omega
  ·injection h with h7 h8
   subst h7;subst h8;exact Nat.le_refl _
theorem appG_lt {A:List (List UInt8)→PR Rw} (hA:Lt2 A):Lt2 (appG A):=by
 intro l r t h;unfold appG at h;obtain ⟨a,r1,h2,h⟩:=PR.bind_get h;have:=hA h2;have:=appLoop_lt hA _ _ _ h;omega
theorem bindG_lt {T:List (List UInt8)→PR Rw} (hT:Lt2 T) {k p:Nat} {l r:List (List UInt8)} {t:Rw} (h:bindG T k p l=.ok t r):nodesR t+2*r.length+1≤2*l.length:=by
 unfold bindG at h;obtain ⟨_,r1,h1,h⟩:=PR.bind_get h;obtain ⟨s,r2,h2,h⟩:=PR.bind_get h;obtain ⟨_,r3,h3,h⟩:=PR.bind_get h;obtain ⟨a,r4,h4,h⟩:=PR.bind_get h;obtain ⟨_,r5,h5,h⟩:=PR.bind_get h;obtain ⟨_,r6,h6,h⟩:=PR.bind_get h;obtain ⟨b,r7,h7,h⟩:=PR.bind_get h
 injection h with h8 h9
 subst h8;subst h9;have:=exP_lt h1 (by simp);have:=namP_lt h2;have:=exP_lt h3 (by simp);have:=hT h4;have:=exP_lt h5 (by simp);have:=exP_lt h6 (by simp);have:=hT h7;rw [nodesR,nodesRs,nodesRs,nodesRs]
 try simp only [List.length_nil,List.length_cons]
 omega
theorem letG_lt {T:List (List UInt8)→PR Rw} (hT:Lt2 T) {p:Nat} {l r:List (List UInt8)} {t:Rw} (h:letG T p l=.ok t r):nodesR t+2*r.length+1≤2*l.length:=by
 unfold letG at h;obtain ⟨s,r2,h2,h⟩:=PR.bind_get h;obtain ⟨_,r3,h3,h⟩:=PR.bind_get h;obtain ⟨a,r4,h4,h⟩:=PR.bind_get h;obtain ⟨_,r5,h5,h⟩:=PR.bind_get h;obtain ⟨b,r6,h6,h⟩:=PR.bind_get h;obtain ⟨_,r7,h7,h⟩:=PR.bind_get h;obtain ⟨c,r8,h10,h⟩:=PR.bind_get h
 injection h with h8 h9
 subst h8;subst h9;have:=namP_lt h2;have:=exP_lt h3 (by simp);have:=hT h4;have:=exP_lt h5 (by simp);have:=hT h6;have:=exP_lt h7 (by simp);have:=hT h10;rw [nodesR,nodesRs,nodesRs,nodesRs,nodesRs]
 try simp only [List.length_nil,List.length_cons]
 omega
theorem termG_lt {T A:List (List UInt8)→PR Rw} (hT:Lt2 T) (hA:Lt2 A):Lt2 (termG T A):=by
 intro l r t h;unfold termG at h
 split at h
 ·next h1=>
  have ht:=tail_lt (l:=l) (by rw [h1];simp);have:=bindG_lt hT h;omega
 split at h
 ·next h1=>
  have ht:=tail_lt (l:=l) (by rw [h1];simp);have:=bindG_lt hT h;omega
 split at h
 ·next h1=>
  have ht:=tail_lt (l:=l) (by rw [h1];simp);have:=letG_lt hT h;omega
 ·exact appG_lt hA h
theorem tf_lt:∀ (n:Nat) (b:Bool),Lt2 (tf n b)
 |0,_=>fun h=>by cases h
 |n+1,true=>termG_lt (tf_lt n true) (tf_lt n false)
 |n+1,false=>atomG_lt (tf_lt n true) (tf_lt n false)
end Go.Proofs.YtmceocgddaaohaaGreatDoor
namespace Go.Proofs.YtmceocgddaaohaaGreatDoor
open Go Go.RowKit
set_option maxRecDepth 100000
section
variable {ops:Array Oper} {Q:Exit→Act→World→Prop} {a:Act} {w:World}
theorem lin_callPP {β γ : Type} {K : Nat → Nat} {q : Nat} {o : PR β} {R : β → Value → World → World → Prop} {k : β → List (List UInt8) → PR γ} {oo : PR γ} (i : Nat) (f : FuncId) (args : Array Value) (d : Option Tmp) (hi : (ops[i]?.isSome && Region.wanted (opAt ops i) (yielded ops a.tmps)) = true) (hd : (opAt ops i).dst = d)
    (hrun:(execOp a.eval (opAt ops i)).run Tryz.prog w=.ok (.enter f args) w) (hc:Calls Tryz.prog f args w (PP K q o R w)) (EQ:Hid (PR.bind o k=oo))
    (he:∀ (p c:Nat) (w':World),Bel [q] w.heap.size w w'→.err p c=oo→Q (.panic [{ v:=.iface 113 (.agg #[.int .i64 (K p:Int),.int .i64 (c:Int)]),recovered:=false }]) a w')
    (h:∀ (x:β) (l:List (List UInt8)) (v:Value) (w':World),o=.ok x l→Hid (k x l=oo)→Bel [q] w.heap.size w w'→R x v w w'→PAt K q w' l→wpFrom Tryz.prog ops Q (i+1) (a.put d v) w'):wpFrom Tryz.prog ops Q i a w:=by
 refine lin_callP i f args d _ hi hd hrun hc ?_;rintro e w' ⟨hb,hr⟩;cases o with
 |err p c=>
  obtain rfl:e=fellP (K p:Int) (c:Int):=hr;exact .inr ⟨_,rfl,he p c w' hb EQ.out⟩
 |ok x l=>
  obtain ⟨v,rfl,hv,hp⟩:=hr;exact .inl ⟨v,rfl,h x l v w' rfl EQ hb hv hp⟩
end
theorem PR.bind_id {α:Type} (o:PR α):PR.bind o .ok=o:=by cases o<;>rfl
theorem PR.tail {α:Type} {o oo:PR α} (h:Hid (o=oo)):Hid (PR.bind o .ok=oo):=(PR.bind_id o).trans h.out
theorem Bel.one {q:Nat} {w w':World} (h:Bel [q] w.heap.size w w') {m:Nat} (hq:q<m):Step (List.range m) w (List.range m) w':=h.step (Nat.le_refl _) (fun k hk=>by rw [List.mem_singleton.1 hk];exact List.mem_range.2 hq)
theorem RwAt.call {K:Nat→Nat} {m q:Nat} {w w':World} {t:Rw} {cs:List Value} (h:RwAt K (List.range m) w t cs) (hb:Bel [q] w.heap.size w w') (hq:q<m):RwAt K (List.range m) w' t cs:=RwAt.step (hb.one hq) t cs h
theorem RwAt.low {K:Nat→Nat} {m:Nat} {w w':World} {t:Rw} {cs:List Value} (h:RwAt K (List.range m) w t cs) (hb:Below w.heap.size w w'):RwAt K (List.range m) w' t cs:=h.below hb
theorem RwAt.updS {K:Nat→Nat} {m b:Nat} {w w':World} {t:Rw} {cs:List Value} (h:RwAt K (List.range m) w t cs) (hu:Upd b w w') (hb:b<m):RwAt K (List.range m) w' t cs:=RwAt.step (Step.of_upd hu (List.mem_range.2 hb)) t cs h
theorem LvsN.updS {m b:Nat} {w w':World} {v:Value} {n:List Lv} (h:LvsN (List.range m) w v n) (hu:Upd b w w') (hb:b<m):LvsN (List.range m) w' v n:=h.step (Step.of_upd hu (List.mem_range.2 hb))
theorem RowG.call {α:Type} {P:List Nat→World→α→List Value→Prop} {sz:Nat} (hP:PredG P sz) {ty:TypeId} {m q:Nat} {w w':World} {v:Value} {xs:List α} (h:RowG P sz ty m w v xs) (hb:Bel [q] w.heap.size w w') (hq:q<m):RowG P sz ty m w' v xs:=h.step hP (F:=[q]) (hb.step (Nat.le_refl _) (fun k hk=>hk)) (fun k hk=>by rw [List.mem_singleton.1 hk];exact hq)
theorem RowG.low {α:Type} {P:List Nat→World→α→List Value→Prop} {sz:Nat} (hP:PredG P sz) {ty:TypeId} {m:Nat} {w w':World} {v:Value} {xs:List α} (h:RowG P sz ty m w v xs) (hb:Below w.heap.size w w'):RowG P sz ty m w' v xs:=h.step hP (F:=[]) (Step.of_below hb (Nat.le_refl _)) (fun k hk=>by cases hk)
theorem RowG.one {α:Type} {P:List Nat→World→α→List Value→Prop} {sz:Nat} (hP:PredG P sz) {ty:TypeId} {m g:Nat} {w:World} {x:α} {cs:List Value} (hb:Blk w g ty cs) (hx:P (List.range m++[g]) w x cs) (hm:m≤g):RowG P sz ty m w (.slice (some ⟨g,0,none⟩) 1 1) [x]:=by
 have hl:=hP.len hx;refine ⟨[cs],⟨by simp [hl],.inr ⟨g,1,cs.toArray,rfl,hm,hb,Nat.le_refl _,by unfold maxLen;omega,by simp [hl],?_⟩⟩,hx,trivial⟩;rw [List.flatten_cons,List.flatten_nil,List.append_nil,List.length_singleton,Nat.one_mul,← hl];exact List.take_length
theorem lin_rowG {α : Type} {P : List Nat → World → α → List Value → Prop} {sz : Nat} (hP : PredG P sz) {ops : Array Oper} {Q : Exit → Act → World → Prop} {a : Act} {w : World} (ty sty : TypeId) {z : Value} {by0 : Nat} (hinfo : (Tryz.prog.info? ty).map (fun i => (i.zero, i.size, i.bytes)) = some (some z, sz, by0)) (hund : Tryz.prog.underlying sty = some (.slice ty))
    (hzc:z.cells.size=sz) (hsz:0<sz) (hby:0<by0) (hby1:by0≤1000)
    (i:Nat) (d1 d2:Option Tmp) (x:α) (cs:List Value) (v:Value) (xs:List α) (m:Nat) (h:RowG P sz ty m w v xs) (hx:P (List.range m++ownL v) w x cs) (hn:xs.length≤1000000) (hm:m≤w.heap.size)
    (hi:(ops[i]?.isSome&&Region.wanted (opAt ops i) (yielded ops a.tmps))=true) (hd:(opAt ops i).dst=d1) (hr1:execOp a.eval (opAt ops i)=(Instr.buildSlice sty 1 #[(0,.agg cs.toArray)] >>= fun x=>pure (.value x)))
    (hmk:∀ w:World,(Instr.buildSlice sty 1 #[(0,.agg cs.toArray)]).run Tryz.prog w=.ok (.slice (some ⟨w.heap.size,0,none⟩) 1 1) (w.alloc (.cells cs.toArray ty)))
    (hk:∀ q:Nat,(ops[i+1]?.isSome&&Region.wanted (opAt ops (i+1)) (yielded ops (a.put d1 (.slice (some ⟨q,0,none⟩) 1 1)).tmps))=true) (hd2:(opAt ops (i+1)).dst=d2)
    (hr2:∀ q:Nat,execOp (a.put d1 (.slice (some ⟨q,0,none⟩) 1 1)).eval (opAt ops (i+1))=(Builtin.append_ #[sty,sty] sty #[v,.slice (some ⟨q,0,none⟩) 1 1] >>= fun x=>pure (.value x)))
    (hq:∀ (q:Nat) v' w',RowG P sz ty m w' v' (xs++[x])→Below m w w'→wpFrom Tryz.prog ops Q (i+1+1) ((a.put d1 (.slice (some ⟨q,0,none⟩) 1 1)).put d2 v') w'):wpFrom Tryz.prog ops Q i a w:=by
 obtain ⟨i0,hi0,hz0,hz1,hz2⟩:=info_parts hinfo;have hb:Below w.heap.size w (w.alloc (.cells cs.toArray ty)):=(Below.refl _ _).alloc (Nat.le_refl _) _;have hs:Step (List.range m++ownL v) w (List.range m++ownL v) (w.alloc (.cells cs.toArray ty)):=Step.of_below hb (Nat.le_refl _);refine lin_value i (.slice (some ⟨w.heap.size,0,none⟩) 1 1) d1 (w.alloc (.cells cs.toArray ty)) hi hd (exec_of _ _ hr1 (hmk w)) ?_;obtain ⟨v',w',e1,e2,e3,-⟩:=RowG.append hP hund hi0 hz0 hz1 hz2 hzc hsz hby (RowG.low hP h hb) (Blk.new w ty cs) (hP.step hs _ _ hx) (Nat.le_trans (Nat.mul_le_mul (Nat.succ_le_succ hn) hby1) (by decide)) hby1 (Nat.le_trans hm hb.size);refine lin_value (i+1) v' d2 w' (hk _) hd2 (exec_of _ _ (hr2 _) e1) (hq _ v' w' e2 ?_);exact (hb.mono hm).grown e3 (Nat.le_trans hm hb.size) (fun k hk=>(h.own k hk).1)
def LvP (_:List Nat) (_:World) (l:Lv) (cs:List Value):Prop:=cs=ints .i64 l.zs∧l.p.length=4
theorem lvG:PredG LvP 5:=⟨fun _ _ _ h=>h,fun _ _ _ h=>h,fun h=>by rw [h.1,ints_length,Lv.zs,List.length_cons,h.2],fun h=>by rw [h.1];exact ints_one _ _⟩
abbrev LvRow (m:Nat) (w:World) (v:Value) (ls:List Lv):Prop:=RowG LvP 5 80 m w v ls
theorem SlG.lvs {F:List Nat} {w:World} {v:Value} {ls:List Lv} (h:SlG LvP 5 F w v ls) (hl:ls.length≤1000000):LvsN F w v ls:=by
 obtain ⟨a,cap,h1,h2,h3⟩:=h;refine ⟨a,cap,h1,h2,by omega,fun l hl=>?_,fun hp=>?_⟩
 ·obtain ⟨i,hi,e⟩:=List.getElem_of_mem hl
  obtain ⟨pb,po,-,-,-,hr⟩:=h3 (by omega);obtain ⟨cs,-,hc⟩:=hr i l (by rw [List.getElem?_eq_getElem hi,e]);exact hc.2
 ·obtain ⟨pb,po,e,hF,hb,hr⟩:=h3 hp
  exact ⟨pb,po,e,hF,hb,fun i l hi=>by obtain ⟨cs,hc,rfl,-⟩:=hr i l hi;exact hc⟩
theorem LvsN.in {F:List Nat} {w:World} {v:Value} {ls:List Lv} (h:LvsN F w v ls) (hn:ls.length≤1000000):LvsIn w v ls:=by
 obtain ⟨a,cap,h1,h2,h3,h4,h5⟩:=h;refine ⟨a,cap,h1,h2,by omega,h4,fun hp=>?_⟩
 obtain ⟨pb,po,e,hF,hb,hr⟩:=h5 hp;exact ⟨pb,po,e,hb,hr⟩
def RLev (l:Lv) (v:Value) (_ _:World):Prop:=v=.agg (ints .i64 l.zs).toArray∧l.p.length=4
theorem RLev.of {l:Lv} {w w':World} (h:l.p.length=4):RLev l (.agg (ints .i64 l.zs).toArray) w w':=⟨rfl,h⟩
theorem parL_len (k:Nat) (n:Int):(parL k n).p.length=4:=by unfold parL;split<;>simp [numL]
theorem parL_right {k n:Nat} (hk:k<4):rightL (parL k n)=decide (n≤100):=by
 unfold parL;by_cases h:n≤100
 ·rw [if_pos ⟨by omega,by omega⟩,decide_eq_true h]
  refine right_mk (by dsimp only;omega) (by dsimp only;omega) fun x hx=>?_;rcases List.mem_or_eq_of_mem_set hx with hx|hx
  ·simp at hx
   dsimp only;omega
  ·dsimp only
   omega
 ·rw [if_neg (by omega),decide_eq_false h]
  rfl
theorem numL_right (n:Nat):rightL (numL (n:Int))=decide (n≤100):=by
 by_cases h:n≤100
 ·rw [right_num (by omega) (by omega),decide_eq_true h]
 ·rw [decide_eq_false h,rightL,show decide ((numL (n:Int)).b≤100)=false from decide_eq_false (by show ¬ (n:Int)≤100;omega),Bool.and_false,Bool.false_and]
theorem parL_put {k:Nat} (hk:k<4) (n:Int):(ints .i64 (numL n).zs).set (1+k) (.int .i64 n)=ints .i64 (⟨n,[-1,-1,-1,-1].set k n⟩:Lv).zs:=by
 match k,hk with
 |0,_=>rfl
 |1,_=>rfl
 |2,_=>rfl
 |3,_=>rfl
theorem infoLvP:(Tryz.prog.info? 80).map (fun i=>(i.zero,i.size,i.bytes))=some (some (.agg #[.int .i64 0,.int .i64 0,.int .i64 0,.int .i64 0,.int .i64 0]),5,40):=by kernel_rfl
theorem us4_idx {s:List UInt8} (h:s∈us4):∃ k:Nat,k<4∧idxFrom s 0 us4=(k:Int)∧uidx s=k:=by
 simp only [us4,List.mem_cons,List.not_mem_nil,or_false] at h;rcases h with rfl|rfl|rfl|rfl
 ·exact ⟨0,by decide,by decide,by decide⟩
 ·exact ⟨1,by decide,by decide,by decide⟩
 ·exact ⟨2,by decide,by decide,by decide⟩
 ·exact ⟨3,by decide,by decide,by decide⟩
theorem us4_no {s:List UInt8} (h:¬ s∈us4):idxFrom s 0 us4=-1:=idx_none us4 0 h
theorem sizeIntP:(Tryz.prog.info? 3).map (·.size)=some 1:=by kernel_rfl
set_option maxHeartbeats 4000000 in
theorem param_walk (k:Nat) (hk:k<4) (n:Int) (w:World):Calls Tryz.prog 173 #[.int .i64 (k:Int),.int .i64 n] w fun e w'=>e=.returned (.agg (ints .i64 (parL k n).zs).toArray)∧Below w.heap.size w w':=by
 obtain ⟨B,hB⟩:∃ B,Hid (w.heap.size=B):=⟨_,rfl⟩;rw [hB.out]
 go_enter Tryz.func173,Tryz.ntmps173
 go_upto_region 0 with (fail);refine lbeg (opsOf Tryz.f173 0) ?_;refine lin_alloc 0 80 (ints .i64 z5) (B) (some 4) (by kernel_rfl) (by kernel_rfl) (by kernel_rfl) zeroLv hB ?_;intro w1 b1 e1 s1;refine ldq 1 ?_;have BR:=hZ b1;have BE:Hid (Below B w w1):=e1;have SZ:Hid (w1.heap.size=B+1):=s1;clear b1 e1 s1;have hk0:¬ (k:Int)<0:=(by omega);have hk1:¬ (k:Int)≥4:=(by omega);go_upto_region 1 with (fail);refine lbeg (opsOf Tryz.f173 1) ?_;refine lnow 0 (.int .i64 (k:Int)) (some 6) ?_;refine lnow 1 (.bool (decide ((k:Int)<0))) (some 7) ?_;rw [decide_eq_false hk0];refine lnow 2 (.bool false) (some 8) ?_;refine lnow 3 (.int .i64 (k:Int)) (some 9) ?_;refine lnow 4 (.bool (decide ((k:Int)≥4))) (some 10) ?_;rw [decide_eq_false hk1];refine lnow 5 (.bool false) (some 11) ?_;refine lnow 6 (.bool false) (some 12) ?_;refine lnow 7 (.int .i64 n) (some 13) ?_;by_cases hn:0≤n∧n≤100
 rotate_left
 ·skip
  refine lcal 8 102 #[.int .i64 n] (some 14) _ (inb_no n w1 (by omega)) ?_;rintro e w' ⟨rfl,rfl⟩;refine ⟨_,rfl,?_⟩;refine lnow 9 (.bool true) (some 15) ?_;refine lnow 10 (.bool true) (some 16) ?_;refine ldq 11 ?_;go_upto_region 2 with (fail);refine lbeg (opsOf Tryz.f173 2) ?_;refine lcal 0 172 #[.int .i64 (-1)] (some 17) _ (num_walk (-1) w1) ?_;rintro e w2 ⟨rfl,hb⟩;refine ⟨_,rfl,?_⟩;refine lput 1 80 (.tmp 4) (.tmp 17) (B) _ (ints .i64 z5) (ints .i64 (numL (-1)).zs) (BR.out.below hb BR.out.lt) rfl (lvSize (l:=numL (-1)) rfl) (ints_oneCell _ _) ?_;intro w3 b3 u3;refine ldq 2 ?_;have EPL:Hid (parL k n=numL (-1)):=if_neg hn;have FIN:Hid (Below B w w3):=u3.below (BE.out.trans (hb.mono (by have:=SZ.out;omega))) (Nat.le_refl _) (by have:=hb.size;have:=SZ.out;omega);have HB:=hZ b3;clear b3 u3 hb;go_wp2;refine bodyPost_ret (v:=.agg (ints .i64 (numL (-1)).zs).toArray) ?_ rfl ⟨by rw [EPL.out],FIN.out⟩;exact results_cell_row (g:=B) (t:=80) (cs:=(ints .i64 (numL (-1)).zs).toArray) (fr:=(0,0)) Tryz.results173 _ _ _ rfl HB.out Tryz.underlying80 rfl (by rw [List.size_toArray];exact lvSize ((rfl:(numL (-1)).p.length=4)))
 refine lcal 8 102 #[.int .i64 n] (some 14) _ (inb_yes n w1 hn.1 hn.2) ?_;rintro e w' ⟨rfl,rfl⟩;refine ⟨_,rfl,?_⟩;refine lnow 9 (.bool false) (some 15) ?_;refine lnow 10 (.bool false) (some 16) ?_;refine ldq 11 ?_;go_upto_region 3 with (fail);refine lbeg (opsOf Tryz.f173 3) ?_;refine lnow 0 (.int .i64 n) (some 18) ?_;refine lcal 1 172 #[.int .i64 n] (some 19) _ (num_walk n w1) ?_;rintro e w2 ⟨rfl,hb⟩;refine ⟨_,rfl,?_⟩;obtain ⟨z,hz⟩:∃ z,Hid (w2.heap.size=z):=⟨_,rfl⟩;have BZ:Hid (B<z):=(by have:=hb.size;have:=SZ.out;have:=hz.out;rw [Hid];omega);have BR2:=hZ (BR.out.below hb BR.out.lt);have BE2:Hid (Below B w w2):=BE.out.trans (hb.mono (by have:=SZ.out;omega));clear hb;refine lin_alloc 2 80 (ints .i64 z5) (z) (some 5) (by kernel_rfl) (by kernel_rfl) (by kernel_rfl) zeroLv hz ?_;intro w3 b3 e3 s3;refine lput 3 80 (.tmp 5) (.tmp 19) (z) _ (ints .i64 z5) (ints .i64 (numL n).zs) b3 rfl (lvSize (l:=numL n) rfl) (ints_oneCell _ _) ?_;intro w4 b4 u4;refine ldq 4 ?_;have B34:Below z w2 w4:=u4.below e3 (Nat.le_refl _) (by have:=b3.lt;omega);have bz:=BZ.out;have BR4:=hZ (BR2.out.below B34 (by omega));have BE4:Hid (Below B w w4):=BE2.out.trans (B34.mono (by omega));have BZ4:=hZ b4;clear b3 e3 s3 b4 u4 B34 bz hz;go_upto_region 4 with (fail);refine lbeg (opsOf Tryz.f173 4) ?_;refine lnow 0 (.int .i64 (k:Int)) (some 20) ?_;refine lnow 1 (.int .i64 n) (some 21) ?_;refine lnow 2 (.pointer (some ⟨z,1,none⟩)) (some 22) ?_
 refine lix 3 (.pointer (some ⟨z,1+k,none⟩)) (some 23) 78 22 20 (run_at_arr4 z 1 k hk _) ?_;refine lin_putF 4 (1+k) 3 (.tmp 23) (.tmp 21) z 80 (ints .i64 (numL n).zs) (.int .i64 n) (by kernel_rfl) (by kernel_rfl) (by kernel_rfl) (by kernel_rfl) (by kernel_rfl) BZ4.out (by rw [ints_length];show 1+k<5;omega) sizeIntP rfl rfl ?_;intro w5 b5 u5;rw [parL_put hk n] at b5;refine ldq 5 ?_;have bz:=BZ.out;obtain ⟨L,hL⟩:∃ L,Hid ((⟨n,[-1,-1,-1,-1].set k n⟩:Lv)=L):=⟨_,rfl⟩;rw [hL.out] at b5;have L4:Hid (L.p.length=4):=(by rw [Hid,← hL.out];simp);have EPL:Hid (parL k n=L):=(if_pos hn).trans hL.out;have BZ5:=hZ b5;have BR5:=hZ (u5.blk BR4.out (by omega));have BE5:Hid (Below B w w5):=u5.below BE4.out (by omega) (by have:=BR4.out.lt;omega);clear b5 u5 BZ4 BR4 BE4 bz hL;go_upto_region 5 with (fail);refine lbeg (opsOf Tryz.f173 5) ?_;refine lrl 0 (ints .i64 L.zs) (some 24) 80 5 z 0 BZ5.out.whole Tryz.underlying80 (lvSize L4.out) ?_;refine lput 1 80 (.tmp 4) (.tmp 24) (B) _ (ints .i64 z5) (ints .i64 L.zs) BR5.out (Lv.zlen L4.out) (lvSize L4.out) (ints_oneCell _ _) ?_;intro w6 b6 u6;refine ldq 2 ?_;have FIN:Hid (Below B w w6):=u6.below BE5.out (Nat.le_refl _) (by have:=BR5.out.lt;omega);have HB:=hZ b6;clear b6 u6;go_wp2;refine bodyPost_ret (v:=.agg (ints .i64 (L).zs).toArray) ?_ rfl ⟨by rw [EPL.out],FIN.out⟩
 exact results_cell_row (g:=B) (t:=80) (cs:=(ints .i64 (L).zs).toArray) (fr:=(0,0)) Tryz.results173 _ _ _ rfl HB.out Tryz.underlying80 rfl (by rw [List.size_toArray];exact lvSize (L4.out))
set_option maxHeartbeats 4000000 in
theorem rightP_walk (K:Nat→Nat) (q:Nat) (w:World) (r:List (List UInt8)) (h:PAt K q w r) (lv:Lv) (hl:lv.p.length=4) (n p:Nat) (hr:rightL lv=decide (n≤100)):Calls Tryz.prog 171 #[.agg (ints .i64 lv.zs).toArray,.int .i64 (K p:Int)] w (PP K q (rightP1 lv n p r) RLev w):=by
 have HL:=hZ hl;have HR:=hZ hr;clear hl hr;obtain ⟨B,hB⟩:∃ B,Hid (w.heap.size=B):=⟨_,rfl⟩;have RD:=hZ h;have QB:Hid (q<B):=(by rw [← hB.out];exact h.lt);have BB:Hid (Bel [q] B w w):=Bel.refl _ _ _;have SZ:Hid (B≤w.heap.size):=(by rw [Hid,hB.out];exact Nat.le_refl _);clear h
 go_enter Tryz.func171,Tryz.ntmps171
 go_upto_region 0 with (fail);refine lbeg (opsOf Tryz.f171 0) ?_;refine lbox 0 80 (.tmp 0) (ints .i64 lv.zs) (B) (some 2) hB ?_;intro w1 b1 e1 s1;refine lin_alloc 1 80 (ints .i64 z5) (B+1) (some 4) (by kernel_rfl) (by kernel_rfl) (by kernel_rfl) zeroLv s1 ?_;intro w2 b2 e2 s2;refine ldq 2 ?_;have B0:=hZ (b1.below e2 (by omega));have BR:=hZ b2;have E12:Below B w w2:=e1.trans (e2.mono (by omega));replace RD:=hZ (RD.out.below E12 QB.out);replace BB:Hid (Bel [q] B w w2):=Bel.of E12;replace SZ:Hid (w2.heap.size=B+1+1):=s2;clear b1 e1 s1 b2 e2 s2 E12;go_upto_region 1 with (fail);refine lbeg (opsOf Tryz.f171 1) ?_;refine lrl 0 (ints .i64 lv.zs) (some 5) 80 2 B 0 B0.out.whole Tryz.underlying80 (lvSize HL.out) ?_;refine lcal 1 76 #[.agg (ints .i64 lv.zs).toArray] (some 6) _ (right_walk lv HL.out w2) ?_;rintro e w3 ⟨rfl,hb⟩;refine ⟨_,rfl,?_⟩;rw [HR.out];replace B0:=hZ (B0.out.below hb B0.out.lt);replace BR:=hZ (BR.out.below hb BR.out.lt);replace RD:=hZ (RD.out.below hb RD.out.lt);replace BB:=hZ (BB.out.trans (Bel.of (hb.mono (by have:=SZ.out;omega))));clear hb SZ;by_cases hn:n≤100
 rotate_left
 ·skip
  rw [decide_eq_false hn];refine lnow 2 (.bool true) (some 7) ?_;refine ldq 3 ?_;go_upto_region 2 with (fail);refine lbeg (opsOf Tryz.f171 2) ?_;refine lnow 0 (.int .i64 (K p:Int)) (some 8) ?_;refine lnow 1 (.agg #[.int .i64 (K p:Int),.int .i64 21]) (some 9) ?_;refine lnow 2 (.iface 113 (.agg #[.int .i64 (K p:Int),.int .i64 21])) (some 10) ?_;refine lin_panic 3 (.iface 113 (.agg #[.int .i64 (K p:Int),.int .i64 21])) (by kernel_rfl) (by kernel_rfl) ?_;exact ⟨rfl,PP.no (by rw [hB.out];exact BB.out) (by rw [rightP1,if_neg hn])⟩
 rw [decide_eq_true hn];refine lnow 2 (.bool false) (some 7) ?_;refine ldq 3 ?_;go_upto_region 3 with (fail);refine lbeg (opsOf Tryz.f171 3) ?_;refine lrl 0 (ints .i64 lv.zs) (some 11) 80 2 B 0 B0.out.whole Tryz.underlying80 (lvSize HL.out) ?_;refine lput 1 80 (.tmp 4) (.tmp 11) (B+1) _ (ints .i64 z5) (ints .i64 lv.zs) BR.out (Lv.zlen HL.out) (lvSize HL.out) (ints_oneCell _ _) ?_;intro w5 b5 u5;refine ldq 2 ?_;have FIN:Hid (PP K q (rightP1 lv n p r) RLev w (.returned (.agg (ints .i64 lv.zs).toArray)) w5):=PP.yes (by rw [hB.out];exact BB.out.newBlk u5 (by omega) (by have:=BR.out.lt;omega)) (by rw [rightP1,if_pos hn]) (RLev.of HL.out) (RD.out.upd u5 (by have:=QB.out;omega));have HB:=hZ b5;clear b5 u5;go_wp2;refine bodyPost_ret (v:=.agg (ints .i64 lv.zs).toArray) ?_ rfl FIN.out;exact results_cell_row (g:=B+1) (t:=80) (cs:=(ints .i64 lv.zs).toArray) (fr:=(0,0)) Tryz.results171 _ _ _ rfl HB.out Tryz.underlying80 rfl (by rw [List.size_toArray];exact lvSize HL.out)
set_option maxHeartbeats 8000000 in
theorem part_walk (K:Nat→Nat) (q:Nat) (w:World) (l:List (List UInt8)) (h:PAt K q w l) (sums:Bool):Calls Tryz.prog 158 #[.pointer (some ⟨q,0,none⟩),.bool sums] w (PP K q (partP sums l) RLev w):=by
 obtain ⟨oo,hoo⟩:∃ oo,Hid (partP sums l=oo):=⟨_,rfl⟩;rw [hoo.out];have EQ:=hoo;clear hoo;unfold partP at EQ;obtain ⟨B,hB⟩:∃ B,Hid (w.heap.size=B):=⟨_,rfl⟩;have RD:=hZ h;have QB:Hid (q<B):=(by rw [← hB.out];exact h.lt);have BB:Hid (Bel [q] B w w):=Bel.refl _ _ _;have SZ:Hid (B≤w.heap.size):=(by rw [Hid,hB.out];exact Nat.le_refl _);clear h
 go_enter Tryz.func158,Tryz.ntmps158
 go_upto_region 0 with (fail);refine lbeg (opsOf Tryz.f158 0) ?_;refine lin_alloc 0 80 (ints .i64 z5) (B) (some 4) (by kernel_rfl) (by kernel_rfl) (by kernel_rfl) zeroLv hB ?_;intro w1 bx ex sx;replace RD:=hZ (RD.out.below ex QB.out);replace BB:Hid (Bel [q] B w w1):=Bel.of ex;replace SZ:Hid (B≤w1.heap.size):=Nat.le_of_lt bx.lt;have BR:=hZ bx;clear bx ex sx;refine ldq 1 ?_;go_upto_region 1 with (fail);refine lbeg (opsOf Tryz.f158 1) ?_;refine lnow 0 (.pointer (some ⟨q,0,none⟩)) (some 8) ?_;refine lcal 1 55 #[.pointer (some ⟨q,0,none⟩)] (some 9) _ (at_walk K q w1 l RD.out) ?_;rintro e w' ⟨rfl,hw'⟩;obtain rfl:=hw'.symm;refine ⟨_,rfl,?_⟩;refine lnow 2 (.int .i64 (K l.length:Int)) (some 5) ?_;refine ldq 3 ?_;go_upto_region 2 with (fail);refine lbeg (opsOf Tryz.f158 2) ?_;obtain ⟨z,hz⟩:∃ z,Hid (w1.heap.size=z):=⟨_,rfl⟩;have oz:Hid (B≤z):=(by rw [Hid,← hz.out];exact SZ.out);have ozBR:Hid (B<z):=(by rw [Hid,← hz.out];exact BR.out.lt);refine lin_str4 0 [117,48] [117,49] [117,50] [117,51] z (some 10) (by kernel_rfl) (by kernel_rfl) (by kernel_rfl) hz ?_;intro w2 hn hb;have IW:=index_walk [[117,48],[117,49],[117,50],[117,51]] (nx l) _ w2 hn (by decide);rw [show ([[117,48],[117,49],[117,50],[117,51]]:List (List UInt8))=us4 from rfl] at IW;rw [← hz.out] at hb;replace BR:=hZ (BR.out.below hb BR.out.lt);replace RD:=hZ (RD.out.below hb RD.out.lt);replace BB:=hZ (BB.out.trans (Bel.of (hb.mono SZ.out)))
 replace SZ:=hZ (Nat.le_trans SZ.out hb.size);clear hn hb hz;refine lnow 1 (.pointer (some ⟨q,0,none⟩)) (some 11) ?_;refine lcal 2 57 #[.pointer (some ⟨q,0,none⟩)] (some 12) _ (text_walk K q w2 l RD.out) ?_;rintro e w' ⟨rfl,hw'⟩;obtain rfl:=hw'.symm;refine ⟨_,rfl,?_⟩;refine lcal 3 160 #[.slice (some ⟨z,0,none⟩) 4 4,sT (nx l)] (some 13) _ (IW) ?_;rintro e w' ⟨rfl,hw'⟩;obtain rfl:=hw'.symm;refine ⟨_,rfl,?_⟩;clear IW;by_cases hu:nx l∈us4
 rotate_left
 ·skip
  rw [us4_no hu];rw [if_neg hu] at EQ;refine lnow 4 (.int .i64 (-1)) (some 6) ?_;refine ldq 5 ?_;go_upto_region 3 with (fail);refine lbeg (opsOf Tryz.f158 3) ?_;refine lnow 0 (.int .i64 (-1)) (some 14) ?_;refine lnow 1 (.bool true) (some 15) ?_;refine ldq 2 ?_;go_upto_region 4 with (fail);refine lbeg (opsOf Tryz.f158 4) ?_;refine lnow 0 (.pointer (some ⟨q,0,none⟩)) (some 16) ?_;refine lin_callPP 1 120 #[.pointer (some ⟨q,0,none⟩)] (some 17) (by kernel_rfl) (by kernel_rfl) (by kernel_rfl) (number_walk K q w2 l RD.out) EQ (fun p c w' hb ho=>⟨rfl,PP.no (by rw [hB.out];exact BB.out.trans (hb.mono SZ.out)) ho⟩) ?_;intro x l4 vv w3 hx EQ1 hb hv hp;replace EQ:=EQ1;clear EQ1;obtain rfl:vv=.int .i64 (x:Int):=hv;clear hx;replace BR:=hZ (bel_keep hb BR.out (by have:=QB.out;have:=oz.out;have:=ozBR.out;omega) BR.out.lt);replace BB:=hZ (BB.out.trans (hb.mono SZ.out));replace SZ:=hZ (Nat.le_trans SZ.out hb.size);replace RD:=hZ hp;clear hb hp;refine lcal 2 172 #[.int .i64 (x:Int)] (some 18) _ (num_walk (x:Int) w3) ?_;rintro e w5 ⟨rfl,hb⟩;refine ⟨_,rfl,?_⟩;replace BR:=hZ (BR.out.below hb BR.out.lt);replace RD:=hZ (RD.out.below hb RD.out.lt);replace BB:=hZ (BB.out.trans (Bel.of (hb.mono SZ.out)));replace SZ:=hZ (Nat.le_trans SZ.out hb.size);clear hb;refine lnow 3 (.int .i64 (K l.length:Int)) (some 19) ?_;replace EQ:=PR.tail EQ
  refine lin_callPP 4 171 #[.agg (ints .i64 (numL (x:Int)).zs).toArray,.int .i64 (K l.length:Int)] (some 20) (by kernel_rfl) (by kernel_rfl) (by kernel_rfl) (rightP_walk K q w5 l4 RD.out (numL (x:Int)) rfl x l.length (numL_right x)) EQ (fun p c w' hb ho=>⟨rfl,PP.no (by rw [hB.out];exact BB.out.trans (hb.mono SZ.out)) ho⟩) ?_;intro lv l7 vv w6 hx EQ1 hb hv hp;replace EQ:=EQ1;clear EQ1;obtain ⟨rfl,h4⟩:=hv;have H4:=hZ h4;clear h4;clear hx;replace BR:=hZ (bel_keep hb BR.out (by have:=QB.out;have:=oz.out;have:=ozBR.out;omega) BR.out.lt);replace BB:=hZ (BB.out.trans (hb.mono SZ.out));replace SZ:=hZ (Nat.le_trans SZ.out hb.size);replace RD:=hZ hp;clear hb hp;refine lput 5 80 (.tmp 4) (.tmp 20) (B) _ (ints .i64 z5) (ints .i64 (lv).zs) BR.out (Lv.zlen H4.out) (lvSize H4.out) (ints_oneCell _ _) ?_;intro w99 b99 u99;refine ldq 6 ?_;have FIN:Hid (PP K q oo RLev w (.returned (.agg (ints .i64 (lv).zs).toArray)) w99):=PP.yes (by rw [hB.out];exact BB.out.newBlk u99 (Nat.le_refl _) SZ.out) EQ.out (RLev.of H4.out) (RD.out.upd u99 QB.out);have HB:=hZ b99;clear b99 u99;go_wp2;refine bodyPost_ret (v:=.agg (ints .i64 (lv).zs).toArray) ?_ rfl FIN.out;exact results_cell_row (g:=B) (t:=80) (cs:=(ints .i64 (lv).zs).toArray) (fr:=(0,0)) Tryz.results158 _ _ _ rfl HB.out Tryz.underlying80 rfl (by rw [List.size_toArray];exact lvSize H4.out)
 obtain ⟨k,hk,hik,huk⟩:=us4_idx hu;rw [hik];rw [if_pos hu,huk] at EQ;refine lnow 4 (.int .i64 (k:Int)) (some 6) ?_;refine ldq 5 ?_;go_upto_region 3 with (fail);refine lbeg (opsOf Tryz.f158 3) ?_;refine lnow 0 (.int .i64 (k:Int)) (some 14) ?_;refine lnow 1 (.bool (decide ((k:Int)<0))) (some 15) ?_;rw [decide_eq_false (by omega:¬ (k:Int)<0)];refine ldq 2 ?_;obtain ⟨l1,hl1⟩:∃ y,Hid (l.tail=y):=⟨_,rfl⟩;rw [hl1.out] at EQ;obtain ⟨s,hs⟩:∃ s,Hid (l=s::l1):=(by obtain ⟨s,r,e⟩:=RD.out.nx_ne (us4_ne hu);exact ⟨s,by rw [Hid,← hl1.out,e];rfl⟩);go_upto_region 5 with (fail);refine lbeg (opsOf Tryz.f158 5) ?_;refine lnow 0 (.pointer (some ⟨q,0,none⟩)) (some 21) ?_;refine lcal 1 97 #[.pointer (some ⟨q,0,none⟩)] (some 22) _ (take_walk K q w2 s l1 (by rw [← hs.out];exact RD.out)) ?_;rintro e w3 ⟨rfl,hp,hu2⟩;refine ⟨_,rfl,?_⟩;have hb:Bel [q] w2.heap.size w2 w3:=(Bel.refl _ _ _).upd hu2 (.inl (by simp)) (Nat.le_refl _);clear hu2;replace BR:=hZ (bel_keep hb BR.out (by have:=QB.out;have:=oz.out;have:=ozBR.out;omega) BR.out.lt);replace BB:=hZ (BB.out.trans (hb.mono SZ.out));replace SZ:=hZ (Nat.le_trans SZ.out hb.size);replace RD:=hZ hp;clear hb hp;refine ldq 2 ?_;go_upto_region 6 with (fail);refine lbeg (opsOf Tryz.f158 6) ?_;refine lnow 0 (.int .i64 0) (some 7) ?_;refine ldq 1 ?_;by_cases hsu:sums=true
 rotate_left
 ·skip
  obtain rfl:sums=false:=(by simpa using hsu);rw [if_neg (fun hc=>hsu hc.1),PR.bind_ok] at EQ
  go_upto_region 7 with (fail);refine lbeg (opsOf Tryz.f158 7) ?_;refine lnow 0 (.bool false) (some 23) ?_;refine lnow 1 (.bool false) (some 24) ?_;refine lpas 2 (some 25) ?_;refine lpas 3 (some 26) ?_;refine lnow 4 (.bool false) (some 27) ?_;refine ldq 5 ?_;go_upto_region 9 with (fail);refine lbeg (opsOf Tryz.f158 9) ?_;refine lnow 0 (.int .i64 (k:Int)) (some 30) ?_;refine lnow 1 (.int .i64 0) (some 31) ?_;refine lcal 2 173 #[.int .i64 (k:Int),.int .i64 0] (some 32) _ (param_walk k hk ((0:Nat):Int) w3) ?_;rintro e w4 ⟨rfl,hb⟩;refine ⟨_,rfl,?_⟩;replace BR:=hZ (BR.out.below hb BR.out.lt);replace RD:=hZ (RD.out.below hb RD.out.lt);replace BB:=hZ (BB.out.trans (Bel.of (hb.mono SZ.out)));replace SZ:=hZ (Nat.le_trans SZ.out hb.size);clear hb;refine lnow 3 (.int .i64 (K l.length:Int)) (some 33) ?_;replace EQ:=PR.tail EQ;refine lin_callPP 4 171 #[.agg (ints .i64 (parL k ((0:Nat):Int)).zs).toArray,.int .i64 (K l.length:Int)] (some 34) (by kernel_rfl) (by kernel_rfl) (by kernel_rfl) (rightP_walk K q w4 l1 RD.out (parL k ((0:Nat):Int)) (parL_len _ _) 0 l.length (parL_right hk)) EQ (fun p c w' hb ho=>⟨rfl,PP.no (by rw [hB.out];exact BB.out.trans (hb.mono SZ.out)) ho⟩) ?_;intro lv l6 vv w5 hx EQ1 hb hv hp;replace EQ:=EQ1;clear EQ1;obtain ⟨rfl,h4⟩:=hv;have H4:=hZ h4;clear h4;clear hx;replace BR:=hZ (bel_keep hb BR.out (by have:=QB.out;have:=oz.out;have:=ozBR.out;omega) BR.out.lt);replace BB:=hZ (BB.out.trans (hb.mono SZ.out))
  replace SZ:=hZ (Nat.le_trans SZ.out hb.size);replace RD:=hZ hp;clear hb hp;refine lput 5 80 (.tmp 4) (.tmp 34) (B) _ (ints .i64 z5) (ints .i64 (lv).zs) BR.out (Lv.zlen H4.out) (lvSize H4.out) (ints_oneCell _ _) ?_;intro w99 b99 u99;refine ldq 6 ?_;have FIN:Hid (PP K q oo RLev w (.returned (.agg (ints .i64 (lv).zs).toArray)) w99):=PP.yes (by rw [hB.out];exact BB.out.newBlk u99 (Nat.le_refl _) SZ.out) EQ.out (RLev.of H4.out) (RD.out.upd u99 QB.out);have HB:=hZ b99;clear b99 u99;go_wp2;refine bodyPost_ret (v:=.agg (ints .i64 (lv).zs).toArray) ?_ rfl FIN.out;exact results_cell_row (g:=B) (t:=80) (cs:=(ints .i64 (lv).zs).toArray) (fr:=(0,0)) Tryz.results158 _ _ _ rfl HB.out Tryz.underlying80 rfl (by rw [List.size_toArray];exact lvSize H4.out)
 subst hsu;by_cases hpl:nx l1=[43]
 rotate_left
 ·skip
  rw [if_neg (fun hc=>hpl hc.2),PR.bind_ok] at EQ
  go_upto_region 7 with (fail);refine lbeg (opsOf Tryz.f158 7) ?_;refine lnow 0 (.bool true) (some 23) ?_;refine lnow 1 (.bool true) (some 24) ?_;refine lnow 2 (.pointer (some ⟨q,0,none⟩)) (some 25) ?_;refine lcal 3 86 #[.pointer (some ⟨q,0,none⟩),sT [43]] (some 26) _ (accept_no K q w3 l1 RD.out [43] hpl) ?_;rintro e w' ⟨rfl,hw'⟩;obtain rfl:=hw'.symm;refine ⟨_,rfl,?_⟩;refine lnow 4 (.bool false) (some 27) ?_;refine ldq 5 ?_;go_upto_region 9 with (fail);refine lbeg (opsOf Tryz.f158 9) ?_;refine lnow 0 (.int .i64 (k:Int)) (some 30) ?_;refine lnow 1 (.int .i64 0) (some 31) ?_;refine lcal 2 173 #[.int .i64 (k:Int),.int .i64 0] (some 32) _ (param_walk k hk ((0:Nat):Int) w3) ?_;rintro e w4 ⟨rfl,hb⟩;refine ⟨_,rfl,?_⟩;replace BR:=hZ (BR.out.below hb BR.out.lt);replace RD:=hZ (RD.out.below hb RD.out.lt);replace BB:=hZ (BB.out.trans (Bel.of (hb.mono SZ.out)));replace SZ:=hZ (Nat.le_trans SZ.out hb.size);clear hb;refine lnow 3 (.int .i64 (K l.length:Int)) (some 33) ?_;replace EQ:=PR.tail EQ;refine lin_callPP 4 171 #[.agg (ints .i64 (parL k ((0:Nat):Int)).zs).toArray,.int .i64 (K l.length:Int)] (some 34) (by kernel_rfl) (by kernel_rfl) (by kernel_rfl) (rightP_walk K q w4 l1 RD.out (parL k ((0:Nat):Int)) (parL_len _ _) 0 l.length (parL_right hk)) EQ (fun p c w' hb ho=>⟨rfl,PP.no (by rw [hB.out];exact BB.out.trans (hb.mono SZ.out)) ho⟩) ?_;intro lv l6 vv w5 hx EQ1 hb hv hp;replace EQ:=EQ1;clear EQ1;obtain ⟨rfl,h4⟩:=hv;have H4:=hZ h4
  clear h4;clear hx;replace BR:=hZ (bel_keep hb BR.out (by have:=QB.out;have:=oz.out;have:=ozBR.out;omega) BR.out.lt);replace BB:=hZ (BB.out.trans (hb.mono SZ.out));replace SZ:=hZ (Nat.le_trans SZ.out hb.size);replace RD:=hZ hp;clear hb hp;refine lput 5 80 (.tmp 4) (.tmp 34) (B) _ (ints .i64 z5) (ints .i64 (lv).zs) BR.out (Lv.zlen H4.out) (lvSize H4.out) (ints_oneCell _ _) ?_;intro w99 b99 u99;refine ldq 6 ?_;have FIN:Hid (PP K q oo RLev w (.returned (.agg (ints .i64 (lv).zs).toArray)) w99):=PP.yes (by rw [hB.out];exact BB.out.newBlk u99 (Nat.le_refl _) SZ.out) EQ.out (RLev.of H4.out) (RD.out.upd u99 QB.out);have HB:=hZ b99;clear b99 u99;go_wp2;refine bodyPost_ret (v:=.agg (ints .i64 (lv).zs).toArray) ?_ rfl FIN.out;exact results_cell_row (g:=B) (t:=80) (cs:=(ints .i64 (lv).zs).toArray) (fr:=(0,0)) Tryz.results158 _ _ _ rfl HB.out Tryz.underlying80 rfl (by rw [List.size_toArray];exact lvSize H4.out)
 rw [if_pos ⟨rfl,hpl⟩] at EQ;go_upto_region 7 with (fail);refine lbeg (opsOf Tryz.f158 7) ?_;refine lnow 0 (.bool true) (some 23) ?_;refine lnow 1 (.bool true) (some 24) ?_;refine lnow 2 (.pointer (some ⟨q,0,none⟩)) (some 25) ?_;refine lcal 3 86 #[.pointer (some ⟨q,0,none⟩),sT [43]] (some 26) _ (accept_yes K q w3 l1 RD.out [43] hpl (by decide)) ?_;rintro e w4 ⟨rfl,hb,hp⟩;refine ⟨_,rfl,?_⟩;obtain ⟨l5,hl5⟩:∃ y,Hid (l1.tail=y):=⟨_,rfl⟩;rw [hl5.out] at hp
 try rw [hl5.out] at EQ
 replace BR:=hZ (bel_keep hb BR.out (by have:=QB.out;have:=oz.out;have:=ozBR.out;omega) BR.out.lt);replace BB:=hZ (BB.out.trans (hb.mono SZ.out));replace SZ:=hZ (Nat.le_trans SZ.out hb.size);replace RD:=hZ hp;clear hb hp;refine lnow 4 (.bool true) (some 27) ?_;refine ldq 5 ?_;go_upto_region 8 with (fail);refine lbeg (opsOf Tryz.f158 8) ?_;refine lnow 0 (.pointer (some ⟨q,0,none⟩)) (some 28) ?_;refine lin_callPP 1 120 #[.pointer (some ⟨q,0,none⟩)] (some 29) (by kernel_rfl) (by kernel_rfl) (by kernel_rfl) (number_walk K q w4 l5 RD.out) EQ (fun p c w' hb ho=>⟨rfl,PP.no (by rw [hB.out];exact BB.out.trans (hb.mono SZ.out)) ho⟩) ?_;intro x l7 vv w6 hx EQ1 hb hv hp;replace EQ:=EQ1;clear EQ1;obtain rfl:vv=.int .i64 (x:Int):=hv;clear hx;replace BR:=hZ (bel_keep hb BR.out (by have:=QB.out;have:=oz.out;have:=ozBR.out;omega) BR.out.lt);replace BB:=hZ (BB.out.trans (hb.mono SZ.out));replace SZ:=hZ (Nat.le_trans SZ.out hb.size);replace RD:=hZ hp;clear hb hp;refine lnow 2 (.int .i64 (x:Int)) (some 7) ?_;refine ldq 3 ?_;go_upto_region 9 with (fail);refine lbeg (opsOf Tryz.f158 9) ?_;refine lnow 0 (.int .i64 (k:Int)) (some 30) ?_;refine lnow 1 (.int .i64 (x:Int)) (some 31) ?_;refine lcal 2 173 #[.int .i64 (k:Int),.int .i64 (x:Int)] (some 32) _ (param_walk k hk ((x:Nat):Int) w6) ?_;rintro e w8 ⟨rfl,hb⟩;refine ⟨_,rfl,?_⟩;replace BR:=hZ (BR.out.below hb BR.out.lt);replace RD:=hZ (RD.out.below hb RD.out.lt)
 replace BB:=hZ (BB.out.trans (Bel.of (hb.mono SZ.out)));replace SZ:=hZ (Nat.le_trans SZ.out hb.size);clear hb;refine lnow 3 (.int .i64 (K l.length:Int)) (some 33) ?_;replace EQ:=PR.tail EQ;refine lin_callPP 4 171 #[.agg (ints .i64 (parL k ((x:Nat):Int)).zs).toArray,.int .i64 (K l.length:Int)] (some 34) (by kernel_rfl) (by kernel_rfl) (by kernel_rfl) (rightP_walk K q w8 l7 RD.out (parL k ((x:Nat):Int)) (parL_len _ _) x l.length (parL_right hk)) EQ (fun p c w' hb ho=>⟨rfl,PP.no (by rw [hB.out];exact BB.out.trans (hb.mono SZ.out)) ho⟩) ?_;intro lv l10 vv w9 hx EQ1 hb hv hp;replace EQ:=EQ1;clear EQ1;obtain ⟨rfl,h4⟩:=hv;have H4:=hZ h4;clear h4;clear hx;replace BR:=hZ (bel_keep hb BR.out (by have:=QB.out;have:=oz.out;have:=ozBR.out;omega) BR.out.lt);replace BB:=hZ (BB.out.trans (hb.mono SZ.out));replace SZ:=hZ (Nat.le_trans SZ.out hb.size);replace RD:=hZ hp;clear hb hp;refine lput 5 80 (.tmp 4) (.tmp 34) (B) _ (ints .i64 z5) (ints .i64 (lv).zs) BR.out (Lv.zlen H4.out) (lvSize H4.out) (ints_oneCell _ _) ?_;intro w99 b99 u99;refine ldq 6 ?_;have FIN:Hid (PP K q oo RLev w (.returned (.agg (ints .i64 (lv).zs).toArray)) w99):=PP.yes (by rw [hB.out];exact BB.out.newBlk u99 (Nat.le_refl _) SZ.out) EQ.out (RLev.of H4.out) (RD.out.upd u99 QB.out);have HB:=hZ b99;clear b99 u99;go_wp2;refine bodyPost_ret (v:=.agg (ints .i64 (lv).zs).toArray) ?_ rfl FIN.out
 exact results_cell_row (g:=B) (t:=80) (cs:=(ints .i64 (lv).zs).toArray) (fr:=(0,0)) Tryz.results158 _ _ _ rfl HB.out Tryz.underlying80 rfl (by rw [List.size_toArray];exact lvSize H4.out)
end Go.Proofs.YtmceocgddaaohaaGreatDoor
namespace Go.Proofs.YtmceocgddaaohaaGreatDoor
open Go Go.RowKit
set_option maxRecDepth 100000
theorem LvRow.call {m q:Nat} {w w':World} {v:Value} {ls:List Lv} (h:LvRow m w v ls) (hb:Bel [q] w.heap.size w w') (hq:q<m):LvRow m w' v ls:=RowG.call lvG h hb hq
theorem LvRow.low {m:Nat} {w w':World} {v:Value} {ls:List Lv} (h:LvRow m w v ls) (hb:Below w.heap.size w w'):LvRow m w' v ls:=RowG.low lvG h hb
theorem LvRow.sl {m:Nat} {w:World} {v:Value} {ls:List Lv} (h:LvRow m w v ls):∃ a c,v=.slice a ls.length c:=(RowG.in lvG h).slice
theorem LvRow.lvs {m:Nat} {w:World} {v:Value} {ls:List Lv} (h:LvRow m w v ls) (hl:ls.length≤1000000):LvsN (List.range m) w v ls:=(RowG.in lvG h).lvs hl
theorem maxL_len {ls:List Lv} (h:∀ l∈ls,l.p.length=4):(maxL ls).p.length=4:=by
 unfold maxL
 split
 ·exact maxRow_len ls _ rfl h
 ·rfl
def RLvs (c:List Lv) (v:Value) (w w':World):Prop:=LvsN (List.range w.heap.size) w' v c
theorem lvLoop_yes {f:Nat} {c:List Lv} {l:List (List UInt8)} (h:nx l=[124]):lvLoop (f+1) c l=(partP true l.tail).bind fun a r=>lvLoop f (c++[a]) r:=by rw [lvLoop,if_pos h]
theorem lvLoop_no {f:Nat} {c:List Lv} {l:List (List UInt8)} (h:¬ nx l=[124]) (hf:0<f):lvLoop f c l=.ok (maxL c) l:=by
 obtain ⟨g,rfl⟩:∃ g,f=g+1:=⟨f-1,by omega⟩;rw [lvLoop,if_neg h]
theorem lvsLoop_yes {k:Nat} {c:List Lv} {l:List (List UInt8)} (h:nx l=[44]):lvsLoop (k+1) c l=(levelQ l.tail).bind fun a r=>lvsLoop k (c++[a]) r:=by rw [lvsLoop,if_pos h]
theorem lvsLoop_no {k:Nat} {c:List Lv} {l:List (List UInt8)} (h:k=0∨¬ nx l=[44]):lvsLoop k c l=.ok c l:=by
 cases k with
 |zero=>rfl
 |succ k=>rw [lvsLoop,if_neg (h.resolve_left (Nat.succ_ne_zero k))]
theorem bind_assoc {α β γ:Type} (o:PR α) (k:α→List (List UInt8)→PR β) (k2:β→List (List UInt8)→PR γ):PR.bind (PR.bind o k) k2=PR.bind o (fun x l=>PR.bind (k x l) k2):=by cases o<;>rfl
set_option maxHeartbeats 8000000 in
theorem level_walkP (K:Nat→Nat) (q:Nat) (w:World) (l:List (List UInt8)) (h:PAt K q w l):Calls Tryz.prog 159 #[.pointer (some ⟨q,0,none⟩)] w (PP K q (levelQ l) RLev w):=by
 obtain ⟨oo,hoo⟩:∃ oo,Hid (levelQ l=oo):=⟨_,rfl⟩;rw [hoo.out];have EQ:=hoo;clear hoo;unfold levelQ at EQ;obtain ⟨B,hB⟩:∃ B,Hid (w.heap.size=B):=⟨_,rfl⟩;have RD:=hZ h;have QB:Hid (q<B):=(by rw [← hB.out];exact h.lt);have BB:Hid (Bel [q] B w w):=Bel.refl _ _ _;have SZ:Hid (B≤w.heap.size):=(by rw [Hid,hB.out];exact Nat.le_refl _);clear h
 go_enter Tryz.func159,Tryz.ntmps159
 go_upto_region 0 with (fail);refine lbeg (opsOf Tryz.f159 0) ?_;refine lin_alloc 0 80 (ints .i64 z5) (B) (some 2) (by kernel_rfl) (by kernel_rfl) (by kernel_rfl) zeroLv hB ?_;intro w1 bx ex sx;replace RD:=hZ (RD.out.below ex QB.out);replace BB:Hid (Bel [q] B w w1):=Bel.of ex;replace SZ:Hid (B≤w1.heap.size):=Nat.le_of_lt bx.lt;have BR:=hZ bx;clear bx ex sx;refine ldq 1 ?_;go_upto_region 1 with (fail);refine lbeg (opsOf Tryz.f159 1) ?_;refine lnow 0 (.pointer (some ⟨q,0,none⟩)) (some 4) ?_;refine lin_callPP 1 158 #[.pointer (some ⟨q,0,none⟩),.bool true] (some 5) (by kernel_rfl) (by kernel_rfl) (by kernel_rfl) (part_walk K q w1 l RD.out true) EQ (fun p c w' hb ho=>⟨rfl,PP.no (by rw [hB.out];exact BB.out.trans (hb.mono SZ.out)) ho⟩) ?_;intro lv l1 vv w2 hx EQ1 hb hv hp;replace EQ:=EQ1;clear EQ1;obtain ⟨rfl,h4⟩:=hv;have H4:=hZ h4;clear h4;replace BR:=hZ (bel_keep hb BR.out (by have:=QB.out;omega) BR.out.lt);replace BB:=hZ (BB.out.trans (hb.mono SZ.out));replace SZ:=hZ (Nat.le_trans SZ.out hb.size);replace RD:=hZ hp;clear hb hp;obtain ⟨z,hz⟩:∃ z,Hid (w2.heap.size=z):=⟨_,rfl⟩;have oz:Hid (B≤z):=(by rw [Hid,← hz.out];exact SZ.out);have ozBR:Hid (B<z):=(by rw [Hid,← hz.out];exact BR.out.lt);refine lin_row 2 80 (ints .i64 lv.zs) z 1 (some 6) (by kernel_rfl) (by kernel_rfl) hz (exec_of _ _ (by kernel_rfl) (run_build_lvs1 H4.out _)) ?_;intro wz bb eb sb
 have RWF:Hid (LvRow (B+1) wz (.slice (some ⟨z,0,none⟩) 1 1) [lv]):=RowG.one lvG bb ⟨rfl,H4.out⟩ (by have:=QB.out;have:=oz.out;have:=ozBR.out;omega);rw [← hz.out] at eb;replace BR:=hZ (BR.out.below eb BR.out.lt);replace RD:=hZ (RD.out.below eb RD.out.lt);replace BB:=hZ (BB.out.trans (Bel.of (eb.mono SZ.out)));replace SZ:=hZ (Nat.le_trans SZ.out eb.size);clear bb eb sb hz;refine lnow 3 (.slice (some ⟨z,0,none⟩) 1 1) (some 3) ?_;refine ldq 4 ?_;have LN:=hZ RD.out.len;clear hx;go_wp2
 go_loopg [3] l1.length (fun g s3 wr=>∃ (f:Nat) (li:List (List UInt8)) (ls:List Lv) (rv:Value),li.length=g∧rv=s3∧Hid (li.length+1≤f)∧Hid (lvLoop f ls li=oo)∧Hid (PAt K q wr li)∧Hid (Bel [q] B w wr)∧Hid (Blk wr B 80 (ints .i64 z5))∧Hid (LvRow (B+1) wr rv ls)∧Hid (ls.length+li.length≤65541))
 case atStart=>exact ⟨FU,l1,[lv],_,rfl,rfl,(by have:=LN.out;unfold FU;rw [Hid];omega),EQ,RD,BB,BR,RWF,(by have:=LN.out;rw [Hid,List.length_singleton];omega)⟩
 case round=>
  clear EQ RD BB BR RWF SZ LN;obtain ⟨f,li,ls,rv,hlg,hrv,FF,EQ,RD,BB,BR,RWF,LN⟩:=hrel;subst hlg;subst hrv;have SZ:Hid (B≤wr.heap.size):=Nat.le_of_lt BR.out.lt;by_cases c:nx li=[124]
  rotate_left
  ·skip
   rw [lvLoop_no c (by have:=FF.out;omega)] at EQ;go_upto_region 2 with (fail);refine lbeg (opsOf Tryz.f159 2) ?_;refine lnow 0 (.pointer (some ⟨q,0,none⟩)) (some 7) ?_;refine lcal 1 86 #[.pointer (some ⟨q,0,none⟩),sT [124]] (some 8) _ (accept_no K q wr li RD.out [124] c) ?_;rintro e w' ⟨rfl,hw'⟩;obtain rfl:=hw'.symm;refine ⟨_,rfl,?_⟩;refine ldq 2 ?_;obtain ⟨la,lc,hrs⟩:=RWF.out.sl;have hin:=(RWF.out.lvs (by have:=LN.out;omega)).in (by have:=LN.out;omega);have L4:∀ l∈ls,l.p.length=4:=(by obtain ⟨_,_,_,_,_,h5,_⟩:=hin;exact h5);obtain ⟨lv,hlv⟩:∃ y,Hid (maxL ls=y):=⟨_,rfl⟩;have H4:Hid (lv.p.length=4):=(by rw [← hlv.out];exact maxL_len L4);have MW:=max_walk rv ls wr hin;rw [hlv.out] at MW EQ;clear hin L4 hlv hrs;go_upto_region 4 with (fail);refine lbeg (opsOf Tryz.f159 4) ?_;refine lnow 0 (rv) (some 14) ?_;refine lcal 1 174 #[rv] (some 15) _ (MW) ?_;rintro e w3 ⟨rfl,hb⟩;refine ⟨_,rfl,?_⟩;clear MW;replace BR:=hZ (BR.out.below hb BR.out.lt);replace RWF:=hZ (LvRow.low RWF.out hb);replace RD:=hZ (RD.out.below hb RD.out.lt);replace BB:=hZ (BB.out.trans (Bel.of (hb.mono SZ.out)));replace SZ:=hZ (Nat.le_trans SZ.out hb.size);clear hb;refine lput 2 80 (.tmp 2) (.tmp 15) (B) _ (ints .i64 z5) (ints .i64 (lv).zs) BR.out (Lv.zlen H4.out) (lvSize H4.out) (ints_oneCell _ _) ?_;intro w99 b99 u99;refine ldq 3 ?_
   have FIN:Hid (PP K q oo RLev w (.returned (.agg (ints .i64 (lv).zs).toArray)) w99):=PP.yes (by rw [hB.out];exact BB.out.newBlk u99 (Nat.le_refl _) SZ.out) EQ.out (RLev.of H4.out) (RD.out.upd u99 QB.out);have HB:=hZ b99;clear b99 u99;go_wp2;refine bodyPost_ret (v:=.agg (ints .i64 (lv).zs).toArray) ?_ rfl FIN.out;exact results_cell_row (g:=B) (t:=80) (cs:=(ints .i64 (lv).zs).toArray) (fr:=(0,0)) Tryz.results159 _ _ _ rfl HB.out Tryz.underlying80 rfl (by rw [List.size_toArray];exact lvSize H4.out)
  obtain ⟨f',rfl⟩:∃ f',f=f'+1:=⟨f-1,by have:=FF.out;omega⟩;rw [lvLoop_yes c] at EQ;have TL:=hZ (tail_lt (l:=li) (by rw [c];simp));go_upto_region 2 with (fail);refine lbeg (opsOf Tryz.f159 2) ?_;refine lnow 0 (.pointer (some ⟨q,0,none⟩)) (some 7) ?_;refine lcal 1 86 #[.pointer (some ⟨q,0,none⟩),sT [124]] (some 8) _ (accept_yes K q wr li RD.out [124] c (by decide)) ?_;rintro e w3 ⟨rfl,hb,hp⟩;refine ⟨_,rfl,?_⟩;obtain ⟨l4,hl4⟩:∃ y,Hid (li.tail=y):=⟨_,rfl⟩;rw [hl4.out] at hp
  try rw [hl4.out] at EQ
  replace BR:=hZ (bel_keep hb BR.out (by have:=QB.out;omega) BR.out.lt);replace RWF:=hZ (LvRow.call RWF.out hb (by have:=QB.out;omega));replace BB:=hZ (BB.out.trans (hb.mono SZ.out));replace SZ:=hZ (Nat.le_trans SZ.out hb.size);replace RD:=hZ hp;clear hb hp;refine ldq 2 ?_;rw [hl4.out] at TL;go_upto_region 3 with (fail);refine lbeg (opsOf Tryz.f159 3) ?_;refine lnow 0 (rv) (some 9) ?_;refine lnow 1 (.pointer (some ⟨q,0,none⟩)) (some 10) ?_;refine lin_callPP 2 158 #[.pointer (some ⟨q,0,none⟩),.bool true] (some 11) (by kernel_rfl) (by kernel_rfl) (by kernel_rfl) (part_walk K q w3 l4 RD.out true) EQ (fun p c w' hb ho=>⟨rfl,PP.no (by rw [hB.out];exact BB.out.trans (hb.mono SZ.out)) ho⟩) ?_;intro lv l3 vv w5 hx EQ1 hb hv hp;replace EQ:=EQ1;clear EQ1;obtain ⟨rfl,h4⟩:=hv;have H4:=hZ h4;clear h4;replace BR:=hZ (bel_keep hb BR.out (by have:=QB.out;omega) BR.out.lt);replace RWF:=hZ (LvRow.call RWF.out hb (by have:=QB.out;omega));replace BB:=hZ (BB.out.trans (hb.mono SZ.out));replace SZ:=hZ (Nat.le_trans SZ.out hb.size);replace RD:=hZ hp;clear hb hp;have PL:=hZ (partP_lt hx);clear hx;refine lin_rowG lvG 80 22 infoLvP Tryz.underlying22 rfl (by decide) (by decide) (by decide) 3 (some 12) (some 13) lv (ints .i64 lv.zs) rv ls (B+1) RWF.out (⟨rfl,H4.out⟩) (by have:=LN.out;omega) (BR.out.lt) (by kernel_rfl) (by kernel_rfl) (by kernel_rfl) (fun _=>run_build_lvs1 H4.out _) (fun _=>by kernel_rfl) (by kernel_rfl) (fun _=>by kernel_rfl) ?_
  intro zz rv2 wa hrow hbel;replace RWF:Hid (LvRow (B+1) wa rv2 (ls++[lv])):=hrow;replace RD:=hZ (RD.out.below hbel (by have:=QB.out;omega));replace BR:=hZ (BR.out.below hbel (by omega));replace BB:=hZ (BB.out.trans (Bel.of (hbel.mono (by omega))));clear hrow hbel;have tl:=TL.out;have pl:=PL.out;have ff:=FF.out;have ln:=LN.out;refine lnow 5 (rv2) (some 3) ?_;refine ldq 6 ?_;go_wp2
  go_roundg l3.length
  case rel=>exact ⟨f',l3,ls++[lv],rv2,rfl,rfl,(by rw [Hid];omega),EQ,RD,BB,BR,RWF,(by rw [Hid,List.length_append,List.length_singleton];omega)⟩
  case measure=>omega
set_option maxHeartbeats 8000000 in
theorem levels_walkP (K:Nat→Nat) (q:Nat) (w:World) (l:List (List UInt8)) (h:PAt K q w l):Calls Tryz.prog 142 #[.pointer (some ⟨q,0,none⟩)] w (PP K q (levelsQ l) RLvs w):=by
 obtain ⟨oo,hoo⟩:∃ oo,Hid (levelsQ l=oo):=⟨_,rfl⟩;rw [hoo.out];have EQ:=hoo;clear hoo;unfold levelsQ at EQ;obtain ⟨B,hB⟩:∃ B,Hid (w.heap.size=B):=⟨_,rfl⟩;have RD:=hZ h;have QB:Hid (q<B):=(by rw [← hB.out];exact h.lt);have BB:Hid (Bel [q] B w w):=Bel.refl _ _ _;have SZ:Hid (B≤w.heap.size):=(by rw [Hid,hB.out];exact Nat.le_refl _);clear h
 go_enter Tryz.func142,Tryz.ntmps142
 go_upto_region 0 with (fail);refine lbeg (opsOf Tryz.f142 0) ?_;refine lnow 0 (.slice none 0 0) (some 2) ?_;refine ldq 1 ?_;go_upto_region 1 with (fail);refine lbeg (opsOf Tryz.f142 1) ?_;refine lnow 0 (.pointer (some ⟨q,0,none⟩)) (some 4) ?_;refine lin_callPP 1 159 #[.pointer (some ⟨q,0,none⟩)] (some 5) (by kernel_rfl) (by kernel_rfl) (by kernel_rfl) (level_walkP K q w l RD.out) EQ (fun p c w' hb ho=>⟨rfl,PP.no (by rw [hB.out];exact BB.out.trans (hb.mono SZ.out)) ho⟩) ?_;intro lv l1 vv w1 hx EQ1 hb hv hp;replace EQ:=EQ1;clear EQ1;obtain ⟨rfl,h4⟩:=hv;have H4:=hZ h4;clear h4;clear hx;replace BB:=hZ (BB.out.trans (hb.mono SZ.out));replace SZ:=hZ (Nat.le_trans SZ.out hb.size);replace RD:=hZ hp;clear hb hp;obtain ⟨z,hz⟩:∃ z,Hid (w1.heap.size=z):=⟨_,rfl⟩;have oz:Hid (B≤z):=(by rw [Hid,← hz.out];exact SZ.out);refine lin_row 2 80 (ints .i64 lv.zs) z 1 (some 6) (by kernel_rfl) (by kernel_rfl) hz (exec_of _ _ (by kernel_rfl) (run_build_lvs1 H4.out _)) ?_;intro wz bb eb sb;have RWF:Hid (LvRow (B) wz (.slice (some ⟨z,0,none⟩) 1 1) [lv]):=RowG.one lvG bb ⟨rfl,H4.out⟩ (by have:=QB.out;have:=oz.out;omega);rw [← hz.out] at eb;replace RD:=hZ (RD.out.below eb RD.out.lt);replace BB:=hZ (BB.out.trans (Bel.of (eb.mono SZ.out)));replace SZ:=hZ (Nat.le_trans SZ.out eb.size);clear bb eb sb hz;refine lnow 3 (.slice (some ⟨z,0,none⟩) 1 1) (some 3) ?_;refine ldq 4 ?_;go_wp2
 go_loopg [3] 3 (fun g s3 wr=>∃ (li:List (List UInt8)) (ls:List Lv) (rv:Value),rv=s3∧Hid (ls.length+g=4)∧Hid (PR.bind (lvsLoop g ls li) (fun c r=>(exP [125] r).bind fun _ r=>.ok c r)=oo)∧Hid (PAt K q wr li)∧Hid (Bel [q] B w wr)∧Hid (LvRow B wr rv ls)∧Hid (B≤wr.heap.size))
 case atStart=>exact ⟨l1,[lv],_,rfl,rfl,EQ,RD,BB,RWF,SZ⟩
 case round=>
  clear EQ RD BB RWF SZ;obtain ⟨li,ls,rv,hrv,GL,EQ,RD,BB,RWF,SZ⟩:=hrel;subst hrv;obtain ⟨la,lc,hrs⟩:=RWF.out.sl;obtain ⟨M,hM⟩:∃ M,Hid (ls.length=M):=⟨_,rfl⟩;rw [hM.out] at hrs GL;subst hrs;have gl:=GL.out;by_cases hm4:M<4
  rotate_left
  ·skip
   obtain rfl:M=4:=(by omega);rw [lvsLoop_no (.inl (by omega)),PR.bind_ok] at EQ;go_upto_region 2 with (fail);refine lbeg (opsOf Tryz.f142 2) ?_;refine lnow 0 (.slice la 4 lc) (some 7) ?_;refine lnow 1 (.int .i64 4) (some 8) ?_;refine lnow 2 (.bool false) (some 9) ?_;refine lnow 3 (.bool false) (some 10) ?_;refine lpas 4 (some 11) ?_;refine lpas 5 (some 12) ?_;refine lnow 6 (.bool false) (some 13) ?_;refine ldq 7 ?_;go_upto_region 4 with (fail);refine lbeg (opsOf Tryz.f142 4) ?_;refine lnow 0 (.pointer (some ⟨q,0,none⟩)) (some 19) ?_;refine lin_callPP 1 100 #[.pointer (some ⟨q,0,none⟩),sT [125]] (some 20) (by kernel_rfl) (by kernel_rfl) (by kernel_rfl) (expect_walk K q wr li RD.out [125] (by decide)) EQ (fun p c w' hb ho=>⟨rfl,PP.no (by rw [hB.out];exact BB.out.trans (hb.mono SZ.out)) ho⟩) ?_;intro x l9 vv w2 hx EQ1 hb hv hp;replace EQ:=EQ1;clear EQ1;obtain rfl:vv=.tuple #[]:=hv;clear hx;replace RWF:=hZ (LvRow.call RWF.out hb (by have:=QB.out;omega));replace BB:=hZ (BB.out.trans (hb.mono SZ.out));replace SZ:=hZ (Nat.le_trans SZ.out hb.size);replace RD:=hZ hp;clear hb hp;refine ldq 2 ?_;have FIN:Hid (PP K q oo RLvs w (.returned (.slice la 4 lc)) w2):=PP.yes (by rw [hB.out];exact BB.out) EQ.out (by have h9:=RWF.out.lvs (by have:=hM.out;omega);rw [RLvs,hB.out];exact h9) RD.out;clear RWF BB RD;go_upto_region 5 with (fail);refine lbeg (opsOf Tryz.f142 5) ?_;refine lnow 0 (.slice la 4 lc) (some 21) ?_
   refine lnow 1 (.slice la 4 lc) (some 2) ?_;refine ldq 2 ?_;go_wp2;go_ret;exact FIN.out
  by_cases c:nx li=[44]
  rotate_left
  ·skip
   rw [lvsLoop_no (.inr c),PR.bind_ok] at EQ;go_upto_region 2 with (fail);refine lbeg (opsOf Tryz.f142 2) ?_;refine lnow 0 (.slice la M lc) (some 7) ?_;refine lnow 1 (.int .i64 (M:Int)) (some 8) ?_;refine lnow 2 (.bool (decide ((M:Int)<4))) (some 9) ?_;rw [decide_eq_true (by omega:(M:Int)<4)];refine lnow 3 (.bool true) (some 10) ?_;refine lnow 4 (.pointer (some ⟨q,0,none⟩)) (some 11) ?_;refine lcal 5 86 #[.pointer (some ⟨q,0,none⟩),sT [44]] (some 12) _ (accept_no K q wr li RD.out [44] c) ?_;rintro e w' ⟨rfl,hw'⟩;obtain rfl:=hw'.symm;refine ⟨_,rfl,?_⟩;refine lnow 6 (.bool false) (some 13) ?_;refine ldq 7 ?_;go_upto_region 4 with (fail);refine lbeg (opsOf Tryz.f142 4) ?_;refine lnow 0 (.pointer (some ⟨q,0,none⟩)) (some 19) ?_;refine lin_callPP 1 100 #[.pointer (some ⟨q,0,none⟩),sT [125]] (some 20) (by kernel_rfl) (by kernel_rfl) (by kernel_rfl) (expect_walk K q wr li RD.out [125] (by decide)) EQ (fun p c w' hb ho=>⟨rfl,PP.no (by rw [hB.out];exact BB.out.trans (hb.mono SZ.out)) ho⟩) ?_;intro x l9 vv w2 hx EQ1 hb hv hp;replace EQ:=EQ1;clear EQ1;obtain rfl:vv=.tuple #[]:=hv;clear hx;replace RWF:=hZ (LvRow.call RWF.out hb (by have:=QB.out;omega));replace BB:=hZ (BB.out.trans (hb.mono SZ.out));replace SZ:=hZ (Nat.le_trans SZ.out hb.size);replace RD:=hZ hp;clear hb hp;refine ldq 2 ?_
   have FIN:Hid (PP K q oo RLvs w (.returned (.slice la M lc)) w2):=PP.yes (by rw [hB.out];exact BB.out) EQ.out (by have h9:=RWF.out.lvs (by have:=hM.out;omega);rw [RLvs,hB.out];exact h9) RD.out;clear RWF BB RD;go_upto_region 5 with (fail);refine lbeg (opsOf Tryz.f142 5) ?_;refine lnow 0 (.slice la M lc) (some 21) ?_;refine lnow 1 (.slice la M lc) (some 2) ?_;refine ldq 2 ?_;go_wp2;go_ret;exact FIN.out
  skip
  obtain ⟨k,hk⟩:∃ k,4-M=k+1:=⟨3-M,by omega⟩
  skip
  obtain ⟨k,hk⟩:∃ k,Hid (gk=k+1):=⟨gk-1,by rw [Hid];omega⟩;rw [hk.out,lvsLoop_yes c,bind_assoc] at EQ;go_upto_region 2 with (fail);refine lbeg (opsOf Tryz.f142 2) ?_;refine lnow 0 (.slice la M lc) (some 7) ?_;refine lnow 1 (.int .i64 (M:Int)) (some 8) ?_;refine lnow 2 (.bool (decide ((M:Int)<4))) (some 9) ?_;rw [decide_eq_true (by omega:(M:Int)<4)];refine lnow 3 (.bool true) (some 10) ?_;refine lnow 4 (.pointer (some ⟨q,0,none⟩)) (some 11) ?_;refine lcal 5 86 #[.pointer (some ⟨q,0,none⟩),sT [44]] (some 12) _ (accept_yes K q wr li RD.out [44] c (by decide)) ?_;rintro e w2 ⟨rfl,hb,hp⟩;refine ⟨_,rfl,?_⟩;obtain ⟨l3,hl3⟩:∃ y,Hid (li.tail=y):=⟨_,rfl⟩;rw [hl3.out] at hp
  try rw [hl3.out] at EQ
  replace RWF:=hZ (LvRow.call RWF.out hb (by have:=QB.out;omega));replace BB:=hZ (BB.out.trans (hb.mono SZ.out));replace SZ:=hZ (Nat.le_trans SZ.out hb.size);replace RD:=hZ hp;clear hb hp;refine lnow 6 (.bool true) (some 13) ?_;refine ldq 7 ?_;go_upto_region 3 with (fail);refine lbeg (opsOf Tryz.f142 3) ?_;refine lnow 0 (.slice la M lc) (some 14) ?_;refine lnow 1 (.pointer (some ⟨q,0,none⟩)) (some 15) ?_;refine lin_callPP 2 159 #[.pointer (some ⟨q,0,none⟩)] (some 16) (by kernel_rfl) (by kernel_rfl) (by kernel_rfl) (level_walkP K q w2 l3 RD.out) EQ (fun p c w' hb ho=>⟨rfl,PP.no (by rw [hB.out];exact BB.out.trans (hb.mono SZ.out)) ho⟩) ?_;intro lv l3 vv w4 hx EQ1 hb hv hp;replace EQ:=EQ1;clear EQ1;obtain ⟨rfl,h4⟩:=hv;have H4:=hZ h4;clear h4;clear hx;replace RWF:=hZ (LvRow.call RWF.out hb (by have:=QB.out;omega));replace BB:=hZ (BB.out.trans (hb.mono SZ.out));replace SZ:=hZ (Nat.le_trans SZ.out hb.size);replace RD:=hZ hp;clear hb hp;refine lin_rowG lvG 80 22 infoLvP Tryz.underlying22 rfl (by decide) (by decide) (by decide) 3 (some 17) (some 18) lv (ints .i64 lv.zs) (.slice la M lc) ls (B) RWF.out (⟨rfl,H4.out⟩) (by have:=hM.out;omega) (SZ.out) (by kernel_rfl) (by kernel_rfl) (by kernel_rfl) (fun _=>run_build_lvs1 H4.out _) (fun _=>by kernel_rfl) (by kernel_rfl) (fun _=>by kernel_rfl) ?_;intro zz rv2 wa hrow hbel;replace RWF:Hid (LvRow B wa rv2 (ls++[lv])):=hrow;replace RD:=hZ (RD.out.below hbel QB.out)
  replace BB:=hZ (BB.out.trans (Bel.of hbel));replace SZ:=hZ (Nat.le_trans SZ.out hbel.size);clear hrow hbel;have LS:Hid ((ls++[lv]).length=M+1):=(by rw [Hid,List.length_append,hM.out];rfl);have hk2:=hk.out;refine lnow 5 (rv2) (some 3) ?_;refine ldq 6 ?_;go_wp2
  go_roundg k
  case rel=>exact ⟨l3,ls++[lv],rv2,rfl,(by rw [Hid,LS.out];omega),EQ,RD,BB,RWF,SZ⟩
  case measure=>omega
set_option maxHeartbeats 8000000 in
theorem tlevel_walkP (K:Nat→Nat) (q:Nat) (w:World) (l:List (List UInt8)) (h:PAt K q w l):Calls Tryz.prog 140 #[.pointer (some ⟨q,0,none⟩)] w (PP K q (tlevelP l) RLev w):=by
 obtain ⟨oo,hoo⟩:∃ oo,Hid (tlevelP l=oo):=⟨_,rfl⟩;rw [hoo.out];have EQ:=hoo;clear hoo;unfold tlevelP at EQ;obtain ⟨B,hB⟩:∃ B,Hid (w.heap.size=B):=⟨_,rfl⟩;have RD:=hZ h;have QB:Hid (q<B):=(by rw [← hB.out];exact h.lt);have BB:Hid (Bel [q] B w w):=Bel.refl _ _ _;have SZ:Hid (B≤w.heap.size):=(by rw [Hid,hB.out];exact Nat.le_refl _);clear h
 go_enter Tryz.func140,Tryz.ntmps140
 go_upto_region 0 with (fail);refine lbeg (opsOf Tryz.f140 0) ?_;refine lin_alloc 0 80 (ints .i64 z5) (B) (some 2) (by kernel_rfl) (by kernel_rfl) (by kernel_rfl) zeroLv hB ?_;intro w1 bx ex sx;replace RD:=hZ (RD.out.below ex QB.out);replace BB:Hid (Bel [q] B w w1):=Bel.of ex;replace SZ:Hid (B≤w1.heap.size):=Nat.le_of_lt bx.lt;have BR:=hZ bx;clear bx ex sx;refine ldq 1 ?_;by_cases c:nx l=[40]
 rotate_left
 ·skip
  rw [if_neg c] at EQ;replace EQ:=PR.tail EQ;go_upto_region 1 with (fail);refine lbeg (opsOf Tryz.f140 1) ?_;refine lnow 0 (.pointer (some ⟨q,0,none⟩)) (some 4) ?_;refine lcal 1 86 #[.pointer (some ⟨q,0,none⟩),sT [40]] (some 5) _ (accept_no K q w1 l RD.out [40] c) ?_;rintro e w' ⟨rfl,hw'⟩;obtain rfl:=hw'.symm;refine ⟨_,rfl,?_⟩;refine lnow 2 (.bool true) (some 6) ?_;refine ldq 3 ?_;go_upto_region 2 with (fail);refine lbeg (opsOf Tryz.f140 2) ?_;refine lnow 0 (.pointer (some ⟨q,0,none⟩)) (some 7) ?_;refine lin_callPP 1 158 #[.pointer (some ⟨q,0,none⟩),.bool false] (some 8) (by kernel_rfl) (by kernel_rfl) (by kernel_rfl) (part_walk K q w1 l RD.out false) EQ (fun p c w' hb ho=>⟨rfl,PP.no (by rw [hB.out];exact BB.out.trans (hb.mono SZ.out)) ho⟩) ?_;intro lv l3 vv w2 hx EQ1 hb hv hp;replace EQ:=EQ1;clear EQ1;obtain ⟨rfl,h4⟩:=hv;have H4:=hZ h4;clear h4;clear hx;replace BR:=hZ (bel_keep hb BR.out (by have:=QB.out;omega) BR.out.lt);replace BB:=hZ (BB.out.trans (hb.mono SZ.out));replace SZ:=hZ (Nat.le_trans SZ.out hb.size);replace RD:=hZ hp;clear hb hp;refine lput 2 80 (.tmp 2) (.tmp 8) (B) _ (ints .i64 z5) (ints .i64 (lv).zs) BR.out (Lv.zlen H4.out) (lvSize H4.out) (ints_oneCell _ _) ?_;intro w99 b99 u99;refine ldq 3 ?_;have FIN:Hid (PP K q oo RLev w (.returned (.agg (ints .i64 (lv).zs).toArray)) w99):=PP.yes (by rw [hB.out];exact BB.out.newBlk u99 (Nat.le_refl _) SZ.out) EQ.out (RLev.of H4.out) (RD.out.upd u99 QB.out);have HB:=hZ b99
  clear b99 u99;go_wp2;refine bodyPost_ret (v:=.agg (ints .i64 (lv).zs).toArray) ?_ rfl FIN.out;exact results_cell_row (g:=B) (t:=80) (cs:=(ints .i64 (lv).zs).toArray) (fr:=(0,0)) Tryz.results140 _ _ _ rfl HB.out Tryz.underlying80 rfl (by rw [List.size_toArray];exact lvSize H4.out)
 rw [if_pos c] at EQ;go_upto_region 1 with (fail);refine lbeg (opsOf Tryz.f140 1) ?_;refine lnow 0 (.pointer (some ⟨q,0,none⟩)) (some 4) ?_;refine lcal 1 86 #[.pointer (some ⟨q,0,none⟩),sT [40]] (some 5) _ (accept_yes K q w1 l RD.out [40] c (by decide)) ?_;rintro e w2 ⟨rfl,hb,hp⟩;refine ⟨_,rfl,?_⟩;obtain ⟨l3,hl3⟩:∃ y,Hid (l.tail=y):=⟨_,rfl⟩;rw [hl3.out] at hp
 try rw [hl3.out] at EQ
 replace BR:=hZ (bel_keep hb BR.out (by have:=QB.out;omega) BR.out.lt);replace BB:=hZ (BB.out.trans (hb.mono SZ.out));replace SZ:=hZ (Nat.le_trans SZ.out hb.size);replace RD:=hZ hp;clear hb hp;refine lnow 2 (.bool false) (some 6) ?_;refine ldq 3 ?_;go_upto_region 3 with (fail);refine lbeg (opsOf Tryz.f140 3) ?_;refine lnow 0 (.pointer (some ⟨q,0,none⟩)) (some 9) ?_;refine lin_callPP 1 159 #[.pointer (some ⟨q,0,none⟩)] (some 10) (by kernel_rfl) (by kernel_rfl) (by kernel_rfl) (level_walkP K q w2 l3 RD.out) EQ (fun p c w' hb ho=>⟨rfl,PP.no (by rw [hB.out];exact BB.out.trans (hb.mono SZ.out)) ho⟩) ?_;intro lv l5 vv w4 hx EQ1 hb hv hp;replace EQ:=EQ1;clear EQ1;obtain ⟨rfl,h4⟩:=hv;have H4:=hZ h4;clear h4;clear hx;replace BR:=hZ (bel_keep hb BR.out (by have:=QB.out;omega) BR.out.lt);replace BB:=hZ (BB.out.trans (hb.mono SZ.out));replace SZ:=hZ (Nat.le_trans SZ.out hb.size);replace RD:=hZ hp;clear hb hp;obtain ⟨z,hz⟩:∃ z,Hid (w4.heap.size=z):=⟨_,rfl⟩;have oz:Hid (B≤z):=(by rw [Hid,← hz.out];exact SZ.out);have ozBR:Hid (B<z):=(by rw [Hid,← hz.out];exact BR.out.lt);refine lin_alloc 2 80 (ints .i64 z5) (z) (some 3) (by kernel_rfl) (by kernel_rfl) (by kernel_rfl) zeroLv hz ?_;intro w6 ba ea sa;refine lput 3 80 (.tmp 3) (.tmp 10) (z) _ (ints .i64 z5) (ints .i64 lv.zs) ba (Lv.zlen H4.out) (lvSize H4.out) (ints_oneCell _ _) ?_;intro w7 bb ub;have eb:Below z w4 w7:=ub.below ea (Nat.le_refl _) (by have:=ba.lt;omega)
 have BZ:=hZ bb;rw [← hz.out] at eb;replace BR:=hZ (BR.out.below eb BR.out.lt);replace RD:=hZ (RD.out.below eb RD.out.lt);replace BB:=hZ (BB.out.trans (Bel.of (eb.mono SZ.out)));replace SZ:=hZ (Nat.le_trans SZ.out eb.size);clear ba ea sa bb ub eb hz;refine ldq 4 ?_;go_upto_region 4 with (fail);refine lbeg (opsOf Tryz.f140 4) ?_;refine lnow 0 (.pointer (some ⟨q,0,none⟩)) (some 11) ?_;refine lin_callPP 1 100 #[.pointer (some ⟨q,0,none⟩),sT [41]] (some 12) (by kernel_rfl) (by kernel_rfl) (by kernel_rfl) (expect_walk K q w7 l5 RD.out [41] (by decide)) EQ (fun p c w' hb ho=>⟨rfl,PP.no (by rw [hB.out];exact BB.out.trans (hb.mono SZ.out)) ho⟩) ?_;intro y l9 vv w8 hx EQ1 hb hv hp;replace EQ:=EQ1;clear EQ1;obtain rfl:vv=.tuple #[]:=hv;clear hx;replace BR:=hZ (bel_keep hb BR.out (by have:=QB.out;have:=oz.out;have:=ozBR.out;omega) BR.out.lt);replace BZ:=hZ (bel_keep hb BZ.out (by have:=QB.out;have:=oz.out;have:=ozBR.out;omega) BZ.out.lt);replace BB:=hZ (BB.out.trans (hb.mono SZ.out));replace SZ:=hZ (Nat.le_trans SZ.out hb.size);replace RD:=hZ hp;clear hb hp;refine ldq 2 ?_;go_upto_region 5 with (fail);refine lbeg (opsOf Tryz.f140 5) ?_;refine lrl 0 (ints .i64 lv.zs) (some 13) 80 3 z 0 BZ.out.whole Tryz.underlying80 (lvSize H4.out) ?_;refine lput 1 80 (.tmp 2) (.tmp 13) (B) _ (ints .i64 z5) (ints .i64 (lv).zs) BR.out (Lv.zlen H4.out) (lvSize H4.out) (ints_oneCell _ _) ?_;intro w99 b99 u99;refine ldq 2 ?_
 have FIN:Hid (PP K q oo RLev w (.returned (.agg (ints .i64 (lv).zs).toArray)) w99):=PP.yes (by rw [hB.out];exact BB.out.newBlk u99 (Nat.le_refl _) SZ.out) EQ.out (RLev.of H4.out) (RD.out.upd u99 QB.out);have HB:=hZ b99;clear b99 u99;go_wp2;refine bodyPost_ret (v:=.agg (ints .i64 (lv).zs).toArray) ?_ rfl FIN.out;exact results_cell_row (g:=B) (t:=80) (cs:=(ints .i64 (lv).zs).toArray) (fr:=(0,0)) Tryz.results140 _ _ _ rfl HB.out Tryz.underlying80 rfl (by rw [List.size_toArray];exact lvSize H4.out)
end Go.Proofs.YtmceocgddaaohaaGreatDoor
