import Derived.Test.YtmceocgddaaohaaGreatDoorQLexI
import Derived.Test.YtmceocgddaaohaaGreatDoorQTrmE
import Derived.Test.YtmceocgddaaohaaGreatDoorQCodJ
import Derived.Test.YtmceocgddaaohaaGreatDoorQGenT
import Derived.WalkLawsBesides
import Derived.Deep.CutRange
import Derived.Test.YtmceocgddaaohaaGreatDoorQTrmQ
namespace Go.Proofs.YtmceocgddaaohaaGreatDoor
open Go Go.RowKit
set_option maxRecDepth 100000
def atK (K:Nat→Nat):Option Nat→Nat
 |none=>0
 |some p=>K p
def LvsN (F:List Nat) (w:World) (v:Value) (n:List Lv):Prop:=LvsOff F w v n
theorem LvsN.step {F F':List Nat} {w w':World} {v:Value} {n:List Lv} (h:LvsN F w v n) (hs:Step F w F' w'):LvsN F' w' v n:=LvsOff.step h hs
theorem LvsN.sub {F G:List Nat} {w:World} {v:Value} {n:List Lv} (h:LvsN F w v n) (hG:∀ k∈G,k∈F∨w.heap.size≤k):LvsN G w v n:=LvsOff.sub h hG
theorem LvsN.nil (F:List Nat) (w:World) (a:Option Addr) (c:Nat):LvsN F w (.slice a 0 c) []:=LvsOff.nil F w a c
theorem LvsN.slice {F:List Nat} {w:World} {v:Value} {n:List Lv} (h:LvsN F w v n):∃ a cap,v=.slice a n.length cap:=LvsOff.slice h
mutual
def RwAt (K:Nat→Nat) (F:List Nat) (w:World):Rw→List Value→Prop
 |.mk k n p s l a,cs=>∃ lv av,cs=[.int .i64 (k:Int),.int .i64 (n:Int),.int .i64 (atK K p:Int),sT s,lv,av]∧LvsN F w lv l∧RwsAt K F w a av
def RwsAt (K:Nat→Nat) (F:List Nat) (w:World):List Rw→Value→Prop
 |[],v=>∃ a cap,v=.slice a 0 cap
 |t::ts,v=>∃ cap pb po,v=.slice (some ⟨pb,po,none⟩) (ts.length+1) cap∧ts.length+1≤cap∧pb∉F∧pb<w.heap.size∧RwRow K F w (t::ts) pb po
def RwRow (K:Nat→Nat) (F:List Nat) (w:World):List Rw→Nat→Nat→Prop
 |[],_,_=>True
 |t::ts,pb,po=>(∃ cs,w.rangeAt pb po cs∧RwAt K F w t cs)∧RwRow K F w ts pb (po+6)
end
mutual
theorem RwAt.step {K:Nat→Nat} {F F':List Nat} {w w':World} (hs:Step F w F' w'):∀ (t:Rw) (cs:List Value),RwAt K F w t cs→RwAt K F' w' t cs
 |.mk k n p s l a,cs,h=>by
  rw [RwAt] at h ⊢;obtain ⟨lv,av,h1,h2,h3⟩:=h;exact ⟨lv,av,h1,h2.step hs,RwsAt.step hs a av h3⟩
theorem RwsAt.step {K:Nat→Nat} {F F':List Nat} {w w':World} (hs:Step F w F' w'):∀ (ts:List Rw) (v:Value),RwsAt K F w ts v→RwsAt K F' w' ts v
 |[],v,h=>by
  rw [RwsAt] at h ⊢;exact h
 |t::ts,v,h=>by
  rw [RwsAt] at h ⊢;obtain ⟨cap,pb,po,h1,h2,h3,h4,h5⟩:=h;exact ⟨cap,pb,po,h1,h2,hs.off h4 h3,Nat.lt_of_lt_of_le h4 hs.size,RwRow.step hs (t::ts) pb po h4 h3 h5⟩
theorem RwRow.step {K:Nat→Nat} {F F':List Nat} {w w':World} (hs:Step F w F' w'):∀ (ts:List Rw) (pb po:Nat),pb<w.heap.size→pb∉F→RwRow K F w ts pb po→RwRow K F' w' ts pb po
 |[],_,_,_,_,_=>by rw [RwRow];trivial
 |t::ts,pb,po,hb,hF,h=>by
  rw [RwRow] at h ⊢;obtain ⟨⟨cs,h1,h2⟩,h3⟩:=h;exact ⟨⟨cs,hs.range hb hF h1,RwAt.step hs t cs h2⟩,RwRow.step hs ts pb (po+6) hb hF h3⟩
end
mutual
theorem RwAt.sub {K:Nat→Nat} {F G:List Nat} {w:World} (hG:∀ k∈G,k∈F∨w.heap.size≤k):∀ (t:Rw) (cs:List Value),RwAt K F w t cs→RwAt K G w t cs
 |.mk k n p s l a,cs,h=>by
  rw [RwAt] at h ⊢;obtain ⟨lv,av,h1,h2,h3⟩:=h;exact ⟨lv,av,h1,h2.sub hG,RwsAt.sub hG a av h3⟩
theorem RwsAt.sub {K:Nat→Nat} {F G:List Nat} {w:World} (hG:∀ k∈G,k∈F∨w.heap.size≤k):∀ (ts:List Rw) (v:Value),RwsAt K F w ts v→RwsAt K G w ts v
 |[],v,h=>by
  rw [RwsAt] at h ⊢;exact h
 |t::ts,v,h=>by
  rw [RwsAt] at h ⊢;obtain ⟨cap,pb,po,h1,h2,h3,h4,h5⟩:=h;exact ⟨cap,pb,po,h1,h2,fun hc=>by rcases hG pb hc with h|h;exact h3 h;omega,h4,RwRow.sub hG (t::ts) pb po h5⟩
theorem RwRow.sub {K:Nat→Nat} {F G:List Nat} {w:World} (hG:∀ k∈G,k∈F∨w.heap.size≤k):∀ (ts:List Rw) (pb po:Nat),RwRow K F w ts pb po→RwRow K G w ts pb po
 |[],_,_,_=>by rw [RwRow];trivial
 |t::ts,pb,po,h=>by
  rw [RwRow] at h ⊢;obtain ⟨⟨cs,h1,h2⟩,h3⟩:=h;exact ⟨⟨cs,h1,RwAt.sub hG t cs h2⟩,RwRow.sub hG ts pb (po+6) h3⟩
end
theorem RwAt.below {K:Nat→Nat} {F:List Nat} {w w':World} {t:Rw} {cs:List Value} (h:RwAt K F w t cs) (hb:Below w.heap.size w w'):RwAt K F w' t cs:=RwAt.step (Step.of_below hb (Nat.le_refl _)) t cs h
theorem RwsAt.below {K:Nat→Nat} {F:List Nat} {w w':World} {ts:List Rw} {v:Value} (h:RwsAt K F w ts v) (hb:Below w.heap.size w w'):RwsAt K F w' ts v:=RwsAt.step (Step.of_below hb (Nat.le_refl _)) ts v h
theorem RwAt.open {K:Nat→Nat} {F:List Nat} {w:World} {t:Rw} {cs:List Value} (h:RwAt K F w t cs):∃ lv av,cs=[.int .i64 (t.kind:Int),.int .i64 (t.n:Int),.int .i64 (atK K t.at':Int),sT t.name,lv,av]∧LvsN F w lv t.levels∧RwsAt K F w t.args av:=by
 obtain ⟨k,n,p,s,l,a⟩:=t;rw [RwAt] at h;exact h
theorem RwAt.len {K:Nat→Nat} {F:List Nat} {w:World} {t:Rw} {cs:List Value} (h:RwAt K F w t cs):cs.length=6:=by
 obtain ⟨lv,av,rfl,-⟩:=h.open
 rfl
theorem RwsAt.slice {K:Nat→Nat} {F:List Nat} {w:World} {ts:List Rw} {v:Value} (h:RwsAt K F w ts v):∃ a cap,v=.slice a ts.length cap:=by
 cases ts with
 |nil=>rw [RwsAt] at h;exact h
 |cons t ts=>
  rw [RwsAt] at h;obtain ⟨cap,pb,po,h1,-⟩:=h;exact ⟨_,_,h1⟩
theorem RwAt.one {K:Nat→Nat} {F:List Nat} {w:World} {t:Rw} {cs:List Value} (h:RwAt K F w t cs):∀ u∈cs,u.oneCell'=true:=by
 obtain ⟨lv,av,rfl,h1,h2⟩:=h.open;obtain ⟨a1,c1,rfl⟩:=h1.slice;obtain ⟨a2,c2,rfl⟩:=h2.slice;intro u hu;simp only [List.mem_cons,List.not_mem_nil,or_false] at hu;rcases hu with rfl|rfl|rfl|rfl|rfl|rfl<;>rfl
theorem RwRow.get {K:Nat→Nat} {F:List Nat} {w:World}:∀ (ts:List Rw) (pb po i:Nat) (t:Rw),RwRow K F w ts pb po→ts[i]?=some t→∃ cs,w.rangeAt pb (po+6*i) cs∧RwAt K F w t cs
 |[],_,_,_,_,_,h=>by simp at h
 |t0::ts,pb,po,0,t,h,hi=>by
  rw [RwRow] at h;obtain rfl:t0=t:=(by simpa using hi);exact h.1
 |t0::ts,pb,po,i+1,t,h,hi=>by
  rw [RwRow] at h;obtain ⟨cs,h1,h2⟩:=RwRow.get ts pb (po+6) i t h.2 (by simpa using hi);exact ⟨cs,by rw [show po+6*(i+1)=po+6+6*i by omega];exact h1,h2⟩
theorem RwRow.of {K:Nat→Nat} {F:List Nat} {w:World}:∀ (ts:List Rw) (pb po:Nat),(∀ (i:Nat) (t:Rw),ts[i]?=some t→∃ cs,w.rangeAt pb (po+6*i) cs∧RwAt K F w t cs)→RwRow K F w ts pb po
 |[],_,_,_=>by rw [RwRow];trivial
 |t::ts,pb,po,h=>by
  rw [RwRow];refine ⟨by simpa using h 0 t rfl,RwRow.of ts pb (po+6) fun i t' hi=>?_⟩
  obtain ⟨cs,h1,h2⟩:=h (i+1) t' (by simpa using hi);exact ⟨cs,by rw [show po+6+6*i=po+6*(i+1) by omega];exact h1,h2⟩
theorem RwsAt.get {K:Nat→Nat} {F:List Nat} {w:World} {ts:List Rw} {a:Option Addr} {n c:Nat} (h:RwsAt K F w ts (.slice a n c)) (hn:ts.length=n) {i:Nat} (hi:i<n):∃ t pb po cs,ts[i]?=some t∧t∈ts∧a=some ⟨pb,po,none⟩∧pb∉F∧pb<w.heap.size∧n≤c∧w.rangeAt pb (po+6*i) cs∧RwAt K F w t cs:=by
 cases ts with
 |nil=>simp at hn;omega
 |cons t0 ts=>
  rw [RwsAt] at h;obtain ⟨cap,pb,po,h1,h2,h3,h4,h5⟩:=h;obtain ⟨rfl,e2,rfl⟩:=Value.slice.inj h1;have hg:(t0::ts)[i]?=some ((t0::ts)[i]'(by omega)):=List.getElem?_eq_getElem (by omega);obtain ⟨cs,h6,h7⟩:=RwRow.get (t0::ts) pb po i _ h5 hg;exact ⟨_,pb,po,cs,hg,List.getElem_mem _,rfl,h3,h4,by omega,h6,h7⟩
theorem RwsAt.of {K:Nat→Nat} {F:List Nat} {w:World} {ts:List Rw} {pb po c:Nat} (hc:ts.length≤c) (hF:pb∉F) (hb:pb<w.heap.size) (h:∀ (i:Nat) (t:Rw),ts[i]?=some t→∃ cs,w.rangeAt pb (po+6*i) cs∧RwAt K F w t cs):RwsAt K F w ts (.slice (some ⟨pb,po,none⟩) ts.length c):=by
 cases ts with
 |nil=>rw [RwsAt];exact ⟨_,_,rfl⟩
 |cons t ts=>
  rw [RwsAt];exact ⟨c,pb,po,rfl,by simpa using hc,hF,hb,RwRow.of _ _ _ h⟩
theorem RwsAt.nil {K:Nat→Nat} (F:List Nat) (w:World) (a:Option Addr) (c:Nat):RwsAt K F w [] (.slice a 0 c):=by
 rw [RwsAt];exact ⟨a,c,rfl⟩
theorem RwAt.off {K:Nat→Nat} {G:List Nat} {m:Nat} {w:World} {t:Rw} {cs:List Value} (h:RwAt K (List.range m) w t cs) (hG:∀ k∈G,k<m∨w.heap.size≤k):RwAt K G w t cs:=RwAt.sub (fun k hk=>(hG k hk).imp (fun h=>List.mem_range.2 h) id) t cs h
theorem RwAt.range {K:Nat→Nat} {m n:Nat} {w:World} {t:Rw} {cs:List Value} (h:RwAt K (List.range m) w t cs) (hn:n≤m):RwAt K (List.range n) w t cs:=h.off (fun k hk=>.inl (by have:=List.mem_range.1 hk;omega))
structure PredG {α:Type} (P:List Nat→World→α→List Value→Prop) (sz:Nat):Prop where
 step:∀ {F F':List Nat} {w w':World},Step F w F' w'→∀ (x:α) (cs:List Value),P F w x cs→P F' w' x cs
 sub:∀ {F G:List Nat} {w:World},(∀ k∈G,k∈F∨w.heap.size≤k)→∀ (x:α) (cs:List Value),P F w x cs→P G w x cs
 len:∀ {F:List Nat} {w:World} {x:α} {cs:List Value},P F w x cs→cs.length=sz
 one:∀ {F:List Nat} {w:World} {x:α} {cs:List Value},P F w x cs→∀ u∈cs,u.oneCell'=true
section
variable {α:Type} {P:List Nat→World→α→List Value→Prop} {sz:Nat}
def SlG (P:List Nat→World→α→List Value→Prop) (sz:Nat) (F:List Nat) (w:World) (v:Value) (xs:List α):Prop:=
 ∃ a cap,v=.slice a xs.length cap∧xs.length≤cap∧(0<xs.length→∃ pb po,a=some ⟨pb,po,none⟩∧pb∉F∧pb<w.heap.size∧∀ (i:Nat) (x:α),xs[i]?=some x→∃ cs,w.rangeAt pb (po+sz*i) cs∧P F w x cs)
theorem SlG.nil (F:List Nat) (w:World) (a:Option Addr) (c:Nat):SlG P sz F w (.slice a 0 c) []:=⟨a,c,rfl,Nat.zero_le _,fun h=>absurd h (by simp)⟩
theorem SlG.slice {F:List Nat} {w:World} {v:Value} {xs:List α} (h:SlG P sz F w v xs):∃ a cap,v=.slice a xs.length cap:=by
 obtain ⟨a,cap,h1,-⟩:=h;exact ⟨a,cap,h1⟩
def CellsG (P:List Nat→World→α→List Value→Prop) (F:List Nat) (w:World):List α→List (List Value)→Prop
 |[],[]=>True
 |t::ts,c::cs=>P F w t c∧CellsG P F w ts cs
 |_,_=>False
theorem CellsG.at (hP:PredG P sz) {F:List Nat} {w:World}:∀ {ts:List α} {cs:List (List Value)} {i:Nat} {t:α},CellsG P F w ts cs→ts[i]?=some t→∃ c,P F w t c∧∀ (j:Nat) (u:Value),c[j]?=some u→cs.flatten[sz*i+j]?=some u
 |[],[],i,t,_,hi=>by simp at hi
 |t0::ts,c::cs,0,t,h,hi=>by
  obtain rfl:t0=t:=(by simpa using hi);refine ⟨c,h.1,fun j u hu=>?_⟩
  have hj:=(List.getElem?_eq_some_iff.1 hu).1;rw [List.flatten_cons,List.getElem?_append_left (by omega)]
  simpa using hu
 |t0::ts,c::cs,i+1,t,h,hi=>by
  obtain ⟨c',h1,h2⟩:=CellsG.at hP h.2 (i:=i) (t:=t) (by simpa using hi);refine ⟨c',h1,fun j u hu=>?_⟩
  have:=hP.len h.1;rw [List.flatten_cons,List.getElem?_append_right (by rw [this,Nat.mul_succ];omega),this,show sz*(i+1)+j-sz=sz*i+j by rw [Nat.mul_succ];omega];exact h2 j u hu
 |[],_::_,_,_,h,_=>h.elim
 |_::_,[],_,_,h,_=>h.elim
theorem CellsG.step (hP:PredG P sz) {F F':List Nat} {w w':World} (hs:Step F w F' w'):∀ {ts:List α} {cs:List (List Value)},CellsG P F w ts cs→CellsG P F' w' ts cs
 |[],[],_=>trivial
 |t::_,_::_,h=>⟨hP.step hs t _ h.1,CellsG.step hP hs h.2⟩
 |[],_::_,h=>h.elim
 |_::_,[],h=>h.elim
theorem CellsG.snoc {F:List Nat} {w:World} {t:α} {c:List Value} (ht:P F w t c):∀ {ts:List α} {cs:List (List Value)},CellsG P F w ts cs→CellsG P F w (ts++[t]) (cs++[c])
 |[],[],_=>⟨ht,trivial⟩
 |_::_,_::_,h=>⟨h.1,CellsG.snoc ht h.2⟩
 |[],_::_,h=>h.elim
 |_::_,[],h=>h.elim
def RowG (P:List Nat→World→α→List Value→Prop) (sz:Nat) (ty:TypeId) (m:Nat) (w:World) (v:Value) (xs:List α):Prop:=∃ ds,w.ownsRow m ty sz v xs.length ds.flatten∧CellsG P (List.range m++ownL v) w xs ds
theorem RowG.own {ty:TypeId} {m:Nat} {w:World} {v:Value} {xs:List α} (h:RowG P sz ty m w v xs):∀ g,v.ownBlock=some g→m≤g∧g<w.heap.size:=by
 obtain ⟨ds,h1,-⟩:=h;exact own_where h1
theorem RowG.step (hP:PredG P sz) {ty:TypeId} {m:Nat} {w w':World} {v:Value} {xs:List α} {F:List Nat} (h:RowG P sz ty m w v xs) (hs:Step F w F w') (hF:∀ k∈F,k<m):RowG P sz ty m w' v xs:=by
 obtain ⟨ds,h1,h2⟩:=h;have ho:=own_where h1;refine ⟨ds,own_step h1 hs (fun g hg hgF=>by have:=hF g hgF;have:=(ho g hg).1;omega),?_⟩
 have hs2:Step (List.range m++ownL v) w (List.range m++ownL v) w':=⟨hs.os,hs.tape,hs.output,hs.size,fun k hk hn=>hs.block k hk (fun hc=>hn (List.mem_append_left _ (List.mem_range.2 (hF k hc)))),fun k hk=>.inl hk⟩
 exact CellsG.step hP hs2 h2
theorem RowG.in (hP:PredG P sz) {ty:TypeId} {m:Nat} {w:World} {v:Value} {xs:List α} (h:RowG P sz ty m w v xs):SlG P sz (List.range m) w v xs:=by
 have ho:=h.own;obtain ⟨ds,⟨h0,h1⟩,h2⟩:=h;rcases h1 with ⟨rfl,hn⟩|⟨g,cap,cur,rfl,hg,hb,hc,hm,hs,ht⟩
 ·obtain rfl:=List.eq_nil_of_length_eq_zero hn
  exact SlG.nil _ _ _ _
 ·refine ⟨some ⟨g,0,none⟩,cap,rfl,hc,fun _=>⟨g,0,rfl,fun hh=>by have:=List.mem_range.1 hh;omega,(Array.getElem?_eq_some_iff.1 hb).1,fun i x hi=>?_⟩⟩
  obtain ⟨c,h3,h4⟩:=CellsG.at hP h2 hi;refine ⟨c,fun j u hu=>?_,hP.sub (fun k hk=>.inl (List.mem_append_left _ hk)) _ _ h3⟩
  have hB:Blk w g ty cur.toList:=(by unfold Blk;simpa using hb);refine hB.cell ?_;have h5:=h4 j u hu;rw [← ht,List.getElem?_take] at h5
  split at h5
  ·rw [Nat.zero_add];exact h5
  ·cases h5
theorem RowG.append (hP : PredG P sz) {rty ty : TypeId} {i0 : TypeInfo} {z : Value} {by0 : Nat} (he : Tryz.prog.underlying rty = some (.slice ty)) (hi0 : Tryz.prog.info? ty = some i0) (hz0 : i0.zero = some z) (hz1 : i0.size = sz) (hz2 : i0.bytes = by0) (hzc : z.cells.size = sz) (hsz : 0 < sz) (hby : 0 < by0)
    {m:Nat} {w:World} {v:Value} {xs:List α} {x:α} {g:Nat} {cs:List Value} (h:RowG P sz ty m w v xs) (hb:Blk w g ty cs) (ht:P (List.range m++ownL v) w x cs) (hn:(xs.length+1)*by0≤140737488355328) (hsz1:by0≤1000) (hm:m≤w.heap.size) :
    ∃ v' w',(Builtin.append_ #[rty,rty] rty #[v,.slice (some ⟨g,0,none⟩) 1 1]).run Tryz.prog w=.ok v' w'∧RowG P sz ty m w' v' (xs++[x])∧w.grownBy w' v.ownBlock∧(v'.ownBlock=v.ownBlock∨v'.ownBlock=some w.heap.size):=by
 obtain ⟨ds,h1,h2⟩:=h;have hl:cs.length=sz:=hP.len ht;obtain ⟨v',w',e1,e2,e3,-,e5⟩:=run_append_own_at w m rty rty ty i0 _ sz by0 he hi0 hz0 hz1 hz2 hzc hsz v xs.length ds.flatten h1 ⟨g,0,none⟩ 1 1 cs (by rw [hl,Nat.one_mul]) (fun j u hj=>by rw [Addr.add_mid];exact hb.whole j u hj) (fun u hu=>hP.one ht u hu) (by have:=Nat.le_mul_of_pos_right (xs.length+1) hby;unfold maxLen;omega) hn hm
 have hs:=grown_step (m:=m) e3 e5;exact ⟨v',w',e1,⟨ds++[cs],by rw [List.flatten_append,List.length_append];simpa using e2,CellsG.snoc (hP.step hs _ _ ht) (CellsG.step hP hs h2)⟩,e3,e5⟩
end
end Go.Proofs.YtmceocgddaaohaaGreatDoor
namespace Go.Proofs.YtmceocgddaaohaaGreatDoor
open Go Go.RowKit
set_option maxRecDepth 100000
theorem Bel.newBlk {q B b:Nat} {w w' w2:World} (h:Bel [q] B w w') (hu:Upd b w' w2) (hb:B≤b) (hs:B≤w'.heap.size):Bel [q] B w w2:=h.upd hu (.inr hb) hs
theorem bel_keep {q B k:Nat} {t:TypeId} {cs:List Value} {w w':World} (h:Bel [q] B w w') (hk:Blk w k t cs) (hq:k≠q) (hB:k<B):Blk w' k t cs:=h.blk hk hB (by simpa using hq)
def TkLt (E:Nat) (w:World) (v:Value) (ts:List Tk):Prop:=
 ∃ a cap,v=.slice a ts.length cap∧ts.length≤cap∧(0<ts.length→∃ g u,a=some ⟨g,u,none⟩∧g<E∧g<w.heap.size∧w.rangeAt g u (tksC ts))
theorem TkLt.keep {E:Nat} {w w':World} {v:Value} {ts:List Tk} (h:TkLt E w v ts) (hk:∀ k,k<E→k<w.heap.size→w'.heap[k]?=w.heap[k]?) (hs:w.heap.size≤w'.heap.size):TkLt E w' v ts:=by
 obtain ⟨a,cap,h1,h2,h3⟩:=h;refine ⟨a,cap,h1,h2,fun hp=>?_⟩
 obtain ⟨pb,po,h4,h5,h6,h7⟩:=h3 hp;exact ⟨pb,po,h4,h5,Nat.lt_of_lt_of_le h6 hs,fun j u hu=>by
  rw [World.cell?_of_block (w:=w) (a:=⟨pb,po+j,none⟩) (hk pb h5 h6)];exact h7 j u hu⟩
theorem tksC_cons (x:Tk) (ts:List Tk):tksC (x::ts)=tkC x++tksC ts:=by unfold tksC;rw [List.flatMap_cons]
theorem tok_tail {E:Nat} {w:World} {v:Value} {x:Tk} {ts:List Tk} (h:TkLt E w v (x::ts)):∃ a c k,(∀ w',(Instr.sliceAt 109 v (some (.int .i64 1)) none none).run Tryz.prog w'=.ok (.slice a c k) w')∧TkLt E w (.slice a c k) ts:=by
 obtain ⟨a,cap,rfl,h2,h3⟩:=h;have hz:∀ w',(sizeOf (Tryz.prog.elem 109)).run Tryz.prog w'=.ok 3 w':=fun w'=>by kernel_rfl
 have hl:(x::ts).length=ts.length+1:=rfl;refine ⟨if cap=1 then a else a.map (·.add (1*3)),(x::ts).length-1,cap-1,fun w'=>?_,?_⟩
 ·rw [run_sliceAt_slice w' 109 _ _ _ _ elemToks,run_slice_l w' 109 _ _ cap elemToks .i64 1 (by omega) (by omega),hz]
  simp only [Result.andThen_ok,sliced]
  rfl
 ·refine ⟨_,cap-1,by rw [hl];rfl,by omega,fun hp=>?_⟩
  obtain ⟨pb,po,e,hF,hb,hr⟩:=h3 (by omega);refine ⟨pb,po+3,by rw [e,if_neg (by omega),Option.map_some,Addr.add_mid],hF,hb,fun j u hj=>?_⟩
  have:=hr (3+j) u (by rw [tksC_cons,List.getElem?_append_right (by show 3≤_;omega)];rw [show (tkC x).length=3 from rfl,Nat.add_sub_cancel_left];exact hj)
  rwa [← Nat.add_assoc] at this
def PAt (K:Nat→Nat) (q:Nat) (w:World) (l:List (List UInt8)):Prop:=
 ∃ v ts,Blk w q 118 [v]∧TkLt q w v (ts++[⟨0,[],K 0⟩])∧ts.map (·.t)=l∧(∀ (i:Nat) (x:Tk),ts[i]?=some x→x.p=K (ts.length-i))∧(∀ s∈l,s≠[]∧s.length≤100000)∧l.length≤65540
theorem PAt.lt {K:Nat→Nat} {q:Nat} {w:World} {l:List (List UInt8)} (h:PAt K q w l):q<w.heap.size:=by
 obtain ⟨v,ts,h1,-⟩:=h;exact h1.lt
theorem PAt.keep {K:Nat→Nat} {q:Nat} {w w':World} {l:List (List UInt8)} (h:PAt K q w l) (hk:∀ k,k≤q→w'.heap[k]?=w.heap[k]?) (hs:w.heap.size≤w'.heap.size):PAt K q w' l:=by
 obtain ⟨v,ts,h1,h2,h3⟩:=h;refine ⟨v,ts,?_,h2.keep (fun k hk1 _=>hk k (Nat.le_of_lt hk1)) hs,h3⟩
 unfold Blk at h1 ⊢;rw [hk q (Nat.le_refl _)];exact h1
theorem PAt.below {K:Nat→Nat} {q B:Nat} {w w':World} {l:List (List UInt8)} (h:PAt K q w l) (hb:Below B w w') (hB:q<B):PAt K q w' l:=h.keep (fun k hk=>hb.block k (by omega)) hb.size
theorem PAt.upd {K:Nat→Nat} {q b:Nat} {w w':World} {l:List (List UInt8)} (h:PAt K q w l) (hu:Upd b w w') (hb:q<b):PAt K q w' l:=h.keep (fun k hk=>hu.block k (Nat.lt_of_le_of_lt hk h.lt) (by omega)) hu.size
theorem PAt.len {K:Nat→Nat} {q:Nat} {w:World} {l:List (List UInt8)} (h:PAt K q w l):l.length≤65540:=by
 obtain ⟨v,ts,h1,h2,h3,h4,h5,h6⟩:=h;exact h6
theorem PAt.txt {K:Nat→Nat} {q:Nat} {w:World} {l:List (List UInt8)} (h:PAt K q w l):∀ s∈l,s≠[]∧s.length≤100000:=by
 obtain ⟨v,ts,h1,h2,h3,h4,h5,h6⟩:=h;exact h5
theorem PAt.nx_len {K:Nat→Nat} {q:Nat} {w:World} {l:List (List UInt8)} (h:PAt K q w l):(nx l).length≤100000:=by
 cases l with
 |nil=>exact Nat.zero_le _
 |cons s l=>exact (h.txt s (by simp)).2
theorem PAt.nx_ne {K:Nat→Nat} {q:Nat} {w:World} {l:List (List UInt8)} (h:PAt K q w l) (hn:nx l≠[]):∃ s r,l=s::r:=by
 cases l with
 |nil=>exact absurd rfl hn
 |cons s l=>exact ⟨s,l,rfl⟩
theorem PAt.end_iff {K:Nat→Nat} {q:Nat} {w:World} {l:List (List UInt8)} (h:PAt K q w l):nx l=[]↔l=[]:=by
 cases l with
 |nil=>simp [nx]
 |cons s l=>simpa [nx] using (h.txt s (by simp)).1
theorem PAt.head {K:Nat→Nat} {q:Nat} {w:World} {l:List (List UInt8)} (h:PAt K q w l):∃ g u c,w.cell? ⟨q,0,none⟩=some (.slice (some ⟨g,u,none⟩) (l.length+1) c)∧w.cell? ⟨g,u+1,none⟩=some (sT (nx l))∧w.cell? ⟨g,u+2,none⟩=some (.int .i64 (K l.length:Int)):=by
 obtain ⟨v,ts,h1,⟨a,cap,rfl,h2,h3⟩,rfl,h5,-⟩:=h;obtain ⟨g,u,rfl,-,-,hr⟩:=h3 (by simp);refine ⟨g,u,cap,by rw [h1.cell (j:=0) rfl];simp,?_,?_⟩
 ·cases ts with
  |nil=>exact hr 1 _ rfl
  |cons x ts=>exact hr 1 _ rfl
 ·cases ts with
  |nil=>exact hr 2 _ rfl
  |cons x ts=>
   have:=h5 0 x rfl;rw [show (List.map (·.t) (x::ts)).length=(x::ts).length-0 by simp,← this];exact hr 2 _ rfl
theorem PAt.next {K:Nat→Nat} {q:Nat} {w:World} {s:List UInt8} {l:List (List UInt8)} (h:PAt K q w (s::l)):∃ v a c k,Blk w q 118 [v]∧(∀ w',(Instr.sliceAt 109 v (some (.int .i64 1)) none none).run Tryz.prog w'=.ok (.slice a c k) w')∧∀ w',Blk w' q 118 [.slice a c k]→Upd q w w'→PAt K q w' l:=by
 obtain ⟨v,ts,h1,h2,h3,h5,h6,h7⟩:=h;cases ts with
 |nil=>cases h3
 |cons x ts=>
  obtain ⟨a,c,k,h8,h9⟩:=tok_tail (x:=x) (ts:=ts++[⟨0,[],K 0⟩]) h2;refine ⟨v,a,c,k,h1,h8,fun w' hb hu=>⟨_,ts,hb,h9.keep (fun k hk hk2=>hu.block k hk2 (by omega)) hu.size,(List.cons.inj h3).2,fun i y hi=>?_,fun s hs=>h6 s (by simp [hs]),by simp at h7;omega⟩⟩
  have:=h5 (i+1) y (by simpa using hi);rw [this]
  congr 1
  simp
def fellP (p c:Int):Ending:=.panicked [{ v:=.iface 113 (.agg #[.int .i64 p,.int .i64 c]),recovered:=false }]
def PP {β:Type} (K:Nat→Nat) (q:Nat) (o:PR β) (R:β→Value→World→World→Prop) (w:World) (e:Ending) (w':World):Prop:=
 Bel [q] w.heap.size w w'∧match o with
 |.err p c=>e=fellP (K p:Int) (c:Int)
 |.ok x l=>∃ v,e=.returned v∧R x v w w'∧PAt K q w' l
theorem PP.no {β:Type} {K:Nat→Nat} {q p c:Nat} {o:PR β} {R:β→Value→World→World→Prop} {w w':World} (h:Bel [q] w.heap.size w w') (ho:.err p c=o):PP K q o R w (fellP (K p:Int) (c:Int)) w':=by
 subst ho;exact ⟨h,rfl⟩
theorem PP.yes {β:Type} {K:Nat→Nat} {q:Nat} {o:PR β} {R:β→Value→World→World→Prop} {w w':World} {x:β} {l:List (List UInt8)} {v:Value} (h:Bel [q] w.heap.size w w') (ho:.ok x l=o) (hR:R x v w w') (hl:PAt K q w' l):PP K q o R w (.returned v) w':=by
 subst ho;exact ⟨h,v,rfl,hR,hl⟩
def RUnit (_:Unit) (v:Value) (_ _:World):Prop:=v=.tuple #[]
def RNat (n:Nat) (v:Value) (_ _:World):Prop:=v=.int .i64 (n:Int)
def RTxt (s:List UInt8) (v:Value) (_ _:World):Prop:=v=sT s
section
variable {P:Program} {ops:Array Oper} {Q:Exit→Act→World→Prop} {a:Act} {w:World}
theorem lin_panic (i:Nat) (v:Value) (hi:(ops[i]?.isSome&&Region.wanted (opAt ops i) (yielded ops a.tmps))=true) (hrun:(execOp a.eval (opAt ops i)).run P w=.halt (.panic v) w) (h:Q (.panic [{ v:=v,recovered:=false }]) a w):wpFrom P ops Q i a w:=by
 simp only [Bool.and_eq_true] at hi;obtain ⟨h1,h2⟩:=hi;refine ⟨?_⟩;rw [drop_opAt h1];refine wpList_step fun K hK=>?_;rw [if_pos h2];unfold Oper.wp;rw [hrun];exact h
end
theorem sizeRest:(Tryz.prog.info? 109).map (·.size)=some 1:=by kernel_rfl
theorem text_walk (K:Nat→Nat) (q:Nat) (w:World) (l:List (List UInt8)) (h:PAt K q w l):Calls Tryz.prog 57 #[.pointer (some ⟨q,0,none⟩)] w fun e w'=>e=.returned (sT (nx l))∧w'=w:=by
 obtain ⟨g,u,c,h0,hx,hp⟩:=h.head;have H0:=hZ h0;have HX:=hZ hx;have HP:=hZ hp;clear h0 hx hp h;obtain ⟨L,hL⟩:∃ L,Hid (l.length+1=L):=⟨_,rfl⟩;rw [hL.out] at H0;have hL0:0<L:=by have:=hL.out;omega
 go_enter Tryz.func57,Tryz.ntmps57
 go_upto_region 0 with (fail);refine lbeg (opsOf Tryz.f57 0) ?_;refine lnow 0 (sT []) (some 2) ?_;refine ldq 1 ?_;go_upto_region 1 with (fail);refine lbeg (opsOf Tryz.f57 1) ?_;refine lnow 0 (.pointer (some ⟨q,0,none⟩)) (some 3) ?_;refine lnow 1 (.pointer (some ⟨q,0,none⟩)) (some 4) ?_;refine lnow 2 (.pointer (some ⟨q,0,none⟩)) (some 5) ?_;refine lcl 3 (.slice (some ⟨g,u,none⟩) L c) (some 6) 109 5 q 0 H0.out Tryz.underlying109 ?_;refine lnowP 4 (.pointer (some ⟨g,u+0*3,none⟩)) (some 7) (exec_indexAt 109 (.tmp 6) (.const (.int .i64 0)) (by kernel_rfl) _ _ _ (by kernel_rfl) (by kernel_rfl) (run_at_tok g u L c 0 hL0 _)) ?_;refine lnow 5 (.pointer (some ⟨g,u+1,none⟩)) (some 8) ?_;refine lcl 6 (sT (nx l)) (some 9) 9 8 g (u+1) HX.out Tryz.underlying9 ?_;refine lnow 7 (sT (nx l)) (some 2) ?_;refine ldq 8 ?_;go_wp2;go_ret;exact ⟨rfl,rfl⟩
theorem at_walk (K:Nat→Nat) (q:Nat) (w:World) (l:List (List UInt8)) (h:PAt K q w l):Calls Tryz.prog 55 #[.pointer (some ⟨q,0,none⟩)] w fun e w'=>e=.returned (.int .i64 (K l.length:Int))∧w'=w:=by
 obtain ⟨g,u,c,h0,hx,hp⟩:=h.head;have H0:=hZ h0;have HX:=hZ hx;have HP:=hZ hp;clear h0 hx hp h;obtain ⟨L,hL⟩:∃ L,Hid (l.length+1=L):=⟨_,rfl⟩;rw [hL.out] at H0;have hL0:0<L:=by have:=hL.out;omega
 go_enter Tryz.func55,Tryz.ntmps55
 go_upto_region 0 with (fail);refine lbeg (opsOf Tryz.f55 0) ?_;refine lnow 0 (.int .i64 0) (some 2) ?_;refine ldq 1 ?_;go_upto_region 1 with (fail);refine lbeg (opsOf Tryz.f55 1) ?_;refine lnow 0 (.pointer (some ⟨q,0,none⟩)) (some 3) ?_;refine lnow 1 (.pointer (some ⟨q,0,none⟩)) (some 4) ?_;refine lnow 2 (.pointer (some ⟨q,0,none⟩)) (some 5) ?_;refine lcl 3 (.slice (some ⟨g,u,none⟩) L c) (some 6) 109 5 q 0 H0.out Tryz.underlying109 ?_;refine lnowP 4 (.pointer (some ⟨g,u+0*3,none⟩)) (some 7) (exec_indexAt 109 (.tmp 6) (.const (.int .i64 0)) (by kernel_rfl) _ _ _ (by kernel_rfl) (by kernel_rfl) (run_at_tok g u L c 0 hL0 _)) ?_;refine lnow 5 (.pointer (some ⟨g,u+2,none⟩)) (some 8) ?_;refine lcl 6 (.int .i64 (K l.length:Int)) (some 9) 3 8 g (u+2) HP.out Tryz.underlying3 ?_;refine lnow 7 (.int .i64 (K l.length:Int)) (some 2) ?_;refine ldq 8 ?_;go_wp2;go_ret;exact ⟨rfl,rfl⟩
theorem take_walk (K:Nat→Nat) (q:Nat) (w:World) (s:List UInt8) (l:List (List UInt8)) (h:PAt K q w (s::l)):Calls Tryz.prog 97 #[.pointer (some ⟨q,0,none⟩)] w fun e w'=>e=.returned (sT s)∧PAt K q w' l∧Upd q w w':=by
 have H:=hZ h;have TXT:=text_walk K q w _ h;obtain ⟨v,a,c,k,hb,hsl,hn⟩:=h.next;have HB:=hZ hb;have HN:=hZ hn;clear h hb hn
 go_enter Tryz.func97,Tryz.ntmps97
 go_upto_region 0 with (fail);refine lbeg (opsOf Tryz.f97 0) ?_;refine lnow 0 (sT []) (some 2) ?_;refine ldq 1 ?_;go_upto_region 1 with (fail);refine lbeg (opsOf Tryz.f97 1) ?_;refine lnow 0 (.pointer (some ⟨q,0,none⟩)) (some 4) ?_;refine lcal 1 57 #[.pointer (some ⟨q,0,none⟩)] (some 5) _ (TXT) ?_;rintro e w' ⟨rfl,hw'⟩;obtain rfl:=hw'.symm;refine ⟨_,rfl,?_⟩;rw [nx_cons];refine lnow 2 (sT s) (some 3) ?_;refine ldq 3 ?_;go_upto_region 2 with (fail);refine lbeg (opsOf Tryz.f97 2) ?_;refine lnow 0 (.pointer (some ⟨q,0,none⟩)) (some 6) ?_;refine lnow 1 (.pointer (some ⟨q,0,none⟩)) (some 7) ?_;refine lnow 2 (.pointer (some ⟨q,0,none⟩)) (some 8) ?_;refine lnow 3 (.pointer (some ⟨q,0,none⟩)) (some 9) ?_;refine lcl 4 (v) (some 10) 109 9 q 0 (HB.out.cell rfl) Tryz.underlying109 ?_;refine lnowP 5 (.slice a c k) (some 11) (exec_of (Instr.sliceAt 109 v (some (.int .i64 1)) none none) _ (by kernel_rfl) (hsl _)) ?_;refine lnow 6 (.pointer (some ⟨q,0,none⟩)) (some 12) ?_;refine lnow 7 (.pointer (some ⟨q,0,none⟩)) (some 13) ?_;refine lin_putF 8 0 109 (.tmp 13) (.tmp 11) q 118 [v] (.slice a c k) (by kernel_rfl) (by kernel_rfl) (by kernel_rfl) (by kernel_rfl) (by kernel_rfl) HB.out (by simp) sizeRest rfl rfl ?_;intro w3 b3 u3;refine ldq 9 ?_;have POST:Hid (PAt K q w3 l∧Upd q w w3):=⟨HN.out w3 b3 u3,u3⟩;clear b3 u3 HB HN H hsl TXT;go_upto_region 3 with (fail);refine lbeg (opsOf Tryz.f97 3) ?_;refine lnow 0 (sT s) (some 14) ?_;refine lnow 1 (sT s) (some 2) ?_
 refine ldq 2 ?_;go_wp2;go_ret;exact ⟨rfl,POST.out⟩
theorem ended_walk (K:Nat→Nat) (q:Nat) (w:World) (l:List (List UInt8)) (h:PAt K q w l):Calls Tryz.prog 31 #[.pointer (some ⟨q,0,none⟩)] w fun e w'=>e=.returned (.bool (decide (l=[])))∧w'=w:=by
 have EI:=h.end_iff
 go_enter Tryz.func31,Tryz.ntmps31
 go_upto_region 0 with (fail);refine lbeg (opsOf Tryz.f31 0) ?_;refine lnow 0 (.bool false) (some 2) ?_;refine ldq 1 ?_;go_upto_region 1 with (fail);refine lbeg (opsOf Tryz.f31 1) ?_;refine lnow 0 (.pointer (some ⟨q,0,none⟩)) (some 3) ?_;refine lcal 1 57 #[.pointer (some ⟨q,0,none⟩)] (some 4) _ (text_walk K q w l h) ?_;rintro e w' ⟨rfl,hw'⟩;obtain rfl:=hw'.symm;refine ⟨_,rfl,?_⟩;refine lnowP 2 (.bool (decide (nx l=[]))) (some 5) (exec_sEq 9 9 (.tmp 4) (.const (.string ⟨#[]⟩)) (by kernel_rfl) (nx l) [] (by kernel_rfl) (by kernel_rfl) (fun _=>rfl)) ?_;rw [show decide (nx l=[])=decide (l=[]) from decide_eq_decide.2 EI];refine lnow 3 (.bool (decide (l=[]))) (some 2) ?_;refine ldq 4 ?_;go_wp2;go_ret;exact ⟨rfl,rfl⟩
theorem need_yesP (q:Nat) (w:World):Calls Tryz.prog 30 #[.pointer (some ⟨q,0,none⟩),.bool true] w fun e w'=>e=.returned (.tuple #[])∧w'=w:=by
 go_enter Tryz.func30,Tryz.ntmps30
 go_wp2
 go_end0
 exact ⟨rfl,rfl⟩
theorem need_noP (K:Nat→Nat) (q:Nat) (w:World) (l:List (List UInt8)) (h:PAt K q w l):Calls Tryz.prog 30 #[.pointer (some ⟨q,0,none⟩),.bool false] w fun e w'=>e=fellP (K l.length:Int) 10∧w'=w:=by
 go_enter Tryz.func30,Tryz.ntmps30
 go_upto_region 0 with (fail);refine lbeg (opsOf Tryz.f30 0) ?_;refine lnow 0 (.bool false) (some 4) ?_;refine lnow 1 (.bool true) (some 5) ?_;refine ldq 2 ?_;go_upto_region 1 with (fail);refine lbeg (opsOf Tryz.f30 1) ?_;refine lnow 0 (.pointer (some ⟨q,0,none⟩)) (some 6) ?_;refine lcal 1 55 #[.pointer (some ⟨q,0,none⟩)] (some 7) _ (at_walk K q w l h) ?_;rintro e w' ⟨rfl,hw'⟩;obtain rfl:=hw'.symm;refine ⟨_,rfl,?_⟩;refine lnow 2 (.agg #[.int .i64 (K l.length:Int),.int .i64 10]) (some 8) ?_;refine lnow 3 (.iface 113 (.agg #[.int .i64 (K l.length:Int),.int .i64 10])) (some 9) ?_;refine lin_panic 4 (.iface 113 (.agg #[.int .i64 (K l.length:Int),.int .i64 10])) (by kernel_rfl) (by kernel_rfl) ?_;exact ⟨rfl,rfl,rfl⟩
end Go.Proofs.YtmceocgddaaohaaGreatDoor
namespace Go.Proofs.YtmceocgddaaohaaGreatDoor
open Go Go.RowKit
set_option maxRecDepth 100000
def NmsAt (w:World) (v:Value) (l:List (List UInt8)):Prop:=∃ a c,v=.slice a l.length c∧(0<l.length→∃ b o,a=some ⟨b,o,none⟩∧b<w.heap.size∧w.rangeAt b o (l.map strT))
theorem NmsAt.slice {w:World} {v:Value} {l:List (List UInt8)} (h:NmsAt w v l):∃ a c,v=.slice a l.length c:=by obtain ⟨a,c,h1,-⟩:=h;exact ⟨a,c,h1⟩
theorem NmsAt.get {w:World} {a:Option Addr} {n c:Nat} {l:List (List UInt8)} (h:NmsAt w (.slice a n c) l) (hn:l.length=n) {i:Nat} (hi:i<n):∃ x b o,l[i]?=some x∧a=some ⟨b,o,none⟩∧b<w.heap.size∧w.cell? ⟨b,o+i,none⟩=some (strT x):=by
 obtain ⟨a',c',h1,h2⟩:=h;cases h1
 obtain ⟨b,o,h3,h4,h5⟩:=h2 (by omega);obtain ⟨x,hx⟩:∃ x,l[i]?=some x:=⟨_,List.getElem?_eq_getElem (by omega)⟩;exact ⟨x,b,o,hx,h3,h4,StrsAt.cell h5 hx⟩
theorem NmsAt.of {w:World} {b o c:Nat} {l:List (List UInt8)} (hb:b<w.heap.size) (h:w.rangeAt b o (l.map strT)):NmsAt w (.slice (some ⟨b,o,none⟩) l.length c) l:=⟨_,_,rfl,fun _=>⟨b,o,rfl,hb,h⟩⟩
def idxFrom (s:List UInt8) (i:Nat):List (List UInt8)→Int
 |[]=>-1
 |x::xs=>if s=x then (i:Int) else idxFrom s (i+1) xs
theorem idx_none {s:List UInt8}:∀ (l:List (List UInt8)) (j:Nat),s∉l→idxFrom s j l=-1
 |[],_,_=>rfl
 |x::l,j,hn=>by
  rw [List.mem_cons,not_or] at hn;rw [idxFrom,if_neg hn.1,idx_none l (j+1) hn.2]
set_option maxHeartbeats 4000000 in
theorem index_walk (l:List (List UInt8)) (s:List UInt8) (v:Value) (w:World) (h:NmsAt w v l) (hl:l.length≤2000000000000):Calls Tryz.prog 160 #[v,strT s] w fun e w'=>e=.returned (.int .i64 (idxFrom s 0 l))∧w'=w:=by
 obtain ⟨na,nc,rfl⟩:=h.slice;obtain ⟨M,hM⟩:∃ M,Hid (l.length=M):=⟨_,rfl⟩;rw [hM.out] at h hl ⊢;have HN:=hZ h;clear h
 go_enter Tryz.func160,Tryz.ntmps160
 go_upto_region 0 with (fail);refine lbeg (opsOf Tryz.f160 0) ?_;refine lnow 0 (.int .i64 0) (some 4) ?_;refine ldq 1 ?_;go_upto_region 1 with (fail);refine lbeg (opsOf Tryz.f160 1) ?_;refine lnow 0 (.slice na M nc) (some 6) ?_;refine lnow 1 (.int .i64 (M:Int)) (some 7) ?_;refine lnow 2 (.int .i64 0) (some 8) ?_;refine ldq 3 ?_;go_wp2
 go_loop [8] (fun iv=>∃ i:Nat,i≤M∧iv=.int .i64 (i:Int)∧Hid (idxFrom s 0 l=idxFrom s i (l.drop i))) (fun iv=>M-(intOf iv).toNat)
 case atStart=>exact ⟨0,Nat.zero_le _,rfl,by rw [Hid];rfl⟩
 case round=>
  obtain ⟨i,hi,rfl,HI⟩:=hrel;by_cases hlt:i<M
  rotate_left
  ·skip
   have rlt:¬ (i:Int)<(M:Int):=(by omega);have FIN:Hid (idxFrom s 0 l=-1):=(by have h:=HI.out;rw [List.drop_eq_nil_of_le (by have:=hM.out;omega)] at h;exact h);go_upto_region 7 with (fail);refine lbeg (opsOf Tryz.f160 7) ?_;refine lnow 0 (.int .i64 (-1)) (some 4) ?_;refine ldq 1 ?_;go_wp2;go_ret;exact ⟨by rw [FIN.out];rfl,rfl⟩
  have rlt:(i:Int)<(M:Int):=(by omega);obtain ⟨x,pb,po,hx,rfl,-,hc⟩:=HN.out.get hM.out hlt;have DR:l.drop i=x::l.drop (i+1):=(by rw [List.drop_eq_getElem?_toList_append,hx];rfl);have HI2:=HI.out;rw [DR,idxFrom] at HI2;have HC:=hZ hc;clear hc HI DR;go_upto_region 3 with (fail);refine lbeg (opsOf Tryz.f160 3) ?_;refine lnow 0 (.int .i64 (i:Int)) (some 10) ?_;refine lnow 1 (.int .i64 (i:Int)) (some 5) ?_;refine ldq 2 ?_;go_upto_region 4 with (fail);refine lbeg (opsOf Tryz.f160 4) ?_;refine lnow 0 (strT s) (some 11) ?_;refine lnow 1 (.slice (some ⟨pb,po,none⟩) M nc) (some 12) ?_;refine lnow 2 (.int .i64 (i:Int)) (some 13) ?_;refine lix 3 (.pointer (some ⟨pb,po+i,none⟩)) (some 14) 62 12 13 (run_at_str pb po M nc i hlt _) ?_;refine lcl 4 (strT x) (some 15) 9 14 pb (po+i) HC.out Tryz.underlying9 ?_;refine lnowP 5 (.bool (decide (s=x))) (some 16) (exec_streqT 9 9 (.tmp 11) (.tmp 15) (by kernel_rfl) s x (by kernel_rfl) (by kernel_rfl) (fun _=>rfl)) ?_;by_cases he:s=x
  ·skip
   rw [show decide (s=x)=true from decide_eq_true he];rw [if_pos he] at HI2;have HI3:=hZ HI2;clear HI2 he;refine ldq 6 ?_;go_upto_region 5 with (fail);refine lbeg (opsOf Tryz.f160 5) ?_;refine lnow 0 (.int .i64 (i:Int)) (some 17) ?_;refine lnow 1 (.int .i64 (i:Int)) (some 4) ?_;refine ldq 2 ?_;go_wp2;go_ret;exact ⟨by rw [HI3.out];rfl,rfl⟩
  rw [show decide (s=x)=false from decide_eq_false he];rw [if_neg he] at HI2;have HI3:=hZ HI2;clear HI2 he;refine ldq 6 ?_;have bl:=hl;go_wp2
  go_round
  case rel=>exact ⟨i+1,by omega,by go_num,HI3⟩
  case measure=>simp [intOf];omega
set_option maxHeartbeats 4000000 in
theorem contains_walk (l:List (List UInt8)) (s:List UInt8) (v:Value) (w:World) (h:NmsAt w v l) (hl:l.length≤2000000000000):Calls Tryz.prog 143 #[v,strT s] w fun e w'=>e=.returned (.bool (decide (idxFrom s 0 l≥0)))∧w'=w:=by
 have IW:=index_walk l s v w h hl;obtain ⟨z,hz⟩:∃ z,Hid (idxFrom s 0 l=z):=⟨_,rfl⟩;rw [hz.out] at IW ⊢
 go_enter Tryz.func143,Tryz.ntmps143
 go_upto_region 0 with (fail);refine lbeg (opsOf Tryz.f143 0) ?_;refine lnow 0 (.bool false) (some 4) ?_;refine ldq 1 ?_;go_upto_region 1 with (fail);refine lbeg (opsOf Tryz.f143 1) ?_;refine lnow 0 (v) (some 5) ?_;refine lnow 1 (strT s) (some 6) ?_;refine lcal 2 160 #[v,strT s] (some 7) _ (IW) ?_;rintro e w' ⟨rfl,hw'⟩;obtain rfl:=hw'.symm;refine ⟨_,rfl,?_⟩;refine lnow 3 (.bool (decide (z≥0))) (some 8) ?_;refine lnow 4 (.bool (decide (z≥0))) (some 4) ?_;refine ldq 5 ?_;go_wp2;go_ret;exact ⟨rfl,rfl⟩
theorem wordB_nil:wordB []=false:=by decide
theorem numO_nil:numO []=none:=rfl
theorem accept_yes (K:Nat→Nat) (q:Nat) (w:World) (l:List (List UInt8)) (h:PAt K q w l) (s:List UInt8) (hs:nx l=s) (h0:s≠[]):Calls Tryz.prog 86 #[.pointer (some ⟨q,0,none⟩),sT s] w fun e w'=>e=.returned (.bool true)∧Bel [q] w.heap.size w w'∧PAt K q w' l.tail:=by
 obtain ⟨s',r,rfl⟩:=h.nx_ne (by rw [hs];exact h0);obtain rfl:s'=s:=hs;have H:=hZ h;clear h
 go_enter Tryz.func86,Tryz.ntmps86
 go_upto_region 0 with (fail);refine lbeg (opsOf Tryz.f86 0) ?_;refine lnow 0 (.bool false) (some 4) ?_;refine ldq 1 ?_;go_upto_region 1 with (fail);refine lbeg (opsOf Tryz.f86 1) ?_;refine lnow 0 (.pointer (some ⟨q,0,none⟩)) (some 5) ?_;refine lcal 1 57 #[.pointer (some ⟨q,0,none⟩)] (some 6) _ (text_walk K q w (s'::r) H.out) ?_;rintro e w' ⟨rfl,hw'⟩;obtain rfl:=hw'.symm;refine ⟨_,rfl,?_⟩;rw [nx_cons];refine lnow 2 (sT s') (some 7) ?_;refine lnowP 3 (.bool (!decide (s'=s'))) (some 8) (exec_sNe 9 9 (.tmp 6) (.tmp 7) (by kernel_rfl) (s') s' (by kernel_rfl) (by kernel_rfl) (fun _=>rfl)) ?_;rw [decide_eq_true rfl,show (!true)=false from rfl];refine ldq 4 ?_;go_upto_region 3 with (fail);refine lbeg (opsOf Tryz.f86 3) ?_;refine lnow 0 (.pointer (some ⟨q,0,none⟩)) (some 9) ?_;refine lcal 1 97 #[.pointer (some ⟨q,0,none⟩)] (some 10) _ (take_walk K q w s' r H.out) ?_;rintro e w1 ⟨rfl,hp,hu⟩;refine ⟨_,rfl,?_⟩;have POST:Hid (Bel [q] w.heap.size w w1∧PAt K q w1 r):=⟨(Bel.refl _ _ _).upd hu (.inl (by simp)) (Nat.le_refl _),hp⟩;clear hp hu;refine ldq 2 ?_;go_upto_region 4 with (fail);refine lbeg (opsOf Tryz.f86 4) ?_;refine lnow 0 (.bool true) (some 4) ?_;refine ldq 1 ?_;go_wp2;go_ret;exact ⟨rfl,POST.out.1,POST.out.2⟩
theorem accept_no (K:Nat→Nat) (q:Nat) (w:World) (l:List (List UInt8)) (h:PAt K q w l) (s:List UInt8) (hs:¬ nx l=s):Calls Tryz.prog 86 #[.pointer (some ⟨q,0,none⟩),sT s] w fun e w'=>e=.returned (.bool false)∧w'=w:=by
 have H:=hZ h;clear h
 go_enter Tryz.func86,Tryz.ntmps86
 go_upto_region 0 with (fail);refine lbeg (opsOf Tryz.f86 0) ?_;refine lnow 0 (.bool false) (some 4) ?_;refine ldq 1 ?_;go_upto_region 1 with (fail);refine lbeg (opsOf Tryz.f86 1) ?_;refine lnow 0 (.pointer (some ⟨q,0,none⟩)) (some 5) ?_;refine lcal 1 57 #[.pointer (some ⟨q,0,none⟩)] (some 6) _ (text_walk K q w l H.out) ?_;rintro e w' ⟨rfl,hw'⟩;obtain rfl:=hw'.symm;refine ⟨_,rfl,?_⟩;refine lnow 2 (sT s) (some 7) ?_;refine lnowP 3 (.bool (!decide (nx l=s))) (some 8) (exec_sNe 9 9 (.tmp 6) (.tmp 7) (by kernel_rfl) (nx l) s (by kernel_rfl) (by kernel_rfl) (fun _=>rfl)) ?_;rw [decide_eq_false hs,show (!false)=true from rfl];refine ldq 4 ?_;go_upto_region 2 with (fail);refine lbeg (opsOf Tryz.f86 2) ?_;refine lnow 0 (.bool false) (some 4) ?_;refine ldq 1 ?_;go_wp2;go_ret;exact ⟨rfl,rfl⟩
theorem expect_walk (K:Nat→Nat) (q:Nat) (w:World) (l:List (List UInt8)) (h:PAt K q w l) (s:List UInt8) (h0:s≠[]):Calls Tryz.prog 100 #[.pointer (some ⟨q,0,none⟩),sT s] w (PP K q (exP s l) RUnit w):=by
 have H:=hZ h;clear h
 go_enter Tryz.func100,Tryz.ntmps100
 go_upto_region 0 with (fail);refine lbeg (opsOf Tryz.f100 0) ?_;refine lnow 0 (.pointer (some ⟨q,0,none⟩)) (some 4) ?_;refine lnow 1 (.pointer (some ⟨q,0,none⟩)) (some 5) ?_;refine lnow 2 (sT s) (some 6) ?_;by_cases hs:nx l=s
 ·skip
  refine lcal 3 86 #[.pointer (some ⟨q,0,none⟩),sT s] (some 7) _ (accept_yes K q w l H.out s hs h0) ?_;rintro e w1 ⟨rfl,hb,hp⟩;refine ⟨_,rfl,?_⟩;refine lcal 4 30 #[.pointer (some ⟨q,0,none⟩),.bool true] (some 8) _ (need_yesP q w1) ?_;rintro e w' ⟨rfl,hw'⟩;obtain rfl:=hw'.symm;refine ⟨_,rfl,?_⟩;have POST:Hid (PP K q (exP s l) RUnit w (.returned (.tuple #[])) w1):=PP.yes hb (by rw [exP,if_pos hs]) rfl hp;clear hb hp;refine ldq 5 ?_;go_wp2
  go_end0
  exact POST.out
 refine lcal 3 86 #[.pointer (some ⟨q,0,none⟩),sT s] (some 7) _ (accept_no K q w l H.out s hs) ?_;rintro e w' ⟨rfl,hw'⟩;obtain rfl:=hw'.symm;refine ⟨_,rfl,?_⟩;refine lin_callP 4 30 #[.pointer (some ⟨q,0,none⟩),.bool false] (some 8) _ (by kernel_rfl) (by kernel_rfl) (by kernel_rfl) (need_noP K q w l H.out) ?_;rintro e w' ⟨rfl,hw'⟩;obtain rfl:=hw'.symm;exact .inr ⟨_,rfl,rfl,PP.no (Bel.refl _ _ _) (by rw [exP,if_neg hs])⟩
set_option maxHeartbeats 4000000 in
theorem name_walk (K:Nat→Nat) (q:Nat) (w:World) (l:List (List UInt8)) (h:PAt K q w l):Calls Tryz.prog 98 #[.pointer (some ⟨q,0,none⟩)] w (PP K q (namP l) RTxt w):=by
 have H:=hZ h;have NL:=h.nx_len;clear h
 go_enter Tryz.func98,Tryz.ntmps98
 go_upto_region 0 with (fail);refine lbeg (opsOf Tryz.f98 0) ?_;refine lnow 0 (sT []) (some 2) ?_;refine ldq 1 ?_;go_upto_region 1 with (fail);refine lbeg (opsOf Tryz.f98 1) ?_;refine lnow 0 (.pointer (some ⟨q,0,none⟩)) (some 3) ?_;refine lnow 1 (.pointer (some ⟨q,0,none⟩)) (some 4) ?_;refine lcal 2 57 #[.pointer (some ⟨q,0,none⟩)] (some 5) _ (text_walk K q w l H.out) ?_;rintro e w' ⟨rfl,hw'⟩;obtain rfl:=hw'.symm;refine ⟨_,rfl,?_⟩;refine lcal 3 58 #[sT (nx l)] (some 6) _ (word_walk (nx l) (by omega) w) ?_;rintro e w' ⟨rfl,hw'⟩;obtain rfl:=hw'.symm;refine ⟨_,rfl,?_⟩;by_cases hw:wordB (nx l)=true
 rotate_left
 ·skip
  rw [show wordB (nx l)=false from Bool.eq_false_iff.2 hw];refine lin_callP 4 30 #[.pointer (some ⟨q,0,none⟩),.bool false] (some 7) _ (by kernel_rfl) (by kernel_rfl) (by kernel_rfl) (need_noP K q w l H.out) ?_;rintro e w' ⟨rfl,hw'⟩;obtain rfl:=hw'.symm;exact .inr ⟨_,rfl,rfl,PP.no (Bel.refl _ _ _) (by rw [namP,if_neg hw])⟩
 rw [hw];refine lcal 4 30 #[.pointer (some ⟨q,0,none⟩),.bool true] (some 7) _ (need_yesP q w) ?_;rintro e w' ⟨rfl,hw'⟩;obtain rfl:=hw'.symm;refine ⟨_,rfl,?_⟩;refine ldq 5 ?_;obtain ⟨s,r,rfl⟩:=H.out.nx_ne (fun h0=>by rw [h0,wordB_nil] at hw;cases hw)
 rw [nx_cons] at hw;go_upto_region 2 with (fail);refine lbeg (opsOf Tryz.f98 2) ?_;refine lnow 0 (.pointer (some ⟨q,0,none⟩)) (some 8) ?_;refine lcal 1 97 #[.pointer (some ⟨q,0,none⟩)] (some 9) _ (take_walk K q w s r H.out) ?_;rintro e w1 ⟨rfl,hp,hu⟩;refine ⟨_,rfl,?_⟩;have POST:Hid (PP K q (namP (s::r)) RTxt w (.returned (sT s)) w1):=PP.yes ((Bel.refl _ _ _).upd hu (.inl (by simp)) (Nat.le_refl _)) (by rw [namP,nx_cons,if_pos hw];rfl) rfl hp;clear hp hu;refine lnow 2 (sT s) (some 2) ?_;refine ldq 3 ?_;go_wp2;go_ret;exact POST.out
set_option maxHeartbeats 4000000 in
theorem number_walk (K:Nat→Nat) (q:Nat) (w:World) (l:List (List UInt8)) (h:PAt K q w l):Calls Tryz.prog 120 #[.pointer (some ⟨q,0,none⟩)] w (PP K q (numQ l) RNat w):=by
 have H:=hZ h;clear h
 go_enter Tryz.func120,Tryz.ntmps120
 go_upto_region 0 with (fail);refine lbeg (opsOf Tryz.f120 0) ?_;refine lnow 0 (.int .i64 0) (some 2) ?_;refine ldq 1 ?_;go_upto_region 1 with (fail);refine lbeg (opsOf Tryz.f120 1) ?_;refine lnow 0 (.pointer (some ⟨q,0,none⟩)) (some 6) ?_;refine lcal 1 57 #[.pointer (some ⟨q,0,none⟩)] (some 7) _ (text_walk K q w l H.out) ?_;rintro e w' ⟨rfl,hw'⟩;obtain rfl:=hw'.symm;refine ⟨_,rfl,?_⟩;refine lcal 2 119 #[sT (nx l)] (some 8) _ (xnumber_walk (nx l) w) ?_;rintro e w' ⟨rfl,hw'⟩;obtain rfl:=hw'.symm;refine ⟨_,rfl,?_⟩;obtain ⟨oo,hoo⟩:∃ oo,Hid (numO (nx l)=oo):=⟨_,rfl⟩;rw [hoo.out];refine lnow 3 (.tuple #[.int .i64 ((oo.getD 0:Nat):Int),.bool oo.isSome]) (some 5) ?_;refine lnow 4 (.int .i64 ((oo.getD 0:Nat):Int)) (some 9) ?_;refine lnow 5 (.bool oo.isSome) (some 10) ?_;refine lnow 6 (.int .i64 ((oo.getD 0:Nat):Int)) (some 3) ?_;refine lnow 7 (.bool oo.isSome) (some 4) ?_;refine ldq 8 ?_;cases oo with
 |none=>
  go_upto_region 2 with (fail);refine lbeg (opsOf Tryz.f120 2) ?_;refine lnow 0 (.pointer (some ⟨q,0,none⟩)) (some 11) ?_;refine lnow 1 (.bool false) (some 12) ?_;refine lin_callP 2 30 #[.pointer (some ⟨q,0,none⟩),.bool false] (some 13) _ (by kernel_rfl) (by kernel_rfl) (by kernel_rfl) (need_noP K q w l H.out) ?_;rintro e w' ⟨rfl,hw'⟩;obtain rfl:=hw'.symm;exact .inr ⟨_,rfl,rfl,PP.no (Bel.refl _ _ _) (by rw [numQ,hoo.out])⟩
 |some n=>
  go_upto_region 2 with (fail);refine lbeg (opsOf Tryz.f120 2) ?_;refine lnow 0 (.pointer (some ⟨q,0,none⟩)) (some 11) ?_;refine lnow 1 (.bool true) (some 12) ?_;refine lcal 2 30 #[.pointer (some ⟨q,0,none⟩),.bool true] (some 13) _ (need_yesP q w) ?_;rintro e w' ⟨rfl,hw'⟩;obtain rfl:=hw'.symm;refine ⟨_,rfl,?_⟩;refine ldq 3 ?_;obtain ⟨s,r,rfl⟩:=H.out.nx_ne (fun h0=>by have:=hoo.out;rw [h0,numO_nil] at this;cases this)
  go_upto_region 3 with (fail);refine lbeg (opsOf Tryz.f120 3) ?_;refine lnow 0 (.pointer (some ⟨q,0,none⟩)) (some 14) ?_;refine lcal 1 97 #[.pointer (some ⟨q,0,none⟩)] (some 15) _ (take_walk K q w s r H.out) ?_;rintro e w1 ⟨rfl,hp,hu⟩;refine ⟨_,rfl,?_⟩;have POST:Hid (PP K q (numQ (s::r)) RNat w (.returned (.int .i64 (n:Int))) w1):=PP.yes ((Bel.refl _ _ _).upd hu (.inl (by simp)) (Nat.le_refl _)) (by rw [numQ,hoo.out];rfl) rfl hp;clear hp hu;refine ldq 2 ?_;go_upto_region 4 with (fail);refine lbeg (opsOf Tryz.f120 4) ?_;refine lnow 0 (.int .i64 (n:Int)) (some 16) ?_;refine lnow 1 (.int .i64 (n:Int)) (some 2) ?_;refine ldq 2 ?_;go_wp2;go_ret;exact POST.out
set_option maxHeartbeats 4000000 in
theorem numto_walk (K:Nat→Nat) (q:Nat) (w:World) (l:List (List UInt8)) (h:PAt K q w l) (m:Nat):Calls Tryz.prog 99 #[.pointer (some ⟨q,0,none⟩),.int .i64 (m:Int)] w (PP K q (numTo m l) RNat w):=by
 have H:=hZ h;have NW:=number_walk K q w l h;clear h
 go_enter Tryz.func99,Tryz.ntmps99
 go_upto_region 0 with (fail);refine lbeg (opsOf Tryz.f99 0) ?_;refine lnow 0 (.int .i64 0) (some 4) ?_;refine ldq 1 ?_;go_upto_region 1 with (fail);refine lbeg (opsOf Tryz.f99 1) ?_;refine lnow 0 (.pointer (some ⟨q,0,none⟩)) (some 8) ?_;refine lcal 1 57 #[.pointer (some ⟨q,0,none⟩)] (some 9) _ (text_walk K q w l H.out) ?_;rintro e w' ⟨rfl,hw'⟩;obtain rfl:=hw'.symm;refine ⟨_,rfl,?_⟩;refine lcal 2 119 #[sT (nx l)] (some 10) _ (xnumber_walk (nx l) w) ?_;rintro e w' ⟨rfl,hw'⟩;obtain rfl:=hw'.symm;refine ⟨_,rfl,?_⟩;obtain ⟨oo,hoo⟩:∃ oo,Hid (numO (nx l)=oo):=⟨_,rfl⟩;rw [hoo.out];refine lnow 3 (.tuple #[.int .i64 ((oo.getD 0:Nat):Int),.bool oo.isSome]) (some 7) ?_;refine lnow 4 (.int .i64 ((oo.getD 0:Nat):Int)) (some 11) ?_;refine lnow 5 (.bool oo.isSome) (some 12) ?_;refine lnow 6 (.int .i64 ((oo.getD 0:Nat):Int)) (some 5) ?_;refine lnow 7 (.bool oo.isSome) (some 6) ?_;refine ldq 8 ?_;by_cases hm:oo.getD 0≤m
 rotate_left
 ·skip
  obtain ⟨n,rfl⟩:∃ n,oo=some n:=(by cases oo with|none=>exact absurd (Nat.zero_le _) hm|some n=>exact ⟨n,rfl⟩);go_upto_region 2 with (fail);refine lbeg (opsOf Tryz.f99 2) ?_;refine lnow 0 (.pointer (some ⟨q,0,none⟩)) (some 13) ?_;refine lnow 1 (.int .i64 (n:Int)) (some 14) ?_;refine lnow 2 (.int .i64 (m:Int)) (some 15) ?_;refine lnow 3 (.bool (decide ((n:Int)≤(m:Int)))) (some 16) ?_;rw [decide_eq_false (by simp at hm;omega:¬ (n:Int)≤(m:Int))];refine lin_callP 4 30 #[.pointer (some ⟨q,0,none⟩),.bool false] (some 17) _ (by kernel_rfl) (by kernel_rfl) (by kernel_rfl) (need_noP K q w l H.out) ?_;rintro e w' ⟨rfl,hw'⟩;obtain rfl:=hw'.symm;exact .inr ⟨_,rfl,rfl,PP.no (Bel.refl _ _ _) (by rw [numTo,hoo.out];dsimp only;rw [if_neg (by simpa using hm)])⟩
 go_upto_region 2 with (fail);refine lbeg (opsOf Tryz.f99 2) ?_;refine lnow 0 (.pointer (some ⟨q,0,none⟩)) (some 13) ?_;refine lnow 1 (.int .i64 ((oo.getD 0:Nat):Int)) (some 14) ?_;refine lnow 2 (.int .i64 (m:Int)) (some 15) ?_;refine lnow 3 (.bool (decide (((oo.getD 0:Nat):Int)≤(m:Int)))) (some 16) ?_;rw [decide_eq_true (by omega:((oo.getD 0:Nat):Int)≤(m:Int))];refine lcal 4 30 #[.pointer (some ⟨q,0,none⟩),.bool true] (some 17) _ (need_yesP q w) ?_;rintro e w' ⟨rfl,hw'⟩;obtain rfl:=hw'.symm;refine ⟨_,rfl,?_⟩;refine ldq 5 ?_;have EN:Hid (numTo m l=numQ l):=(by rw [Hid,numTo,numQ,hoo.out];cases oo with|none=>rfl|some n=>(dsimp only;rw [if_pos (by simpa using hm)]));obtain ⟨ox,hox⟩:∃ ox,Hid (numQ l=ox):=⟨_,rfl⟩;rw [hox.out] at NW EN;go_upto_region 3 with (fail);refine lbeg (opsOf Tryz.f99 3) ?_;refine lnow 0 (.pointer (some ⟨q,0,none⟩)) (some 18) ?_;cases ox with
 |err p c=>
  refine lin_callP 1 120 #[.pointer (some ⟨q,0,none⟩)] (some 19) _ (by kernel_rfl) (by kernel_rfl) (by kernel_rfl) (NW) ?_;rintro e w' ⟨hb,hr⟩;obtain rfl:e=fellP _ _:=hr;exact .inr ⟨_,rfl,rfl,PP.no hb EN.out.symm⟩
 |ok n r=>
  refine lin_callP 1 120 #[.pointer (some ⟨q,0,none⟩)] (some 19) _ (by kernel_rfl) (by kernel_rfl) (by kernel_rfl) (NW) ?_;rintro e w1 ⟨hb,v,rfl,hv,hr⟩;obtain rfl:v=.int .i64 (n:Int):=hv;refine .inl ⟨_,rfl,?_⟩;have POST:Hid (PP K q (numTo m l) RNat w (.returned (.int .i64 (n:Int))) w1):=PP.yes hb EN.out.symm rfl hr;clear hb hr;refine lnow 2 (.int .i64 (n:Int)) (some 4) ?_;refine ldq 3 ?_;go_wp2;go_ret;exact POST.out
theorem str4 (a b c d:List UInt8) (w:World):(Instr.buildSlice 62 4 #[(0,sT a),(1,sT b),(2,sT c),(3,sT d)]).run Tryz.prog w=.ok (.slice (some ⟨w.heap.size,0,none⟩) 4 4) (w.alloc (.cells [sT a,sT b,sT c,sT d].toArray 9)):=by kernel_rfl
theorem nms4 {w w':World} {q:Nat} {xs:List (List UInt8)} (hb:Blk w' q 9 (xs.map sT)):NmsAt w' (.slice (some ⟨q,0,none⟩) xs.length xs.length) xs:=NmsAt.of hb.lt (fun j u hu=>by rw [Nat.zero_add];exact hb.cell hu)
theorem idx_mem {s:List UInt8}:∀ (l:List (List UInt8)) (j:Nat),s∈l→0≤idxFrom s j l
 |[],_,h=>by cases h
 |x::l,j,h=>by
  rw [idxFrom];by_cases e:s=x
  ·rw [if_pos e];exact Int.natCast_nonneg _
  ·rw [if_neg e];exact idx_mem l (j+1) ((List.mem_cons.1 h).resolve_left e)
theorem idx_ge (s:List UInt8) (l:List (List UInt8)):decide (idxFrom s 0 l≥0)=decide (s∈l):=by
 by_cases h:s∈l
 ·rw [decide_eq_true h,decide_eq_true (idx_mem l 0 h)]
 ·rw [decide_eq_false h,idx_none l 0 h];rfl
theorem lin_str4 {ops : Array Oper} {Q : Exit → Act → World → Prop} {act : Act} {w : World} (i : Nat) (a b c d : List UInt8) (q : Nat) (dd : Option Tmp) (hi : (ops[i]?.isSome && Region.wanted (opAt ops i) (yielded ops act.tmps)) = true) (hd : (opAt ops i).dst = dd)
    (he:execOp act.eval (opAt ops i)=(Instr.buildSlice 62 4 #[(0,sT a),(1,sT b),(2,sT c),(3,sT d)] >>= fun x=>pure (.value x))) (hq:Hid (w.heap.size=q))
    (h:∀ w',NmsAt w' (.slice (some ⟨q,0,none⟩) 4 4) [a,b,c,d]→Below q w w'→wpFrom Tryz.prog ops Q (i+1) (act.put dd (.slice (some ⟨q,0,none⟩) 4 4)) w'):wpFrom Tryz.prog ops Q i act w:=by
 obtain rfl:=hq.out;exact lin_value i _ dd _ hi hd (exec_of _ _ he (str4 a b c d w)) (h _ (nms4 (w:=w) (xs:=[a,b,c,d]) (Blk.new w 9 [sT a,sT b,sT c,sT d])) ((Below.refl _ _).alloc (Nat.le_refl _) _))
set_option maxHeartbeats 4000000 in
theorem begins_walk (s:List UInt8) (hl:s.length≤100000) (w:World):Calls Tryz.prog 114 #[sT s] w fun e w'=>e=.returned (.bool (begA s))∧Below w.heap.size w w':=by
 obtain ⟨q,hq⟩:∃ q,Hid (w.heap.size=q):=⟨_,rfl⟩;rw [hq.out]
 go_enter Tryz.func114,Tryz.ntmps114
 go_upto_region 0 with (fail);refine lbeg (opsOf Tryz.f114 0) ?_;refine lnow 0 (.bool false) (some 2) ?_;refine ldq 1 ?_;go_upto_region 1 with (fail);refine lbeg (opsOf Tryz.f114 1) ?_;refine lin_str4 0 [80,114,111,112] [84,121,112,101] [40] [91] q (some 3) (by kernel_rfl) (by kernel_rfl) (by kernel_rfl) hq ?_;intro w1 hn hb;have BE:=hZ hb;have CW:=contains_walk [[80,114,111,112],[84,121,112,101],[40],[91]] s _ w1 hn (by decide);rw [idx_ge,show ([[80,114,111,112],[84,121,112,101],[40],[91]]:List (List UInt8))=begs from rfl] at CW;clear hb hn;refine lnow 1 (sT s) (some 4) ?_;refine lcal 2 143 #[.slice (some ⟨q,0,none⟩) 4 4,sT s] (some 5) _ (CW) ?_;rintro e w' ⟨rfl,hw'⟩;obtain rfl:=hw'.symm;refine ⟨_,rfl,?_⟩;by_cases hm:s∈begs
 ·skip
  rw [decide_eq_true hm];refine lnow 3 (.bool true) (some 6) ?_;refine lpas 4 (some 7) ?_;refine lpas 5 (some 8) ?_;refine lnow 6 (.bool true) (some 9) ?_;refine lnow 7 (.bool true) (some 2) ?_;refine ldq 8 ?_;go_wp2;go_ret;exact ⟨by rw [begA,decide_eq_true hm];rfl,BE.out⟩
 rw [decide_eq_false hm];refine lnow 3 (.bool false) (some 6) ?_;refine lnow 4 (sT s) (some 7) ?_;refine lcal 5 58 #[sT s] (some 8) _ (word_walk s (by omega) w1) ?_;rintro e w' ⟨rfl,hw'⟩;obtain rfl:=hw'.symm;refine ⟨_,rfl,?_⟩;refine lnow 6 (.bool (wordB s)) (some 9) ?_;refine lnow 7 (.bool (wordB s)) (some 2) ?_;refine ldq 8 ?_;go_wp2;go_ret;exact ⟨by rw [begA,decide_eq_false hm,Bool.false_or];rfl,BE.out⟩
end Go.Proofs.YtmceocgddaaohaaGreatDoor
