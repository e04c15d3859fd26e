import Derived.Test.YtmceocgddaaohaaGreatDoorQTrmC
import Derived.Test.YtmceocgddaaohaaGreatDoorQLevC
import Derived.Test.YtmceocgddaaohaaGreatDoorQTrmK
import Derived.Maps.AppendAt
import Derived.Test.YtmceocgddaaohaaGreatDoorQGenT
namespace Go.Proofs.YtmceocgddaaohaaGreatDoor
open Go Go.RowKit
set_option maxRecDepth 100000
noncomputable def eqT (x y:Tm):Bool:=@decide (x=y) (Classical.propDecidable _)
theorem eqT_yes {x y:Tm} (h:x=y):eqT x y=true:=@decide_eq_true _ (Classical.propDecidable _) h
theorem eqT_no {x y:Tm} (h:x≠y):eqT x y=false:=@decide_eq_false _ (Classical.propDecidable _) h
theorem exec_neqlv {a:Act} {w:World} {op:Oper} (x y:Operand) (yt:TypeId) (ho:op.op=.binOp .neq 80 x y yt) {l m:Lv} (hl:l.p.length=4) (hm:m.p.length=4) (ex:a.eval x=.agg (ints .i64 l.zs).toArray) (ey:a.eval y=.agg (ints .i64 m.zs).toArray):(execOp a.eval op).run Tryz.prog w=.ok (.value (.bool (!decide (l=m)))) w:=by
 unfold execOp;have hg:Tryz.prog.eqGuardType Tryz.prog.depth 80=false:=(by kernel_rfl);simp only [ho,ex,ey,Sem.run_bind,run_neq_struct,run_eqGuard_agg w _ 80 x y _ _ hg,run_eq_lv hl hm,Result.andThen_ok]
 rfl
theorem LvsOff.at {F:List Nat} {w:World} {a:Option Addr} {n c i:Nat} {ls:List Lv} {x:Lv} (h:LvsOff F w (.slice a n c) ls) (hi:ls[i]?=some x):x.p.length=4∧∃ pb po,a=some ⟨pb,po,none⟩∧pb<w.heap.size:=by
 obtain ⟨a2,c2,e,-,-,h4,hp⟩:=h;obtain ⟨rfl,-,rfl⟩:=Value.slice.inj e;have hlt:=(List.getElem?_eq_some_iff.1 hi).1;obtain ⟨pb,po,ea,-,hb,-⟩:=hp (by omega);exact ⟨h4 x (List.mem_of_getElem? hi),pb,po,ea,hb⟩
theorem LvsOff.rng {F:List Nat} {w:World} {pb po n c i:Nat} {ls:List Lv} {x:Lv} (h:LvsOff F w (.slice (some ⟨pb,po,none⟩) n c) ls) (hi:ls[i]?=some x):w.rangeAt pb (po+5*i) (ints .i64 x.zs):=by
 obtain ⟨a2,c2,e,-,-,h4,hp⟩:=h;obtain ⟨rfl,-,rfl⟩:=Value.slice.inj e;have hlt:=(List.getElem?_eq_some_iff.1 hi).1;obtain ⟨pb',po',ea,-,-,hr⟩:=hp (by omega);obtain ⟨rfl,rfl,-⟩:=Addr.mk.inj (Option.some.inj ea);exact hr i x hi
theorem rangeBelow {w w':World} {pb o:Nat} {cs:List Value} (hb:Below w.heap.size w w') (hp:pb<w.heap.size) (h:w.rangeAt pb o cs):w'.rangeAt pb o cs:=Step.range (F:=[]) (F':=[]) (Step.of_below hb (Nat.le_refl _)) hp (by simp) h
end Go.Proofs.YtmceocgddaaohaaGreatDoor
namespace Go.Proofs.YtmceocgddaaohaaGreatDoor
open Go Go.RowKit
set_option maxRecDepth 100000
def ownL (v:Value):List Nat:=v.ownBlock.toList
theorem ownL_mem {v:Value} {g:Nat}:g∈ownL v↔v.ownBlock=some g:=by
 unfold ownL;cases v.ownBlock<;>simp [eq_comm]
theorem own_where {m:Nat} {w:World} {e:TypeId} {n s:Nat} {v:Value} {xs:List Value} (h:w.ownsRow m e s v n xs):∀ g,v.ownBlock=some g→m≤g∧g<w.heap.size:=fun g hg=>by
 obtain ⟨-,h1⟩:=h;rcases h1 with ⟨rfl,-⟩|⟨k,cap,cur,rfl,hb,hk,-⟩
 ·cases hg
 ·cases hg
  exact ⟨hb,(Array.getElem?_eq_some_iff.1 hk).1⟩
theorem grown_step {m:Nat} {w w':World} {v v':Value} (hg:w.grownBy w' v.ownBlock) (ha:v'.ownBlock=v.ownBlock∨v'.ownBlock=some w.heap.size):Step (List.range m++ownL v) w (List.range m++ownL v') w':=
 ⟨hg.os,hg.tape,hg.output,hg.size,fun k hk hn=>hg.block k hk (fun e=>hn (List.mem_append_right _ (ownL_mem.2 e.symm))),fun k hk=>by
  rcases List.mem_append.1 hk with hk|hk
  ·exact .inl (List.mem_append_left _ hk)
  ·rcases ha with ha|ha
   ·exact .inl (List.mem_append_right _ (ownL_mem.2 (ha ▸ ownL_mem.1 hk)))
   ·refine .inr ?_
    have:=ownL_mem.1 hk;rw [ha] at this;exact Nat.le_of_eq (Option.some.inj this)⟩
def RowL (m:Nat) (w:World) (v:Value) (ls:List Lv):Prop:=w.ownsRow m 80 5 v ls.length (ls.map fun l=>ints .i64 l.zs).flatten∧∀ l∈ls,l.p.length=4
theorem RowL.nil (m:Nat) (w:World):RowL m w (.slice none 0 0) []:=⟨World.ownsRow_nil w m 80 5,fun l h=>by cases h⟩
theorem RowL.step {m:Nat} {w w':World} {v:Value} {ls:List Lv} {F:List Nat} (h:RowL m w v ls) (hs:Step F w F w') (hF:∀ k∈F,k<m):RowL m w' v ls:=
 ⟨own_step h.1 hs (fun g hg hgF=>by have:=hF g hgF;have:=(own_where h.1 g hg).1;omega),h.2⟩
theorem RowL.below {m:Nat} {w w':World} {v:Value} {ls:List Lv} (h:RowL m w v ls) (hb:Below w.heap.size w w'):RowL m w' v ls:=h.step (F:=[]) (Step.of_below hb (Nat.le_refl _)) (fun k hk=>by cases hk)
theorem RowL.upd {m b:Nat} {w w':World} {v:Value} {ls:List Lv} (h:RowL m w v ls) (hu:Upd b w w') (hb:b<m):RowL m w' v ls:=h.step (F:=[b]) (Step.of_upd hu (by simp)) (fun k hk=>by simp at hk;omega)
theorem flat_at:∀ (ls:List Lv) (i:Nat) (l:Lv),(∀ x∈ls,x.p.length=4)→ls[i]?=some l→∀ (j:Nat) (u:Value),(ints .i64 l.zs)[j]?=some u→((ls.map fun l=>ints .i64 l.zs).flatten)[5*i+j]?=some u
 |[],i,l,_,h,_,_,_=>by simp at h
 |x::ls,0,l,h4,h,j,u,hu=>by
  obtain rfl:x=l:=(by simpa using h);have hj:=(List.getElem?_eq_some_iff.1 hu).1;rw [List.map_cons,List.flatten_cons,List.getElem?_append_left (by omega)]
  simpa using hu
 |x::ls,i+1,l,h4,h,j,u,hu=>by
  have hx:(ints .i64 x.zs).length=5:=(by rw [ints_length,Lv.zs];simp [h4 x List.mem_cons_self]);rw [List.map_cons,List.flatten_cons,List.getElem?_append_right (by omega),hx,show 5*(i+1)+j-5=5*i+j by omega];exact flat_at ls i l (fun y hy=>h4 y (List.mem_cons_of_mem _ hy)) (by simpa using h) j u hu
theorem RowL.in {m:Nat} {w:World} {v:Value} {ls:List Lv} (h:RowL m w v ls):LvsOff (List.range m) w v ls:=by
 have ho:=own_where h.1;obtain ⟨⟨h0,h1⟩,h2⟩:=h;rcases h1 with ⟨rfl,hn⟩|⟨g,cap,cur,rfl,hg,hb,hc,hm,hs,ht⟩
 ·obtain rfl:=List.eq_nil_of_length_eq_zero hn
  exact LvsOff.nil _ _ _ _
 ·refine ⟨some ⟨g,0,none⟩,cap,rfl,hc,by unfold maxLen at hm;omega,h2,fun _=>⟨g,0,rfl,fun hh=>by have:=List.mem_range.1 hh;omega,(Array.getElem?_eq_some_iff.1 hb).1,fun i l hi j u hu=>?_⟩⟩
  have hB:Blk w g 80 cur.toList:=(by unfold Blk;simpa using hb);refine hB.cell ?_;have h5:=flat_at ls i l h2 hi j u hu;rw [← ht,List.getElem?_take] at h5
  split at h5
  ·rw [Nat.zero_add];exact h5
  ·cases h5
theorem rng_low {B:Nat} {w w':World} {pb o:Nat} {cs:List Value} (h:w.rangeAt pb o cs) (hb:Below B w w') (hp:pb<B):w'.rangeAt pb o cs:=fun j u hu=>(hb.cell (p:=⟨pb,o+j,none⟩) hp).trans (h j u hu)
theorem grown_blk {w w':World} {row:Option Nat} {b:Nat} {t:TypeId} {cs:List Value} (hg:w.grownBy w' row) (h:Blk w b t cs) (hne:row≠some b):Blk w' b t cs:=by
 have:=hg.block b h.lt (Ne.symm hne);unfold Blk at h ⊢;rw [this,h]
theorem grown_below {m:Nat} {w w':World} {row:Option Nat} (hg:w.grownBy w' row) (hm:m≤w.heap.size) (hr:∀ g,row=some g→m≤g):Below m w w':=(Below.refl m w).grown hg hm hr
theorem TmAt.range {m n:Nat} {w:World} {t:Tm} {cs:List Value} (h:TmAt (List.range m) w t cs) (hn:n≤m):TmAt (List.range n) w t cs:=TmAt.sub (fun k hk=>.inl (List.mem_range.2 (by have:=List.mem_range.1 hk;omega))) t cs h
theorem TmAt.off {G:List Nat} {m:Nat} {w:World} {t:Tm} {cs:List Value} (h:TmAt (List.range m) w t cs) (hG:∀ k∈G,k<m∨w.heap.size≤k):TmAt G w t cs:=TmAt.sub (fun k hk=>(hG k hk).imp (fun h=>List.mem_range.2 h) id) t cs h
def NewTm (t:Tm) (w:World) (e:Ending) (w':World):Prop:=∃ cs,e=.returned (.agg cs.toArray)∧TmAt (List.range w.heap.size) w' t cs∧Below w.heap.size w w'
section
variable {P:Program} {ops:Array Oper} {Q:Exit→Act→World→Prop} {S:World→Prop} {fuel:Nat} {listed:Array Bool} {a:Act} {w:World}
theorem lin_putF (i off : Nat) (ty : TypeId) (x y : Operand) (b : Nat) (t : TypeId) (cs : List Value) (v : Value) (hi : (ops[i]?.isSome && Region.wanted (opAt ops i) (yielded ops a.tmps)) = true) (hd : (opAt ops i).dst = none)
    (ho:(opAt ops i).op=.store ty x y) (hx:a.eval x=.pointer (some ⟨b,off,none⟩)) (hy:a.eval y=v) (hb:Blk w b t cs) (hl:off<cs.length) (hz:(P.info? ty).map (·.size)=some 1) (hv:v.cells=#[v]) (h1:v.oneCell'=true)
    (h:∀ w',Blk w' b t (cs.set off v)→Upd b w w'→wpFrom P ops Q (i+1) (a.put none undef) w'):wpFrom P ops Q i a w:=
 lin_store i (w.setCell ⟨b,off,none⟩ v) hi hd (exec_store_cell ty x y ho b off v hx hy t cs hb hl hz hv h1) (h _ (hb.set off v) ((Upd.refl b w).setCell off v))
theorem reg_putT (i : Nat) (ty : TypeId) (x y : Operand) (b : Nat) (t : TypeId) (cs vs : List Value) (hi : (ops[i]?.isSome && (Region.ready .any ops listed == [i]) && Region.wanted (opAt ops i) (yielded ops a.tmps)) = true) (hd : (opAt ops i).dst = none)
    (ho:(opAt ops i).op=.store ty x y) (hx:a.eval x=.pointer (some ⟨b,0,none⟩)) (hy:a.eval y=.agg vs.toArray) (hb:Blk w b t cs) (hl:vs.length=cs.length) (hz:(P.info? ty).map (·.size)=some vs.length) (h1:vs.toArray.all (·.oneCell')=true)
    (h:∀ w',Blk w' b t vs→Upd b w w'→S w'∧wpAnyH P .any ops Q S fuel (listed.setIfInBounds i true) (a.put none undef) w'):wpAnyH P .any ops Q S (fuel+1) listed a w:=by
 obtain ⟨hS,hk⟩:=h (w.setCells b 0 vs) (hb.setWhole vs hl) ((Upd.refl b w).setCells vs 0);exact reg_store i _ hi hd (exec_store_mid ty x y ho b 0 vs hx hy (hb.there 0 _ (by omega)) hz h1) hS hk
end
theorem run_build_tm1 {F:List Nat} {w:World} {t:Tm} {cs:List Value} (h:TmAt F w t cs) (w':World):(Instr.buildSlice 23 1 #[(0,.agg cs.toArray)]).run Tryz.prog w'=.ok (.slice (some ⟨w'.heap.size,0,none⟩) 1 1) (w'.alloc (.cells cs.toArray 25)):=by
 obtain ⟨lv,av,rfl,h1,h2⟩:=h.open;obtain ⟨la,lc,rfl⟩:=h1.slice;obtain ⟨aa,ac,rfl⟩:=h2.slice;exact run_build_tm _ _ _ _ _ _ _ _ _ _
theorem slice_one {v:Value} (h:∃ a n c,v=.slice a n c):v.cells=#[v]∧v.oneCell'=true:=by
 obtain ⟨a,n,c,rfl⟩:=h;exact ⟨rfl,rfl⟩
theorem RowL.slice {m:Nat} {w:World} {v:Value} {ls:List Lv} (h:RowL m w v ls):∃ a n c,v=.slice a n c:=by
 obtain ⟨a,c,rfl⟩:=h.in.slice;exact ⟨a,_,c,rfl⟩
theorem sizeLvs:(Tryz.prog.info? 22).map (·.size)=some 1:=by kernel_rfl
theorem sizeTms:(Tryz.prog.info? 23).map (·.size)=some 1:=by kernel_rfl
end Go.Proofs.YtmceocgddaaohaaGreatDoor
namespace Go.Proofs.YtmceocgddaaohaaGreatDoor
open Go Go.RowKit
set_option maxRecDepth 100000
section
variable {P:Program} {ops:Array Oper} {Q:Exit→Act→World→Prop} {a:Act} {w:World}
theorem lin_putM (i o : Nat) (ty : TypeId) (x y : Operand) (b : Nat) (t : TypeId) (cs vs : List Value) (hi : (ops[i]?.isSome && Region.wanted (opAt ops i) (yielded ops a.tmps)) = true) (hd : (opAt ops i).dst = none)
    (ho:(opAt ops i).op=.store ty x y) (hx:a.eval x=.pointer (some ⟨b,o,none⟩)) (hy:a.eval y=.agg vs.toArray) (hb:Blk w b t cs) (hl:o+vs.length≤cs.length) (hz:(P.info? ty).map (·.size)=some vs.length) (h1:vs.toArray.all (·.oneCell')=true)
    (h:∀ w',Blk w' b t (splice cs o vs)→Upd b w w'→wpFrom P ops Q (i+1) (a.put none undef) w'):wpFrom P ops Q i a w:=
 lin_store i (w.setCells b o vs) hi hd (exec_store_mid ty x y ho b o vs hx hy (hb.there o _ hl) hz h1) (h _ (Blk.setCells vs hb o hl) ((Upd.refl b w).setCells vs o))
end
theorem lin_makeT {ops : Array Oper} {Q : Exit → Act → World → Prop} {a : Act} {w : World} (i : Nat) (n q : Nat) (kl kc : IntKind) (d : Option Tmp) (hi : (ops[i]?.isSome && Region.wanted (opAt ops i) (yielded ops a.tmps)) = true) (hd : (opAt ops i).dst = d)
    (he:execOp a.eval (opAt ops i)=(Instr.makeSlice 23 (.int kl (n:Int)) (.int kc (n:Int)) >>= fun x=>pure (.value x))) (hn:n*80≤140737488351232) (hq:Hid (w.heap.size=q))
    (h:∀ w' X,X.length=5*n→Blk w' q 25 X→Below q w w'→Hid (w'.heap.size=q+1)→wpFrom Tryz.prog ops Q (i+1) (a.put d (.slice (some ⟨q,0,none⟩) n n)) w'):wpFrom Tryz.prog ops Q i a w:=by
 obtain ⟨i0,hi0,hz0,hz1,hz2⟩:=info_parts infoTm;obtain rfl:=hq.out;have hr:=run_make w 23 25 i0 _ elemTms1 hi0 hz0 kl kc (n:Int) (n:Int) (by omega) (by omega) (by rw [hz2];omega) (by omega);rw [Int.toNat_natCast,hz1] at hr;refine lin_value i _ d _ hi hd (exec_of _ _ he hr) (h _ (madeCells (Value.agg #[.int .i64 0,.int .i64 0,strT [],.slice none 0 0,.slice none 0 0]).cells (n*5)).toList (by rw [Array.length_toList];simp [madeCells];omega) (Blk.new2 _ _ _ _ _ rfl (by simp)) ((Below.refl _ _).alloc (Nat.le_refl _) _) (by unfold Hid;simp))
theorem range_append {w:World} {pb po:Nat} {xs ys:List Value} (h1:w.rangeAt pb po xs) (h2:w.rangeAt pb (po+xs.length) ys):w.rangeAt pb po (xs++ys):=fun j u hu=>by
 by_cases hj:j<xs.length
 ·rw [List.getElem?_append_left hj] at hu
  exact h1 j u hu
 ·rw [List.getElem?_append_right (by omega)] at hu
  have:=h2 (j-xs.length) u hu
  rwa [show po+xs.length+(j-xs.length)=po+j by omega] at this
theorem flat_range {w:World} {pb:Nat}:∀ (ls:List Lv) (po:Nat),(∀ l∈ls,l.p.length=4)→(∀ (i:Nat) (l:Lv),ls[i]?=some l→w.rangeAt pb (po+5*i) (ints .i64 l.zs))→w.rangeAt pb po (ls.map fun l=>ints .i64 l.zs).flatten
 |[],po,_,_=>fun j u hu=>by simp at hu
 |l::ls,po,h4,h=>by
  have h5:(ints .i64 l.zs).length=5:=(by rw [ints_length,Lv.zs];simp [h4 l List.mem_cons_self]);rw [List.map_cons,List.flatten_cons];refine range_append (by simpa using h 0 l rfl) ?_;rw [h5];refine flat_range ls (po+5) (fun x hx=>h4 x (List.mem_cons_of_mem _ hx)) fun i x hx=>?_;have:=h (i+1) x (by simpa using hx)
  rwa [show po+5+5*i=po+5*(i+1) by omega]
theorem flat_len:∀ (ls:List Lv),(∀ l∈ls,l.p.length=4)→(ls.map fun l=>ints .i64 l.zs).flatten.length=ls.length*5
 |[],_=>rfl
 |l::ls,h4=>by
  have h5:(ints .i64 l.zs).length=5:=(by rw [ints_length,Lv.zs];simp [h4 l List.mem_cons_self]);have:=flat_len ls (fun x hx=>h4 x (List.mem_cons_of_mem _ hx))
  rw [List.map_cons,List.flatten_cons,List.length_append,this,h5,List.length_cons];omega
theorem flat_one (ls:List Lv):∀ u∈(ls.map fun l=>ints .i64 l.zs).flatten,u.oneCell'=true:=fun u hu=>by
 obtain ⟨c,hc,hu⟩:=List.mem_flatten.1 hu;obtain ⟨l,-,rfl⟩:=List.mem_map.1 hc;exact ints_one _ _ u hu
theorem levels_new {F : List Nat} {w : World} {la : Option Addr} {L lc : Nat} {ls : List Lv} (h : LvsOff F w (.slice la L lc) ls) (hL : ls.length = L) (hs : L * 40 ≤ 140737488351232) :
    ∃ v' w',(Builtin.append_ #[22,22] 22 #[.slice none 0 0,.slice la L lc]).run Tryz.prog w=.ok v' w'∧RowL w.heap.size w' v' ls∧Below w.heap.size w w':=by
 obtain ⟨a2,c2,e,-,-,h4,hp⟩:=h;obtain ⟨rfl,-,rfl⟩:=Value.slice.inj e;cases la with
 |none=>
  have h0:ls=[]:=by
   cases ls with
   |nil=>rfl
   |cons l ls=>
    obtain ⟨pb,po,e,-⟩:=hp (by simp);cases e
  subst h0;obtain rfl:L=0:=hL.symm;exact ⟨.slice none 0 0,w,by kernel_rfl,RowL.nil _ _,Below.refl _ _⟩
 |some ad=>
  obtain ⟨i0,hi0,hz0,hz1,hz2⟩:=info_parts infoLvS;obtain ⟨v',w',e1,e2,e3,-⟩:=run_append_own_at w w.heap.size 22 22 80 i0 _ 5 40 elemLvs1 hi0 hz0 hz1 hz2 (by rfl) (by decide) (.slice none 0 0) 0 [] (World.ownsRow_nil w _ _ _) ad L lc (ls.map fun l=>ints .i64 l.zs).flatten (by rw [flat_len ls h4,hL]) (fun j u hj=>by
   have hpos:0<ls.length:=by
    cases ls with
    |nil=>simp at hj
    |cons l ls=>simp
   obtain ⟨pb,po,e,-,-,hr⟩:=hp hpos;obtain rfl:=Option.some.inj e;rw [Addr.add_mid];exact flat_range ls po h4 hr j u hj) (flat_one ls) (by unfold maxLen;omega) (by omega) (Nat.le_refl _)
  refine ⟨v',w',e1,⟨?_,h4⟩,grown_below e3 (Nat.le_refl _) (fun g hg=>by cases hg)⟩
  rw [hL]
  simpa using e2
theorem splice_take {X c:List Value} {n:Nat} (h:n+c.length≤X.length):(splice X n c).take (n+c.length)=X.take n++c:=by
 unfold splice;rw [List.take_append_of_le_length (by simp;omega)];rw [List.take_of_length_le (by simp;omega)]
theorem TmCells.tms {F:List Nat} {w:World} {ts:List Tm} {ds:List (List Value)} {g n:Nat} {X:List Value} (h:TmCells F w ts ds) (hn:ts.length=n) (hb:Blk w g 25 X) (hX:X=ds.flatten) (hg:g∉F):TmsAt F w ts (.slice (some ⟨g,0,none⟩) n n):=by
 subst hn;refine TmsAt.of (Nat.le_refl _) hg hb.lt fun i t hi=>?_;obtain ⟨c,h1,h2⟩:=TmCells.at h hi;exact ⟨c,fun j u hu=>hb.cell (by rw [hX,Nat.zero_add];exact h2 j u hu),h1⟩
set_option maxHeartbeats 8000000 in
theorem cloneall_walk (a : List Tm) (ih : ∀ x ∈ a, ∀ (cs : List Value) (w : World) (F : List Nat), TmAt F w x cs → SmT x → Calls Tryz.prog 41 #[.agg cs.toArray] w (NewTm x w)) (av : Value) (w : World) (F : List Nat) (ht : TmsAt F w a av) (ss : SmTs a) (sa : a.length * 80 ≤ 140737488351232) :
    Calls Tryz.prog 69 #[av] w fun e w'=>∃ v,e=.returned v∧TmsAt (List.range w.heap.size) w' a v∧Below w.heap.size w w':=by
 obtain ⟨aa,ac,rfl⟩:=ht.slice;obtain ⟨N,hAN⟩:∃ N,Hid (a.length=N):=⟨_,rfl⟩;rw [hAN.out] at ht sa ⊢;have H2:=hZ ht;have SS:=hZ ss;have SA:=hZ sa;obtain ⟨q,hq⟩:∃ q,Hid (w.heap.size=q):=⟨_,rfl⟩;rw [hq.out];clear ht ss sa
 go_enter Tryz.func69,Tryz.ntmps69
 by_cases h0:N=0
 ·have r0:decide ((N:Int)=0)=true:=by simp [h0]
  go_upto_region 1 with (fail);refine lbeg (opsOf Tryz.f69 1) ?_;refine lnow 0 (.slice aa N ac) (some 6) ?_;refine lnow 1 (.int .i64 (N:Int)) (some 7) ?_;refine lnow 2 (.bool (decide ((N:Int)=0))) (some 8) ?_;rw [r0];refine ldq 3 ?_;obtain rfl:a=[]:=List.eq_nil_of_length_eq_zero (by rw [hAN.out];exact h0);go_wp2;go_ret;exact ⟨.slice none 0 0,rfl,TmsAt.nil _ _ _ _,Below.refl _ _⟩
 have r0:decide ((N:Int)=0)=false:=(by simp [h0]);go_upto_region 1 with (fail);refine lbeg (opsOf Tryz.f69 1) ?_;refine lnow 0 (.slice aa N ac) (some 6) ?_;refine lnow 1 (.int .i64 (N:Int)) (some 7) ?_;refine lnow 2 (.bool (decide ((N:Int)=0))) (some 8) ?_;rw [r0];refine ldq 3 ?_;go_upto_region 3 with (fail);refine lbeg (opsOf Tryz.f69 3) ?_;refine lnow 0 (.slice aa N ac) (some 9) ?_;refine lnow 1 (.int .i64 (N:Int)) (some 10) ?_;refine lin_makeT 2 N q .i64 .i64 (some 11) (by kernel_rfl) (by kernel_rfl) (by kernel_rfl) SA.out hq ?_;intro w1 X hX bw1 bew1 hsw1;refine lnow 3 (.slice (some ⟨q,0,none⟩) N N) (some 3) ?_;refine ldq 4 ?_;have BX:=hZ bw1;have BE:=hZ bew1;have LX:=hZ hX;have S1:Hid (q+1≤w1.heap.size):=(by have:=hsw1.out;rw [Hid];omega);clear bw1 bew1 hX hsw1;go_upto_region 4 with (fail);refine lbeg (opsOf Tryz.f69 4) ?_;refine lnow 0 (.slice aa N ac) (some 12) ?_;refine lnow 1 (.int .i64 (N:Int)) (some 13) ?_;refine lnow 2 (.int .i64 0) (some 14) ?_;refine ldq 3 ?_;go_wp2
 go_loopw [14] (fun iv wr=>∃ (i:Nat) (X:List Value) (ds:List (List Value)),i≤N∧iv=.int .i64 (i:Int)∧Hid (TmCells (List.range (q+1)) wr (a.take i) ds)∧Hid (X.length=5*N)∧Hid (X.take (5*i)=ds.flatten)∧Hid (Blk wr q 25 X)∧Hid (Below q w wr)∧Hid (q+1≤wr.heap.size)) (fun iv _=>N-(intOf iv).toNat)
 case atStart=>exact ⟨0,X,[],Nat.zero_le _,rfl,by rw [Hid,List.take_zero];trivial,LX,by rw [Hid];simp,BX,BE,S1⟩
 case round=>
  obtain ⟨i,X,ds,hi,rfl,TC,LX,TX,BX,BE,SR⟩:=hrel;by_cases hlt:i<N
  rotate_left
  ·have r1:¬ (i:Int)<(N:Int):=by omega
   obtain rfl:i=N:=(by omega);have hTC:=TC.out;rw [List.take_of_length_le (by have:=hAN.out;omega)] at hTC;have hXd:=TX.out;rw [List.take_of_length_le (by have:=LX.out;omega)] at hXd;have FIN:Hid (TmsAt (List.range q) wr a (.slice (some ⟨q,0,none⟩) i i)):=TmsAt.sub (fun k hk=>.inl (List.mem_range.2 (by have:=List.mem_range.1 hk;omega))) a _ (TmCells.tms (TmCells.sub (fun k hk=>.inl (List.mem_range.2 (by have:=List.mem_range.1 hk;omega))) hTC:TmCells (List.range q) wr a ds) hAN.out BX.out hXd (by simp))
   clear hTC hXd;go_wp2;go_ret;exact ⟨_,rfl,FIN.out,BE.out⟩
  have r1:(i:Int)<(N:Int):=(by omega);obtain ⟨x,pb,po,ci,hxi,hxm,haa,-,hpb,-,hcr,hct⟩:=H2.out.get hAN.out hlt;subst haa;have IH:=ih x hxm;have XS:=SmTs.mem SS.out hxm;have HCR:Hid (wr.rangeAt pb (po+5*i) ci):=rng_low hcr BE.out (by have:=hq.out;omega);have HCT:Hid (TmAt F wr x ci):=TmAt.step (Step.of_below BE.out (by have:=hq.out;omega)) _ _ hct;have CI5:=hZ hct.len;have CI1:=hZ hct.one;have TK:Hid (a.take (i+1)=a.take i++[x]):=(by rw [Hid,List.take_add_one,hxi];rfl);clear hxi hxm hpb hcr hct;obtain ⟨qr,hqr⟩:∃ y,Hid (wr.heap.size=y):=⟨_,rfl⟩;go_upto_region 6 with (fail);refine lbeg (opsOf Tryz.f69 6) ?_;refine lnow 0 (.int .i64 (i:Int)) (some 16) ?_;refine lix 1 (.pointer (some ⟨pb,po+5*i,none⟩)) (some 17) 23 12 14 (run_at_tm pb po N ac i hlt _) ?_;refine lrl 2 ci (some 18) 25 17 pb (po+5*i) HCR.out Tryz.underlying25 (t5Size CI5.out) ?_;refine lall 3 25 z5T (qr) (some 5) hqr ?_;intro w3 bw3 bew3 hsw3;refine lnow 4 (.int .i64 (i:Int)) (some 4) ?_;refine lput 5 25 (.tmp 5) (.tmp 18) (qr) _ (z5T) (ci) bw3 (CI5.out.trans (rfl:z5T.length=5).symm) (t5Size CI5.out) (by simpa using CI1.out) ?_;intro w4 bw4 uw4;refine ldq 6 ?_;have BE4:Hid (Below wr.heap.size wr w4):=(by rw [Hid,hqr.out];exact uw4.below bew3 (Nat.le_refl _) (by have:=bew3.size;have:=hqr.out;omega));have TC4:Hid (TmCells (List.range (q+1)) w4 (a.take i) ds):=TmCells.step (Step.of_below BE4.out (Nat.le_refl _)) TC.out
  have BX4:Hid (Blk w4 q 25 X):=BX.out.below BE4.out BX.out.lt;have BF4:Hid (Below q w w4):=BE.out.trans (BE4.out.mono (by have:=SR.out;omega));have S4:Hid (q+1≤w4.heap.size):=(by have:=SR.out;have:=BE4.out.size;rw [Hid];omega);have B4:=hZ bw4;have CT4:Hid (TmAt F w4 x ci):=HCT.out.below BE4.out;clear bw3 bew3 hsw3 bw4 uw4 TC BX BE SR HCR HCT BE4;go_upto_region 7 with (fail);refine lbeg (opsOf Tryz.f69 7) ?_;refine lnow 0 (.slice (some ⟨q,0,none⟩) N N) (some 19) ?_;refine lnow 1 (.int .i64 (i:Int)) (some 20) ?_;refine lrl 2 (ci) (some 21) 25 5 (qr) 0 (B4.out).whole Tryz.underlying25 (t5Size CI5.out) ?_;refine lcal 3 41 #[.agg ci.toArray] (some 22) _ (IH ci w4 F CT4.out XS) ?_;rintro e w5 ⟨c',rfl,hct5,hb5⟩;refine ⟨_,rfl,?_⟩;have C5:=hZ hct5.len;have TC5:Hid (TmCells (List.range (q+1)) w5 (a.take i++[x]) (ds++[c'])):=TmCells.snoc (hct5.range S4.out) (TmCells.step (Step.of_below hb5 (Nat.le_refl _)) TC4.out);have BX5:Hid (Blk w5 q 25 X):=BX4.out.below hb5 BX4.out.lt;have BF5:Hid (Below q w w5):=BF4.out.trans (hb5.mono (by have:=S4.out;omega));have S5:Hid (q+1≤w5.heap.size):=(by have:=S4.out;have:=hb5.size;rw [Hid];omega);have ONE:=hZ hct5.one;clear hct5 hb5 TC4 BX4 BF4 S4 B4 CT4 IH XS;refine lix 4 (.pointer (some ⟨q,0+5*i,none⟩)) (some 23) 23 19 20 (run_at_tm q 0 N N i hlt _) ?_
  refine lin_putM 5 (0+5*i) 25 (.tmp 23) (.tmp 22) q 25 X c' (by kernel_rfl) (by kernel_rfl) (by kernel_rfl) (by kernel_rfl) (by kernel_rfl) BX5.out (by have:=LX.out;have:=C5.out;omega) (t5Size C5.out) (by simpa using ONE.out) ?_;intro w6 bw6 uw6;refine ldq 6 ?_;have NX:Hid ((splice X (0+5*i) c').length=5*N):=(by rw [Hid,splice_length (by have:=LX.out;have:=C5.out;omega)];exact LX.out);have NT:Hid ((splice X (0+5*i) c').take (5*(i+1))=(ds++[c']).flatten):=by
   have h1:=splice_take (X:=X) (c:=c') (n:=0+5*i) (by have:=LX.out;have:=C5.out;omega);rw [C5.out,Nat.zero_add,TX.out] at h1;rw [Hid,Nat.zero_add,show 5*(i+1)=5*i+5 by omega,h1];simp
  have NC:Hid (TmCells (List.range (q+1)) w6 (a.take (i+1)) (ds++[c'])):=(by rw [Hid,TK.out];exact TmCells.step (Step.of_upd uw6 (List.mem_range.2 (by omega))) TC5.out);have NB:Hid (Blk w6 q 25 (splice X (0+5*i) c')):=bw6;have NE:Hid (Below q w w6):=uw6.below BF5.out (Nat.le_refl _) (by have:=BF5.out.size;have:=hq.out;omega);have NS:Hid (q+1≤w6.heap.size):=(by have:=S5.out;have:=uw6.size;rw [Hid];omega);clear bw6 uw6 BX5 BF5 S5 TC5 ONE TX LX;have bl:=SA.out;go_wp2;go_roundw
  case rel=>exact ⟨i+1,splice X (0+5*i) c',ds++[c'],by omega,by go_num,NC,NX,NT,NB,NE,NS⟩
  case measure=>simp [intOf];omega
set_option maxHeartbeats 8000000 in
theorem clone_walk:∀ (t:Tm) (cs:List Value) (w:World) (F:List Nat),TmAt F w t cs→SmT t→Calls Tryz.prog 41 #[.agg cs.toArray] w (NewTm t w):=by
 refine Tm.byParts fun k n s ls a ih cs w F ht hs=>?_;obtain ⟨lv,av,rfl,h1,h2⟩:=ht.open;obtain ⟨-,sl,sa,ss⟩:=hs.open;dsimp only [Tm.kind,Tm.n,Tm.name,Tm.levels,Tm.args] at ht h1 h2 sl sa ss ⊢;obtain ⟨la,lc,rfl⟩:=h1.slice;obtain ⟨aa,ac,rfl⟩:=h2.slice;have hr:reachBytes=140737488351232:=rfl;obtain ⟨L,hL⟩:∃ L,Hid (ls.length=L):=⟨_,rfl⟩;obtain ⟨N,hAN⟩:∃ N,Hid (a.length=N):=⟨_,rfl⟩;rw [hL.out] at sl h1 ht ⊢;rw [hAN.out] at h2 ht ⊢;rw [hr] at sl sa;have H1:=hZ h1;have H2:=hZ h2;have CA:=fun w' F' (h:TmsAt F' w' a (.slice aa N ac))=>cloneall_walk a ih (.slice aa N ac) w' F' h ss sa
 have SL:=hZ sl;obtain ⟨q,hq⟩:∃ q,Hid (w.heap.size=q):=⟨_,rfl⟩;unfold NewTm;rw [hq.out];clear ht h1 h2 ss hs sl sa ih
 go_enter Tryz.func41,Tryz.ntmps41
 go_upto_region 0 with (fail);refine lbeg (opsOf Tryz.f41 0) ?_;refine lbox 0 25 (.tmp 0) ([.int .i64 k,.int .i64 n,strT s,.slice la L lc,.slice aa N ac]) (q) (some 1) hq ?_;intro w1 bw1 bew1 hsw1;refine lall 1 25 z5T (q+1) (some 2) hsw1 ?_;intro w2 bw2 bew2 hsw2;refine ldq 2 ?_;have B1:Hid (Blk w2 q 25 [.int .i64 k,.int .i64 n,strT s,.slice la L lc,.slice aa N ac]):=bw1.below bew2 (by omega);have B2:Hid (Blk w2 (q+1) 25 z5T):=bw2;have BE:Hid (Below q w w2):=bew1.trans (bew2.mono (by omega));have S2:Hid (w2.heap.size=q+2):=hsw2;clear bw1 bew1 hsw1 bw2 bew2 hsw2;obtain ⟨lv,w3,hrun,RL,hb3⟩:=levels_new (H1.out.step (Step.of_below BE.out (by have:=hq.out;omega))) hL.out SL.out;go_upto_region 1 with (fail);refine lbeg (opsOf Tryz.f41 1) ?_;refine lnow 0 (.pointer (some ⟨q,3,none⟩)) (some 3) ?_;refine lcl 1 (.slice la L lc) (some 4) 22 3 (q) 3 (B1.out.cell rfl) Tryz.underlying22 ?_;refine lin_value 2 lv (some 5) w3 (by kernel_rfl) (by kernel_rfl) (exec_of _ _ (by kernel_rfl) hrun) ?_;have B1b:Hid (Blk w3 q 25 [.int .i64 k,.int .i64 n,strT s,.slice la L lc,.slice aa N ac]):=B1.out.below hb3 B1.out.lt;have B2b:=hZ (B2.out.below hb3 B2.out.lt);have BEb:Hid (Below q w w3):=BE.out.trans (hb3.mono (by have:=S2.out;omega));rw [S2.out] at RL;have S3:Hid (q+2≤w3.heap.size):=(by have:=hb3.size;have:=S2.out;rw [Hid];omega);have LV1:=slice_one RL.slice;clear hrun hb3 B1 B2 BE S2
 refine lnow 3 (.pointer (some ⟨q,3,none⟩)) (some 6) ?_;refine lin_putF 4 3 22 (.tmp 6) (.tmp 5) q 25 [.int .i64 k,.int .i64 n,strT s,.slice la L lc,.slice aa N ac] lv (by kernel_rfl) (by kernel_rfl) (by kernel_rfl) (by kernel_rfl) (by kernel_rfl) B1b.out (by simp) sizeLvs LV1.1 LV1.2 ?_;intro w4 bw4 uw4;refine ldq 5 ?_;have D1:Hid (Blk w4 q 25 [.int .i64 k,.int .i64 n,strT s,lv,.slice aa N ac]):=bw4;have D2:Hid (Blk w4 (q+1) 25 z5T):=uw4.blk B2b.out (by omega);have DE:Hid (Below q w w4):=uw4.below BEb.out (Nat.le_refl _) (by have:=S3.out;have:=hq.out;have:=BEb.out.size;omega);have DL:Hid (RowL (q+2) w4 lv ls):=RowL.upd RL uw4 (by omega);have S4:Hid (q+2≤w4.heap.size):=(by have:=S3.out;have:=uw4.size;rw [Hid];omega);clear bw4 uw4 B1b B2b BEb RL S3 LV1;go_upto_region 2 with (fail);refine lbeg (opsOf Tryz.f41 2) ?_;refine lnow 0 (.pointer (some ⟨q,4,none⟩)) (some 7) ?_;refine lcl 1 (.slice aa N ac) (some 8) 23 7 (q) 4 (D1.out.cell rfl) Tryz.underlying23 ?_;refine lcal 2 69 #[.slice aa N ac] (some 9) _ (CA w4 F (H2.out.step (Step.of_below DE.out (by have:=hq.out;omega)))) ?_;rintro e w5 ⟨av,rfl,hta,hb5⟩;refine ⟨_,rfl,?_⟩;have E1:Hid (Blk w5 q 25 [.int .i64 k,.int .i64 n,strT s,lv,.slice aa N ac]):=D1.out.below hb5 D1.out.lt;have E2:=hZ (D2.out.below hb5 D2.out.lt);have EE:Hid (Below q w w5):=DE.out.trans (hb5.mono (by have:=S4.out;omega));have EL:=hZ (DL.out.below hb5)
 have S5:Hid (q+2≤w5.heap.size):=(by have:=S4.out;have:=hb5.size;rw [Hid];omega);have TA:Hid (TmsAt (List.range (q+2)) w5 a av):=TmsAt.sub (fun k hk=>.inl (List.mem_range.2 (by have:=List.mem_range.1 hk;have:=S4.out;omega))) a av hta
 obtain ⟨a1,a2,hav⟩:=hta.slice;have AV1:=slice_one ⟨a1,_,a2,hav⟩;clear hta hav hb5 D1 D2 DE DL S4 CA;refine lnow 3 (.pointer (some ⟨q,4,none⟩)) (some 10) ?_;refine lin_putF 4 4 23 (.tmp 10) (.tmp 9) q 25 [.int .i64 k,.int .i64 n,strT s,lv,.slice aa N ac] av (by kernel_rfl) (by kernel_rfl) (by kernel_rfl) (by kernel_rfl) (by kernel_rfl) E1.out (by simp) sizeTms AV1.1 AV1.2 ?_;intro w6 bw6 uw6;refine ldq 5 ?_;have F1:Hid (Blk w6 q 25 [.int .i64 k,.int .i64 n,strT s,lv,av]):=bw6;have F2:Hid (Blk w6 (q+1) 25 z5T):=uw6.blk E2.out (by omega);have FE:Hid (Below q w w6):=uw6.below EE.out (Nat.le_refl _) (by have:=EE.out.size;have:=hq.out;omega);have S6:Hid (q+2≤w6.heap.size):=(by have:=S5.out;have:=uw6.size;rw [Hid];omega);have st:Step (List.range (q+2)) w5 (List.range (q+2)) w6:=Step.of_upd uw6 (List.mem_range.2 (by omega));have FIN:Hid (TmAt (List.range (q+2)) w6 (.mk k n s ls a) [.int .i64 k,.int .i64 n,strT s,lv,av]):=TmAt.mk (t:=.mk k n s ls a) ((RowL.in EL.out).step st) (TmsAt.step st a av TA.out);obtain ⟨DS,hDS⟩:∃ x,Hid ([.int .i64 k,.int .i64 n,strT s,lv,av]=x):=⟨_,rfl⟩;rw [hDS.out] at FIN F1;have DS5:Hid (DS.length=5):=FIN.out.len;have ONE:=hZ FIN.out.one;clear bw6 uw6 E1 E2 EE EL S5 TA AV1 st;go_upto_region 3 with (fail);refine lbeg (opsOf Tryz.f41 3) ?_;refine lrl 0 (DS) (some 11) 25 1 (q) 0 (F1.out).whole Tryz.underlying25 (t5Size DS5.out) ?_
 refine lput 1 25 (.tmp 2) (.tmp 11) (q+1) _ (z5T) (DS) F2.out (DS5.out.trans (rfl:z5T.length=5).symm) (t5Size DS5.out) (by simpa using ONE.out) ?_;intro w9 bw9 uw9;refine ldq 2 ?_;go_wp2;refine bodyPost_ret (v:=.agg DS.toArray) ?_ rfl ⟨DS,rfl,?_,uw9.below FE.out (by omega) (by have:=FE.out.size;have:=hq.out;omega)⟩
 ·exact results_cell_row (g:=q+1) (t:=25) (cs:=DS.toArray) (fr:=(0,0)) Tryz.results41 _ _ _ rfl bw9 Tryz.underlying25 rfl (t5Size DS5.out)
 ·exact (TmAt.step (Step.of_upd uw9 (List.mem_range.2 (by omega))) _ _ FIN.out).range (by omega)
end Go.Proofs.YtmceocgddaaohaaGreatDoor
